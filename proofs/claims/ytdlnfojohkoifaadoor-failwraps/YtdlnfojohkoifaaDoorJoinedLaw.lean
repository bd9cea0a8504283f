/-
  The law FailJoined as a walk.
-/
import Derived.Test.YtdlnfojohkoifaaDoorPath
namespace Go.Proofs.YtdlnfojohkoifaaDoor
open Go.RowKit Go.Extern.Stop Go.Stop Go.Extern

set_option maxRecDepth 100000 in
set_option maxHeartbeats 2000000 in
theorem failJoined_short (a b : Int) (op : ByteArray) (w : World) (hE : Env w) (hop : op.size ≤ maxLen) (h : (a == 0) = true ∨ (a == 0) = false ∧ (b == 0) = true ∨ (a == 0) = false ∧ (b == 0) = false ∧ 30 < op.size) :
    Calls Tryd.prog 7 #[.int .i64 a, .int .i64 b, .string op] w fun e w' => e = .returned (.bool true) ∧ Below w.heap.size w w' := by
  unfold maxLen at hop
  have HA : Hid (Calls Tryd.prog 8 #[] w fun e w' => e = .returned (.bool true) ∧ Below w.heap.size w w') := alive_true w hE
  rcases h with h | ⟨h, h2⟩ | ⟨h, h2, h3⟩
  all_goals
    go_enter Tryd.func7, Tryd.ntmps7
    go_wp2_with fail
    refine Calls.mono HA.out ?_
    rintro e w1 ⟨rfl, hB⟩
    go_wp2_with fail
    go_ret
    exact ⟨rfl, hB⟩

theorem nameAt_size : ∀ i : Fin 24, (nameAt i.1).size ≤ 7 := by decide +kernel
theorem nameOf_size (c : Int) : (nameOf c).size ≤ 7 := by
  unfold nameOf
  split
  · next h => exact nameAt_size ⟨c.toNat, by omega⟩
  · decide
theorem size_of_nonempty {op : ByteArray} (h : op.toList.isEmpty = false) : 1 ≤ op.size := by
  rw [ByteArray.toList_eq] at h
  have e : op.size = op.data.toList.length := rfl
  rw [e]
  cases hq : op.data.toList with
  | nil => rw [hq] at h; simp at h
  | cons _ _ => simp
theorem empty_of {op : ByteArray} (h : op.toList.isEmpty = true) : op = ⟨#[]⟩ := by
  rw [ByteArray.toList_eq] at h
  refine WideShapes.bytes_inj ?_
  cases hq : op.data.toList with
  | nil => rfl
  | cons _ _ => rw [hq] at h; simp at h
theorem empty_isEmpty : (⟨#[]⟩ : ByteArray).toList.isEmpty = true := by decide +kernel
theorem ownsRow_shape {w : World} {base : Nat} {v : Value} {n : Nat} {xs : List Value} (h : w.ownsRow base 9 1 v n xs) : ∃ ao cap, v = .slice ao n cap := by
  rcases h.2 with ⟨hv, h0⟩ | ⟨g, cap, cur, hv, _⟩
  · exact ⟨none, 0, by rw [hv, h0]⟩
  · exact ⟨_, _, hv⟩
theorem pre_empty {op : ByteArray} (h : op.toList.isEmpty = true) : pre op = [] := by simp [pre, h]
theorem pre_nonempty {op : ByteArray} (h : op.toList.isEmpty = false) : pre op = op.data.toList ++ [58, 32] := by simp [pre, h]
theorem words_two_empty {op : ByteArray} (a b : Int) (h : op.toList.isEmpty = true) : (⟨(words [(op, a), (⟨#[]⟩, b)]).toArray⟩ : ByteArray) = nameOf b := by
  have e : (⟨#[]⟩ : ByteArray).toList.isEmpty = true := by decide +kernel
  refine WideShapes.bytes_inj ?_
  simp [words, pre_empty h, pre_empty e]
theorem words_two {op : ByteArray} (a b : Int) (h : op.toList.isEmpty = false) : (⟨(words [(op, a), (⟨#[]⟩, b)]).toArray⟩ : ByteArray) = op ++ ⟨#[58, 32]⟩ ++ nameOf b := by
  have e : (⟨#[]⟩ : ByteArray).toList.isEmpty = true := by decide +kernel
  refine WideShapes.bytes_inj ?_
  simp [words, pre_nonempty h, pre_empty e]
theorem words_two_le (op : ByteArray) (a b : Int) (h : op.size ≤ 60) : (words [(op, a), (⟨#[]⟩, b)]).length ≤ 140737488355328 := by
  have h7 := nameOf_size b
  have e : op.size = op.data.toList.length := rfl
  have e2 : (nameOf b).size = (nameOf b).data.toList.length := rfl
  have e3 : (⟨#[]⟩ : ByteArray).toList.isEmpty = true := by decide +kernel
  have h8 : (pre op).length ≤ op.data.toList.length + 2 := by unfold pre; split <;> simp
  simp only [words, pre_empty e3, List.length_append, List.length_nil]
  omega

set_option maxRecDepth 100000 in
set_option maxHeartbeats 2000000 in
theorem failJoined_empty (a b : Int) (w : World) (hE : Env w) (ha : (a == 0) = false) (hb : (b == 0) = false) :
    Calls Tryd.prog 7 #[.int .i64 a, .int .i64 b, .string ⟨#[]⟩] w fun e w' => e = .returned (.bool true) ∧ Below w.heap.size w w' := by
  have mE := methodError
  have hmin : ∀ (ts : Array TypeId) (t : TypeId) (W : World), (Builtin.min_ ts t #[.int .i64 0, .int .i64 1]).run Tryd.prog W = .ok (.int .i64 0) W := fun _ _ _ => by rw [run_min_int2]; rfl
  have HW : Hid ((⟨(words [(⟨#[]⟩, a), (⟨#[]⟩, b)]).toArray⟩ : ByteArray) = nameOf b) := words_two_empty a b empty_isEmpty
  have HO : Hid ((opsOf [(⟨#[]⟩, a), (⟨#[]⟩, b)]).length = 0) := by show _ = _; simp [opsOf]
  have HL : Hid ((⟨#[]⟩ : ByteArray).size ≤ 60) := by show _ ≤ _; decide
  go_enter Tryd.func7, Tryd.ntmps7
  go_wp2_with fail
  refine (alive_true w hE).mono ?_
  rintro e w1 ⟨rfl, hB1⟩
  have hE1 := hE.grown hB1
  go_wp2_with fail
  refine (new_some b w1 hb).mono ?_
  rintro e w2 ⟨rfl, rfl⟩
  go_wp2_with fail
  refine (join_any ⟨#[]⟩ a _ _ (.inr ⟨_, _, rfl⟩)).mono ?_
  rintro e w3 ⟨rfl, rfl⟩
  have hB3 : Below w1.heap.size w1 ((w1.alloc (.cells #[.string ⟨#[]⟩, .int .i64 b, .nilIface] 28)).alloc (.cells #[.string ⟨#[]⟩, .int .i64 a, .iface 24 (.pointer (some ⟨w1.heap.size, 0, none⟩))] 28)) := ((Below.refl _ _).alloc (Nat.le_refl _) _).alloc (by simp) _
  have hch : Chain ((w1.alloc (.cells #[.string ⟨#[]⟩, .int .i64 b, .nilIface] 28)).alloc (.cells #[.string ⟨#[]⟩, .int .i64 a, .iface 24 (.pointer (some ⟨w1.heap.size, 0, none⟩))] 28)) (.iface 24 (.pointer (some ⟨w1.heap.size + 1, 0, none⟩))) [(⟨#[]⟩, a), (⟨#[]⟩, b)] := by
    refine .cons (by have := heap_alloc_new (w1.alloc (.cells #[.string ⟨#[]⟩, .int .i64 b, .nilIface] 28)) (.cells #[.string ⟨#[]⟩, .int .i64 a, .iface 24 (.pointer (some ⟨w1.heap.size, 0, none⟩))] 28); simpa using this) (.cons ?_ .nil)
    rw [Below.heap_alloc _ _ _ (by simp)]; exact heap_alloc_new w1 _
  generalize ((w1.alloc (.cells #[.string ⟨#[]⟩, .int .i64 b, .nilIface] 28)).alloc (.cells #[.string ⟨#[]⟩, .int .i64 a, .iface 24 (.pointer (some ⟨w1.heap.size, 0, none⟩))] 28)) = w3 at *
  have hE3 := hE1.grown hB3
  rw [show (w1.alloc (.cells #[.string ⟨#[]⟩, .int .i64 b, .nilIface] 28)).heap.size = w1.heap.size + 1 by simp]
  generalize w1.heap.size + 1 = k at *
  go_wp2_with fail
  refine (name_any b w3 hE3).mono ?_
  rintro e w4 ⟨rfl, rfl⟩
  have hnm := nameOf_size b
  go_wp2_with fail
  refine (code_chain _ _ _ _ _ hE3 hch).mono ?_
  rintro e w5 ⟨rfl, hB5⟩
  have hch5 := hch.grown hB5
  have hE5 := hE3.grown hB5
  go_wp2_with fail
  refine (has_some _ a _ _ hch5 ha).mono ?_
  rintro e w6 ⟨rfl, hB6⟩
  rw [show hasT a [(⟨#[]⟩, a), (⟨#[]⟩, b)] = true by simp [hasT]]
  have hch6 := hch5.grown hB6
  have hE6 := hE5.grown hB6
  go_wp2_with fail
  refine (has_some _ b _ _ hch6 hb).mono ?_
  rintro e w7 ⟨rfl, hB7⟩
  rw [show hasT b [(⟨#[]⟩, a), (⟨#[]⟩, b)] = true by simp [hasT]]
  have hch7 := hch6.grown hB7
  have hE7 := hE6.grown hB7
  go_wp2_with fail
  refine (error_chain _ _ _ hE7 hch7 (words_two_le _ a b HL.out)).mono ?_
  rintro e w8 ⟨rfl, hB8⟩
  rw [HW.out]
  have hch8 := hch7.grown hB8
  go_wp2_with fail
  refine (path_chain _ _ _ hch8 (by simp)).mono ?_
  rintro e w9 ⟨v9, rfl, hown, hB9⟩
  rw [HO.out] at hown
  obtain ⟨ao, cap, rfl⟩ := ownsRow_shape hown
  have hch9 := hch8.grown hB9
  have z3 := hB3.size
  have z1 := hB1.size
  have z5 := hB5.size
  have z6 := hB6.size
  have z7 := hB7.size
  have z8 := hB8.size
  have z9 := hB9.size
  have hall : Below w.heap.size w w9 := (((((hB1.trans (hB3.mono (by omega))).trans (hB5.mono (by omega))).trans (hB6.mono (by omega))).trans (hB7.mono (by omega))).trans (hB8.mono (by omega))).trans (hB9.mono (by omega))
  have hz : w.heap.size ≤ w9.heap.size := by omega
  clear hown HW HO HL hnm hE hE1 hE3 hE5 hE6 hE7 hch hch5 hch6 hch7 hch8 hB1 hB3 hB5 hB6 hB7 hB8 hB9 z3 z1 z5 z6 z7 z8 z9
  go_wp2_with fail
  refine (has_ok _ _ _ hch9).mono ?_
  rintro e w10 ⟨rfl, hB10⟩
  go_wp2_with fail
  go_ret
  exact ⟨rfl, hall.trans (hB10.mono hz)⟩

set_option maxRecDepth 100000 in
set_option maxHeartbeats 2000000 in
theorem failJoined_nonempty (a b : Int) (op : ByteArray) (w : World) (hE : Env w) (ha : (a == 0) = false) (hb : (b == 0) = false) (hem : op.toList.isEmpty = false) (h30 : (op.size : Int) ≤ 30) (h1 : 1 ≤ (op.size : Int)) :
    Calls Tryd.prog 7 #[.int .i64 a, .int .i64 b, .string op] w fun e w' => e = .returned (.bool true) ∧ Below w.heap.size w w' := by
  have mE := methodError
  have hmin : ∀ (ts : Array TypeId) (t : TypeId) (W : World), (Builtin.min_ ts t #[.int .i64 (op.size : Int), .int .i64 1]).run Tryd.prog W = .ok (.int .i64 1) W := fun _ _ _ => by rw [run_min_int2, show (if (1 : Int) < (op.size : Int) then (1 : Int) else (op.size : Int)) = 1 by split <;> omega]
  have HW : Hid ((⟨(words [(op, a), (⟨#[]⟩, b)]).toArray⟩ : ByteArray) = op ++ ⟨#[58, 32]⟩ ++ nameOf b) := words_two a b hem
  have HO : Hid ((opsOf [(op, a), (⟨#[]⟩, b)]).length = 1) := by show _ = _; simp [opsOf, hem]
  have HL : Hid (op.size ≤ 60) := by show _ ≤ _; omega
  go_enter Tryd.func7, Tryd.ntmps7
  go_wp2_with fail
  refine (alive_true w hE).mono ?_
  rintro e w1 ⟨rfl, hB1⟩
  have hE1 := hE.grown hB1
  go_wp2_with fail
  refine (new_some b w1 hb).mono ?_
  rintro e w2 ⟨rfl, rfl⟩
  go_wp2_with fail
  refine (join_any op a _ _ (.inr ⟨_, _, rfl⟩)).mono ?_
  rintro e w3 ⟨rfl, rfl⟩
  have hB3 : Below w1.heap.size w1 ((w1.alloc (.cells #[.string ⟨#[]⟩, .int .i64 b, .nilIface] 28)).alloc (.cells #[.string op, .int .i64 a, .iface 24 (.pointer (some ⟨w1.heap.size, 0, none⟩))] 28)) := ((Below.refl _ _).alloc (Nat.le_refl _) _).alloc (by simp) _
  have hch : Chain ((w1.alloc (.cells #[.string ⟨#[]⟩, .int .i64 b, .nilIface] 28)).alloc (.cells #[.string op, .int .i64 a, .iface 24 (.pointer (some ⟨w1.heap.size, 0, none⟩))] 28)) (.iface 24 (.pointer (some ⟨w1.heap.size + 1, 0, none⟩))) [(op, a), (⟨#[]⟩, b)] := by
    refine .cons (by have := heap_alloc_new (w1.alloc (.cells #[.string ⟨#[]⟩, .int .i64 b, .nilIface] 28)) (.cells #[.string op, .int .i64 a, .iface 24 (.pointer (some ⟨w1.heap.size, 0, none⟩))] 28); simpa using this) (.cons ?_ .nil)
    rw [Below.heap_alloc _ _ _ (by simp)]; exact heap_alloc_new w1 _
  generalize ((w1.alloc (.cells #[.string ⟨#[]⟩, .int .i64 b, .nilIface] 28)).alloc (.cells #[.string op, .int .i64 a, .iface 24 (.pointer (some ⟨w1.heap.size, 0, none⟩))] 28)) = w3 at *
  have hE3 := hE1.grown hB3
  rw [show (w1.alloc (.cells #[.string ⟨#[]⟩, .int .i64 b, .nilIface] 28)).heap.size = w1.heap.size + 1 by simp]
  generalize w1.heap.size + 1 = k at *
  go_wp2_with fail
  refine (name_any b w3 hE3).mono ?_
  rintro e w4 ⟨rfl, rfl⟩
  have hnm := nameOf_size b
  go_wp2_with fail
  refine (code_chain _ _ _ _ _ hE3 hch).mono ?_
  rintro e w5 ⟨rfl, hB5⟩
  have hch5 := hch.grown hB5
  have hE5 := hE3.grown hB5
  go_wp2_with fail
  refine (has_some _ a _ _ hch5 ha).mono ?_
  rintro e w6 ⟨rfl, hB6⟩
  rw [show hasT a [(op, a), (⟨#[]⟩, b)] = true by simp [hasT]]
  have hch6 := hch5.grown hB6
  have hE6 := hE5.grown hB6
  go_wp2_with fail
  refine (has_some _ b _ _ hch6 hb).mono ?_
  rintro e w7 ⟨rfl, hB7⟩
  rw [show hasT b [(op, a), (⟨#[]⟩, b)] = true by simp [hasT]]
  have hch7 := hch6.grown hB7
  have hE7 := hE6.grown hB7
  go_wp2_with fail
  refine (error_chain _ _ _ hE7 hch7 (words_two_le _ a b HL.out)).mono ?_
  rintro e w8 ⟨rfl, hB8⟩
  rw [HW.out]
  have hch8 := hch7.grown hB8
  go_wp2_with fail
  refine (path_chain _ _ _ hch8 (by simp)).mono ?_
  rintro e w9 ⟨v9, rfl, hown, hB9⟩
  rw [HO.out] at hown
  obtain ⟨ao, cap, rfl⟩ := ownsRow_shape hown
  have hch9 := hch8.grown hB9
  have z3 := hB3.size
  have z1 := hB1.size
  have z5 := hB5.size
  have z6 := hB6.size
  have z7 := hB7.size
  have z8 := hB8.size
  have z9 := hB9.size
  have hall : Below w.heap.size w w9 := (((((hB1.trans (hB3.mono (by omega))).trans (hB5.mono (by omega))).trans (hB6.mono (by omega))).trans (hB7.mono (by omega))).trans (hB8.mono (by omega))).trans (hB9.mono (by omega))
  have hz : w.heap.size ≤ w9.heap.size := by omega
  clear hown HW HO HL hnm hE hE1 hE3 hE5 hE6 hE7 hch hch5 hch6 hch7 hch8 hB1 hB3 hB5 hB6 hB7 hB8 hB9 z3 z1 z5 z6 z7 z8 z9
  go_wp2_with fail
  refine (has_ok _ _ _ hch9).mono ?_
  rintro e w10 ⟨rfl, hB10⟩
  go_wp2_with fail
  go_ret
  exact ⟨rfl, hall.trans (hB10.mono hz)⟩

theorem failJoined_true (a b : Int) (op : ByteArray) (w : World) (hE : Env w) (hop : op.size ≤ maxLen) :
    Calls Tryd.prog 7 #[.int .i64 a, .int .i64 b, .string op] w fun e w' => e = .returned (.bool true) ∧ Below w.heap.size w w' := by
  cases ha : (a == 0)
  · cases hb : (b == 0)
    · by_cases h30 : 30 < op.size
      · exact failJoined_short a b op w hE hop (.inr (.inr ⟨ha, hb, h30⟩))
      · cases hem : op.toList.isEmpty
        · have := size_of_nonempty hem
          exact failJoined_nonempty a b op w hE ha hb hem (by omega) (by omega)
        · obtain rfl := empty_of hem
          exact failJoined_empty a b w hE ha hb
    · exact failJoined_short a b op w hE hop (.inr (.inl ⟨ha, hb⟩))
  · exact failJoined_short a b op w hE hop (.inl ha)
end Go.Proofs.YtdlnfojohkoifaaDoor
