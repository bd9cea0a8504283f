/-
  slices.Insert of one header at a list's front.
-/
import Derived.Test.YtlfkomdkimphnaaDoorTApp
namespace Go.Proofs.YtlfkomdkimphnaaDoor
open Go.RowKit

theorem pair_src (w : World) (vb : Nat) (f : Fld) (hv : w.heap[vb]? = some (.cells #[.string f.1, .string f.2] 28 (0, 0))) : ∀ j u, (fcells [f])[j]? = some u → w.cell? ((⟨vb, 0, none⟩ : Addr).add j) = some u := by
  intro j u hj
  rw [Addr.add_mid]
  match j, hj with
  | 0, hj => simp [fcells, fpair] at hj; subst hj; simp [World.cell?, hv]
  | 1, hj => simp [fcells, fpair] at hj; subst hj; simp [World.cell?, hv]

/-- What Insert leaves. -/
def Inserted (base : Nat) (v : Value) (l : List Fld) (w : World) (e : Ending) (w' : World) : Prop :=
  ∃ v', e = .returned v' ∧ w'.ownsRow base 28 2 v' l.length (fcells l) ∧ w.grownBy w' v.ownBlock ∧ ∀ k, v'.ownBlock = some k → v.ownBlock = some k ∨ w.heap.size ≤ k

set_option maxRecDepth 100000 in
set_option maxHeartbeats 2000000 in
/-- Nothing is there yet. -/
theorem insert_first {w : World} {base : Nat} {v : Value} (h : w.ownsRow base 28 2 v 0 []) (hb : base ≤ w.heap.size) (f : Fld) (vb : Nat) (hv : w.heap[vb]? = some (.cells #[.string f.1, .string f.2] 28 (0, 0))) :
    Calls Tryd.prog 30 #[v, .int .i64 0, .slice (some ⟨vb, 0, none⟩) 1 1] w (Inserted base v [f] w) := by
  obtain ⟨i5, hi5, hz0, hz1, hz2⟩ := info_parts infoF
  obtain ⟨v', w', h1, h2, h3, h4⟩ := run_append_new (P := Tryd.prog) 33 33 28 i5 _ 2 32 Tryd.underlying33 hi5 hz0 hz1 hz2 rfl (by decide) h ⟨vb, 0, none⟩ 1 1 (fcells [f]) rfl (pair_src w vb f hv) (fcells_one _) (by unfold maxLen; omega) (by omega) hb
  have HR : Hid (w'.ownsRow base 28 2 v' 1 (fcells [f]) ∧ w.grownBy w' v.ownBlock ∧ ∀ k, v'.ownBlock = some k → v.ownBlock = some k ∨ w.heap.size ≤ k) := ⟨by simpa using h2, h3, h4⟩
  have H1 := hid h1
  clear h1 h2 h3 h4 hv
  rcases h.2 with ⟨rfl, _⟩ | ⟨rb, cap, cur, rfl, _, _, hnc, hcm, _⟩
  · clear h
    go_enter Tryd.func30, Tryd.ntmps30
    go_wp2_with (at_builtin; refine wpList_append_run rfl _ _ 33 33 rfl _ _ rfl rfl H1.out ?_)
    go_ret
    exact ⟨v', rfl, HR.out⟩
  · clear h
    unfold maxLen at hcm
    go_enter Tryd.func30, Tryd.ntmps30
    go_wp2_with (at_builtin; refine wpList_append_run rfl _ _ 33 33 rfl _ _ rfl rfl H1.out ?_)
    all_goals
      go_ret
      exact ⟨v', rfl, HR.out⟩

set_option maxRecDepth 100000 in
set_option maxHeartbeats 2000000 in
/-- There is room. -/
theorem insert_room {w : World} {base rb cap : Nat} {l : List Fld} (h : w.ownsRow base 28 2 (.slice (some ⟨rb, 0, none⟩) l.length cap) l.length (fcells l)) (f : Fld) (vb : Nat) (hv : w.heap[vb]? = some (.cells #[.string f.1, .string f.2] 28 (0, 0))) (hne : vb ≠ rb) (hpos : 0 < l.length) (hroom : l.length + 1 ≤ cap) (hmost : l.length ≤ 1000000) :
    Calls Tryd.prog 30 #[.slice (some ⟨rb, 0, none⟩) l.length cap, .int .i64 0, .slice (some ⟨vb, 0, none⟩) 1 1] w (Inserted base (.slice (some ⟨rb, 0, none⟩) l.length cap) (f :: l) w) := by
  obtain ⟨i5, hi5, hz0, hz1, hz2⟩ := info_parts infoF
  have hfl := fcells_length l
  rcases h.2 with ⟨hx, _⟩ | ⟨rb', cap', cur, hx, hb, hg, hnc, hcm, hcs, ht⟩
  · cases hx
  simp only [Value.slice.injEq, Option.some.injEq, Addr.mk.injEq, and_true, true_and] at hx
  obtain ⟨rfl, rfl⟩ := hx
  -- the row behind the first copy, and behind the second one
  obtain ⟨R1, hR1⟩ : ∃ R1 : List Value, R1 = cur.toList.take 2 ++ (fcells l ++ cur.toList.drop (2 + (fcells l).length)) := ⟨_, rfl⟩
  have hR1l : R1.length = cap * 2 := by
    rw [hR1]
    simp only [List.length_append, List.length_take, List.length_drop, Array.length_toList, hcs, hfl]
    omega
  have hc1 : ∀ ty dc sc, (Builtin.copy_ #[33, 33] ty #[.slice (some ⟨rb, 2, none⟩) l.length dc, .slice (some ⟨rb, 0, none⟩) (l.length + 1) sc]).run Tryd.prog w.drew = .ok (goInt l.length) (w.drew.setRow rb R1.toArray) := by
    intro ty dc sc
    rw [hR1]
    exact run_copy_wide w.drew 33 33 ty 28 i5 2 Tryd.underlying33 hi5 hz1 rb 2 l.length dc ⟨rb, 0, none⟩ (l.length + 1) sc cur (fcells l) hg l.length (Nat.min_eq_right (by omega)) hfl
      (fun j u hj => h.cells (g := rb) rfl j u hj) (by rw [hfl, hcs]; omega) (fcells_one l)
  have hg1 : (w.drew.setRow rb R1.toArray).heap[rb]? = some (.cells R1.toArray 28 (0, 0)) := setRow_heap w.drew rb cur _ _ _ hg
  obtain ⟨R2, hR2⟩ : ∃ R2 : List Value, R2 = R1.take 0 ++ (fcells [f] ++ R1.drop (0 + (fcells [f]).length)) := ⟨_, rfl⟩
  have hc2 : ∀ ty dc, (Builtin.copy_ #[33, 33] ty #[.slice (some ⟨rb, 0, none⟩) (l.length + 1) dc, .slice (some ⟨vb, 0, none⟩) 1 1]).run Tryd.prog (w.drew.setRow rb R1.toArray) = .ok (goInt 1) ((w.drew.setRow rb R1.toArray).setRow rb R2.toArray) := by
    intro ty dc
    rw [hR2]
    exact run_copy_wide (w.drew.setRow rb R1.toArray) 33 33 ty 28 i5 2 Tryd.underlying33 hi5 hz1 rb 0 (l.length + 1) dc ⟨vb, 0, none⟩ 1 1 R1.toArray (fcells [f]) hg1 1 (Nat.min_eq_left (by omega)) rfl
      (pair_src _ vb f (by rw [setRow_other w.drew rb vb _ hne]; exact hv)) (by simp only [List.size_toArray, hR1l]; rw [fcells_length]; simp; omega) (fcells_one _)
  have HR : Hid (Inserted base (.slice (some ⟨rb, 0, none⟩) l.length cap) (f :: l) w (.returned (.slice (some ⟨rb, 0, none⟩) (l.length + 1) cap)) ((w.drew.setRow rb R1.toArray).setRow rb R2.toArray)) := by
    refine ⟨_, rfl, ⟨by rw [fcells_length], .inr ⟨rb, cap, _, rfl, hb, setRow_heap _ rb _ _ _ _ hg1, by simpa using hroom, hcm, ?_, ?_⟩⟩, ⟨rfl, rfl, rfl, by simp [World.setRow], fun k _ hk => ?_⟩, fun k hk => .inl hk⟩
    · rw [hR2]
      simp only [List.size_toArray, List.length_append, List.length_take, List.length_drop, hR1l, fcells_length, List.length_cons, List.length_nil]
      omega
    · rw [hR2, hR1]
      have e2 : (fcells [f]).length = 2 := rfl
      have e3 : (cur.toList.take 2).length = 2 := by rw [List.length_take, Array.length_toList, hcs]; omega
      simp only [List.take_zero, List.nil_append, Nat.zero_add, e2]
      rw [List.drop_append_of_le_length (by omega), List.drop_of_length_le (by omega), List.nil_append, ← List.append_assoc, ← fcells_append]
      have e4 : ([f] ++ l) = f :: l := rfl
      rw [e4]
      have e5 : (fcells (f :: l)).length = (l.length + 1) * 2 := by rw [fcells_length]; rfl
      rw [List.length_cons, ← e5]
      exact List.take_left
    · have hkr : k ≠ rb := fun e => hk (by simp [Value.ownBlock, e])
      rw [setRow_other _ rb k _ hkr, setRow_other _ rb k _ hkr]
      rfl
  have hov : ∀ lb cb, (callFunc 57 #[.slice (some ⟨vb, 0, none⟩) 1 1, .slice (some ⟨rb, 2, none⟩) lb cb]).run Tryd.prog w = .ok (.value (.bool false)) w := fun lb cb => by
    rw [run_callFunc_extern Tryd.func57 (by kernel_rfl) (by kernel_rfl) (by kernel_rfl) (e := Extern.SlicesOverlaps.overlaps #[33, 33] #[4]) (by kernel_rfl),
      Lib.run_overlaps_apart w 33 4 28 Tryd.underlying33 2 (fun w => by simp [sizeOf, typeInfo, hi5, hz1]) ⟨vb, 0, none⟩ ⟨rb, 2, none⟩ 1 1 lb cb hne 28 28 2 cur.size (by simp [World.shape?, hv]) (by simp [World.shape?, hg]) (by rw [hcs]; omega) (by simp [World.frozen?, hv]) (by simp [World.frozen?, hv])]
    rfl
  have hcm' := hcm
  unfold maxLen at hcm'
  have H1 := hid hc1
  have H2 := hid hc2
  have q1 : ¬ ((0 : Int) = (l.length : Int)) := by omega
  have q1' : ((0 : Int) == (l.length : Int)) = false := by simp; omega
  have q2 : ¬ ((cap : Int) < (l.length : Int) + 1) := by omega
  have q3 : ¬ (cap = 1) := by omega
  have q4 : ¬ (cap = 0) := by omega
  have q6 : IntKind.i64.wrap 1 = 1 := by decide
  have q7 : (1 : Int) ≤ (l.length : Int) + 1 := by omega
  have q8 : (0 : Int) ≤ (l.length : Int) + 1 := by omega
  clear hc1 hc2 hR1 hR2 hR1l hg1 hv hg ht hcs h hfl
  generalize l.length = n at *
  go_enter Tryd.func30, Tryd.ntmps30
  go_wp2_with (simp only [hov])
  go_region_law (refine step_copy_run rfl (.tmp 73) (.tmp 76) 33 33 rfl (.slice (some ⟨rb, 2, none⟩) n (cap - 1)) (.slice (some ⟨rb, 0, none⟩) (n + 1) cap) (by simp [Act.eval, Act.put]) (by simp [Act.eval, Act.put]) (H1.out _ _ _) ?_)
  have hc2 := H2.out
  clear H1 H2 hov
  go_wp2
  go_ret
  exact HR.out

set_option maxRecDepth 100000 in
set_option maxHeartbeats 2000000 in
/-- There is none: a new row. -/
theorem insert_grow {w : World} {base rb cap : Nat} {l : List Fld} (h : w.ownsRow base 28 2 (.slice (some ⟨rb, 0, none⟩) l.length cap) l.length (fcells l)) (hbase : base ≤ w.heap.size) (f : Fld) (vb : Nat) (hv : w.heap[vb]? = some (.cells #[.string f.1, .string f.2] 28 (0, 0))) (hpos : 0 < l.length) (hroom : ¬ l.length + 1 ≤ cap) (hmost : l.length ≤ 1000000) :
    Calls Tryd.prog 30 #[.slice (some ⟨rb, 0, none⟩) l.length cap, .int .i64 0, .slice (some ⟨vb, 0, none⟩) 1 1] w (Inserted base (.slice (some ⟨rb, 0, none⟩) l.length cap) (f :: l) w) := by
  obtain ⟨i5, hi5, hz0, hz1, hz2⟩ := info_parts infoF
  have hfl := fcells_length l
  have hrb := (h.lt rb rfl).2
  have hvlt : vb < w.heap.size := (Array.getElem?_eq_some_iff.1 hv).1
  rcases h.2 with ⟨hx, _⟩ | ⟨rb', cap', cur, hx, hb, hg, hnc, hcm, hcs, ht⟩
  · cases hx
  simp only [Value.slice.injEq, Option.some.injEq, Addr.mk.injEq, and_true, true_and] at hx
  obtain ⟨rfl, rfl⟩ := hx
  have hcap : cap = l.length := by omega
  have hrz : ∀ ty, (Builtin.append_ #[33, 3] ty #[.slice (some ⟨rb, 0, none⟩) 0 cap, .int .i64 ((l.length : Int) + 1)]).run Tryd.prog w =
      .ok (.slice (some ⟨w.heap.size, 0, none⟩) (l.length + 1) (grownCap w (l.length + 1) cap 28)) (w.drew.alloc (.cells (#[] ++ Builtin.zeroCells (Value.agg #[.string ⟨#[]⟩, .string ⟨#[]⟩]).cells (l.length + 1) ++ Builtin.zeroCells (Value.agg #[.string ⟨#[]⟩, .string ⟨#[]⟩]).cells (grownCap w (l.length + 1) cap 28 - (l.length + 1))) 28)) := fun ty => by
    have := Lib.run_append_grow_zeros w 33 3 ty 28 i5 _ .i64 .i64 Tryd.underlying33 Tryd.underlying3 hi5 hz0 (some ⟨rb, 0, none⟩) 0 cap [] (run_firstCells_some w.drew i5.size 0 ⟨rb, 0, none⟩ 0 cap [] (by simp) (by simp)) (l.length + 1) (by omega) (by omega) (by omega) (by omega) (by rw [hz2]; omega) (by rw [hz2]; exact growslice_fits (by omega) (by omega))
    rw [Nat.zero_add] at this
    simpa using this
  have hge := grownCap_ge w (l.length + 1) cap 28
  have hgm := grownCap_le_maxLen w (l.length + 1) cap 28 (by unfold maxLen; omega)
  generalize grownCap w (l.length + 1) cap 28 = G at *
  obtain ⟨R0, hR0⟩ : ∃ R0 : Array Value, R0 = #[] ++ Builtin.zeroCells (Value.agg #[.string ⟨#[]⟩, .string ⟨#[]⟩]).cells (l.length + 1) ++ Builtin.zeroCells (Value.agg #[.string ⟨#[]⟩, .string ⟨#[]⟩]).cells (G - (l.length + 1)) := ⟨_, rfl⟩
  have hR0l : R0.size = G * 2 := by
    rw [hR0]
    simp only [Array.size_append, size_zeroCells, Value.cells, List.size_toArray, List.length_nil, List.length_cons]
    omega
  rw [← hR0] at hrz
  have hg0 : (w.drew.alloc (.cells R0 28)).heap[w.heap.size]? = some (.cells R0 28 (0, 0)) := heap_alloc_new w.drew _
  obtain ⟨W0, hW0⟩ : ∃ W0 : World, W0 = w.drew.alloc (.cells R0 28) := ⟨_, rfl⟩
  rw [← hW0] at hrz hg0
  have hold : ∀ k, k < w.heap.size → W0.heap[k]? = w.heap[k]? := fun k hk => by rw [hW0]; exact Below.heap_alloc w.drew _ k hk
  have hsz0 : w.heap.size ≤ W0.heap.size := by rw [hW0]; simp
  have hos0 : W0.os = w.os ∧ W0.tape = w.tape ∧ W0.output = w.output := by rw [hW0]; exact ⟨rfl, rfl, rfl⟩
  clear hW0
  obtain ⟨R1, hR1⟩ : ∃ R1 : List Value, R1 = R0.toList.take 0 ++ (fcells [f] ++ R0.toList.drop (0 + (fcells [f]).length)) := ⟨_, rfl⟩
  have hR1l : R1.length = G * 2 := by
    rw [hR1]
    simp only [List.length_append, List.length_take, List.length_drop, Array.length_toList, hR0l, fcells_length, List.length_cons, List.length_nil]
    omega
  have hc1 : ∀ ty dc, (Builtin.copy_ #[33, 33] ty #[.slice (some ⟨w.heap.size, 0, none⟩) (l.length + 1) dc, .slice (some ⟨vb, 0, none⟩) 1 1]).run Tryd.prog W0 = .ok (goInt 1) (W0.setRow w.heap.size R1.toArray) := by
    intro ty dc
    rw [hR1]
    exact run_copy_wide W0 33 33 ty 28 i5 2 Tryd.underlying33 hi5 hz1 w.heap.size 0 (l.length + 1) dc ⟨vb, 0, none⟩ 1 1 R0 (fcells [f]) hg0 1 (Nat.min_eq_left (by omega)) rfl
      (pair_src _ vb f (by rw [hold vb hvlt]; exact hv)) (by rw [hR0l, fcells_length]; simp; omega) (fcells_one _)
  have hg1 : (W0.setRow w.heap.size R1.toArray).heap[w.heap.size]? = some (.cells R1.toArray 28 (0, 0)) := setRow_heap W0 w.heap.size _ _ _ _ hg0
  obtain ⟨R2, hR2⟩ : ∃ R2 : List Value, R2 = R1.take 2 ++ (fcells l ++ R1.drop (2 + (fcells l).length)) := ⟨_, rfl⟩
  have hc2 : ∀ ty dc sc, (Builtin.copy_ #[33, 33] ty #[.slice (some ⟨w.heap.size, 2, none⟩) l.length dc, .slice (some ⟨rb, 0, none⟩) l.length sc]).run Tryd.prog (W0.setRow w.heap.size R1.toArray).drew = .ok (goInt l.length) ((W0.setRow w.heap.size R1.toArray).drew.setRow w.heap.size R2.toArray) := by
    intro ty dc sc
    rw [hR2]
    refine run_copy_wide (W0.setRow w.heap.size R1.toArray).drew 33 33 ty 28 i5 2 Tryd.underlying33 hi5 hz1 w.heap.size 2 l.length dc ⟨rb, 0, none⟩ l.length sc R1.toArray (fcells l) hg1 l.length (Nat.min_self _) hfl
      (fun j u hj => ?_) (by simp only [List.size_toArray, hR1l]; rw [hfl]; omega) (fcells_one _)
    have := h.cells (g := rb) rfl j u hj
    rw [Addr.add_mid] at this ⊢
    rw [← this]
    refine World.cell?_of_block (a := ⟨rb, 0 + j, none⟩) ?_
    show (W0.setRow w.heap.size R1.toArray).heap[rb]? = w.heap[rb]?
    rw [setRow_other W0 _ rb _ (by omega), hold rb hrb]
  have HR : Hid (Inserted base (.slice (some ⟨rb, 0, none⟩) l.length cap) (f :: l) w (.returned (.slice (some ⟨w.heap.size, 0, none⟩) (l.length + 1) G)) ((W0.setRow w.heap.size R1.toArray).drew.setRow w.heap.size R2.toArray)) := by
    refine ⟨_, rfl, ⟨by rw [fcells_length], .inr ⟨w.heap.size, G, _, rfl, hbase, setRow_heap _ w.heap.size _ _ _ _ hg1, by simpa using hge, hgm, ?_, ?_⟩⟩, ⟨hos0.1, hos0.2.1, hos0.2.2, by simp [World.setRow]; exact hsz0, fun k hk _ => ?_⟩, fun k hk => .inr (by simp [Value.ownBlock] at hk; omega)⟩
    · rw [hR2]
      simp only [List.size_toArray, List.length_append, List.length_take, List.length_drop, hR1l, fcells_length]
      omega
    · rw [hR2, hR1]
      have e2 : (fcells [f]).length = 2 := rfl
      simp only [List.take_zero, List.nil_append, Nat.zero_add, e2]
      have e6 : (fcells [f] ++ R0.toList.drop 2).take 2 = fcells [f] := List.take_left' e2
      rw [e6, ← List.append_assoc, ← fcells_append]
      have e4 : ([f] ++ l) = f :: l := rfl
      rw [e4]
      have e5 : (fcells (f :: l)).length = (l.length + 1) * 2 := by rw [fcells_length]; rfl
      rw [List.length_cons, ← e5]
      exact List.take_left
    · rw [setRow_other _ _ k _ (by omega)]
      show (W0.setRow w.heap.size R1.toArray).heap[k]? = w.heap[k]?
      rw [setRow_other _ _ k _ (by omega), hold k hk]
  have hcm' := hcm
  unfold maxLen at hcm' hgm
  have H0 := hid hrz
  have H2 := hid hc2
  have q1' : ((0 : Int) == (l.length : Int)) = false := by simp; omega
  have q2 : (cap : Int) < (l.length : Int) + 1 := by omega
  have q3 : ¬ (G = 1) := by omega
  have q4 : ¬ (G = 0) := by omega
  have q5 : ¬ (cap = 0) := by omega
  have q6 : IntKind.i64.wrap 1 = 1 := by decide
  have q7 : (1 : Int) ≤ (l.length : Int) + 1 := by omega
  have q8 : (0 : Int) ≤ (l.length : Int) + 1 := by omega
  have q9 : (0 : Int) ≤ (l.length : Int) := by omega
  clear hrz hc2 hR1 hR2 hR1l hg1 hv hg ht hcs h hfl hR0 hR0l hg0 hos0 hsz0 hold hcap hroom
  generalize l.length = n at *
  go_enter Tryd.func30, Tryd.ntmps30
  go_wp2_with (at_builtin; refine wpList_append_run rfl _ _ 33 3 rfl _ _ rfl rfl (H0.out _) ?_)
  clear hc1 H0
  go_region_law (refine step_copy_run rfl (.tmp 50) (.tmp 53) 33 33 rfl (.slice (some ⟨w.heap.size, 2, none⟩) n (G - 1)) (.slice (some ⟨rb, 0, none⟩) n cap) (by simp [Act.eval, Act.put]) (by simp [Act.eval, Act.put]) (H2.out _ _ _) ?_)
  clear H2
  go_wp2
  go_ret
  exact HR.out

theorem insert_ok {w : World} {base : Nat} {v : Value} {l : List Fld} (h : w.ownsRow base 28 2 v l.length (fcells l)) (hb : base ≤ w.heap.size) (f : Fld) (vb : Nat) (hv : w.heap[vb]? = some (.cells #[.string f.1, .string f.2] 28 (0, 0))) (hne : v.ownBlock ≠ some vb) (hmost : l.length ≤ 1000000) :
    Calls Tryd.prog 30 #[v, .int .i64 0, .slice (some ⟨vb, 0, none⟩) 1 1] w (Inserted base v (f :: l) w) := by
  by_cases h0 : l.length = 0
  · obtain rfl : l = [] := List.eq_nil_of_length_eq_zero h0
    exact insert_first h hb f vb hv
  · rcases h.2 with ⟨_, hx⟩ | ⟨rb, cap, cur, rfl, _⟩
    · exact absurd hx h0
    · by_cases hroom : l.length + 1 ≤ cap
      · exact insert_room h f vb hv (fun e => hne (by rw [e]; rfl)) (by omega) hroom hmost
      · exact insert_grow h hb f vb hv (by omega) hroom hmost
end Go.Proofs.YtlfkomdkimphnaaDoor
