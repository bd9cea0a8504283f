/-
  bywashbook: name, markFields, copyFields.
-/
import Derived.Test.YtlfkomdkimphnaaDoorRFind
import Derived.Laws.BytesArg
namespace Go.Proofs.YtlfkomdkimphnaaDoor
open Go.RowKit

def nameL (i k : Nat) : List Int := [109, 65 + (i : Int) % 26, 65 + (i : Int) / 26 % 26, 48 + (k : Int) % 10, 48 + (k : Int) / 10 % 10, 48 + (k : Int) / 100 % 10]
def nameS (i k : Nat) : ByteArray := strOfNums (nameL i k)

theorem conv_name (w : World) (a b c d e : Int) : (convert 96 9 (.slice (some ⟨w.heap.size, 0, none⟩) 6 6)).run Tryd.prog (w.alloc (.cells #[.int .u8 109, .int .u8 a, .int .u8 b, .int .u8 c, .int .u8 d, .int .u8 e] 5)) = .ok (.string (strOfNums [109, a, b, c, d, e])) (w.alloc (.cells #[.int .u8 109, .int .u8 a, .int .u8 b, .int .u8 c, .int .u8 d, .int .u8 e] 5)) := by
  refine run_convert_bytes_arg _ 96 5 Tryd.underlying96 Tryd.underlying5 w.heap.size 0 6 6 [109, a, b, c, d, e] rfl (fun i hi => ?_) 9 Tryd.underlying9
  rcases (by omega : i = 0 ∨ i = 1 ∨ i = 2 ∨ i = 3 ∨ i = 4 ∨ i = 5) with rfl | rfl | rfl | rfl | rfl | rfl <;> simp

set_option maxRecDepth 100000 in
theorem name_ok (i k : Nat) (w : World) (hi : i ≤ 1000000) (hk : k ≤ 1000000) : Calls Tryd.prog 69 #[.int .i64 (i : Int), .int .i64 (k : Int)] w fun e w' => e = .returned (.string (nameS i k)) ∧ Keeps nobody w w' := by
  have hcv := conv_name w
  go_enter Tryd.func69, Tryd.ntmps69
  go_wp2
  go_ret
  exact ⟨rfl, keeps_alloc w _⟩

/-- Marks: list number i, from place a on, n of them. -/
def marks (i a n : Nat) : List Fld := (List.range n).map fun t => (nameS i (a + t), ⟨#[]⟩)
theorem marks_length (i a n : Nat) : (marks i a n).length = n := by simp [marks]
theorem marks_succ (i a n : Nat) : marks i a (n + 1) = marks i a n ++ [(nameS i (a + n), ⟨#[]⟩)] := by simp [marks, List.range_succ]
theorem marks_append (i a n m : Nat) : marks i a n ++ marks i (a + n) m = marks i a (n + m) := by
  induction m with
  | zero => simp [marks]
  | succ m ih => rw [marks_succ, ← List.append_assoc, ih, ← Nat.add_assoc, marks_succ, Nat.add_assoc]
theorem marks_at (i a n t : Nat) (h : t < n) : (marks i a n)[t]? = some (nameS i (a + t), ⟨#[]⟩) := by simp [marks, h]

set_option maxRecDepth 100000 in
set_option maxHeartbeats 1000000 in
theorem mark_ok (i a n : Nat) (w : World) (hi : i ≤ 1000) (ha : a ≤ 1000) (hn : n ≤ 1000) : Calls Tryd.prog 65 #[.int .i64 (i : Int), .int .i64 (a : Int), .int .i64 (n : Int)] w fun e w' => ∃ v, e = .returned v ∧ w'.ownsRow w.heap.size 28 2 v n (fcells (marks i a n)) ∧ Keeps nobody w w' := by
  obtain ⟨i5, hi5, hz0, hz1, hz2⟩ := info_parts infoF
  have hN : Hid (∀ (k : Nat) W, k ≤ 3000 → Calls Tryd.prog 69 #[.int .i64 (i : Int), .int .i64 (k : Int)] W fun e w' => e = .returned (.string (nameS i k)) ∧ Keeps nobody W w') := fun k W h => name_ok i k W (by omega) (by omega)
  go_enter Tryd.func65, Tryd.ntmps65
  go_wp2
  go_loopg [7, 8] n (fun k ov iv wr => ∃ j : Nat, iv = .int .i64 ((a + j : Nat) : Int) ∧ k + j = n ∧ Hid (wr.ownsRow w.heap.size 28 2 ov j (fcells (marks i a j)) ∧ Keeps nobody w wr))
  case atStart => exact ⟨0, rfl, rfl, World.ownsRow_nil _ _ _ _, Keeps.refl _ _⟩
  case round =>
    obtain ⟨j, rfl, hk, G⟩ := hrel
    by_cases hj : j < n
    · have hlt : ((a + j : Nat) : Int) < (a : Int) + (n : Int) := by omega
      have HK := hid hk
      have hN1 := hid (fun W => hN.out (a + j) W (by omega))
      clear hk hN
      generalize hq : a + j = q at *
      have HQ := hid hq
      clear hq
      go_wp2_with fail
      refine Calls.mono (hN1.out _) ?_
      rintro e w1 ⟨rfl, hK1⟩
      have R1 := (hK1.row G.out.1 (fun _ _ => id)).alloc (.cells #[.string (nameS i q), .string ⟨#[]⟩] 28)
      have K1 := G.out.2.then hK1
      have hge : ∀ k, u7.ownBlock = some k → w.heap.size ≤ k := fun k hk => (G.out.1.lt k hk).1
      have hsz := K1.size
      have HM := hid (marks_succ i a j)
      rw [HQ.out] at HM
      generalize nameS i q = s at *
      clear G hN1
      go_wp2_with (at_builtin; refine wpList_append_own _ rfl _ _ 33 rfl w.heap.size 28 i5 (.agg #[.string ⟨#[]⟩, .string ⟨#[]⟩]) 2 32 Tryd.underlying33 hi5 hz0 hz1 hz2 rfl (by decide) _ _ _ rfl R1 ⟨w1.heap.size, 0, none⟩ 1 1 [.string s, .string ⟨#[]⟩] rfl rfl ?c1 ?c2 ?c3 ?c4 ?c5 ?_)
      case c1 =>
        intro t u ht
        rw [Addr.add_mid]
        match t, ht with
        | 0, ht => simp at ht; subst ht; simp
        | 1, ht => simp at ht; subst ht; simp
      case c2 => intro u hu; simp at hu; rcases hu with rfl | rfl <;> rfl
      case c3 => unfold maxLen; omega
      case c4 => omega
      case c5 => simp; omega
      intro v2 w2 hown2 hgrow _
      have H2 : Hid (w2.ownsRow w.heap.size 28 2 v2 (j + 1) (fcells (marks i a (j + 1))) ∧ Keeps nobody w w2) := by
        refine ⟨?_, (K1.alloc _).grown hgrow (fun k hk => .inr (hge k hk))⟩
        rw [HM.out, fcells_append]
        exact hown2
      clear hown2 hgrow R1 K1 hge HM
      go_wp2
      have hk := HK.out
      have hq := HQ.out
      go_roundg (gk - 1)
      case measure => omega
      case rel => exact ⟨j + 1, by simp; omega, by omega, H2⟩
    · obtain rfl : j = n := by omega
      clear hN hk
      go_wp2
      go_ret
      exact ⟨_, rfl, G.out⟩

set_option maxRecDepth 100000 in
theorem copy_ok {w : World} {base : Nat} {v : Value} {l : List Fld} (h : w.ownsRow base 28 2 v l.length (fcells l)) (hl : l.length ≤ 1000) : Calls Tryd.prog 35 #[v] w fun e w' => ∃ v', e = .returned v' ∧ w'.ownsRow w.heap.size 28 2 v' l.length (fcells l) ∧ Keeps nobody w w' := by
  obtain ⟨i5, hi5, hz0, hz1, hz2⟩ := info_parts infoF
  obtain ⟨v', w', h1, h2, h3, _⟩ := run_append_rows (P := Tryd.prog) 33 33 28 i5 _ 2 32 Tryd.underlying33 hi5 hz0 hz1 hz2 rfl (by decide) (World.ownsRow_nil w w.heap.size 28 2) h (fcells_one l) (by unfold maxLen; omega) (by omega) (Nat.le_refl _)
  have HR : Hid (w'.ownsRow w.heap.size 28 2 v' l.length (fcells l) ∧ Keeps nobody w w') := ⟨by simpa using h2, keeps_of_grown h3⟩
  have H1 := hid h1
  clear h h1 h2 h3
  go_enter Tryd.func35, Tryd.ntmps35
  go_wp2_with (at_builtin; refine wpList_append_run rfl _ _ 33 33 rfl _ _ rfl rfl H1.out ?_)
  go_ret
  exact ⟨v', rfl, HR.out⟩
end Go.Proofs.YtlfkomdkimphnaaDoor
