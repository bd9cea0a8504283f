/-
  Package pump: least, Sum.
-/
import Derived.Test.YtocpjajafocdaaaMMem
namespace Go.Proofs.Ytocpjajafocdaaa
open Go.RowKit

theorem least_ok (left most : Int) (p : Pt) (w : World) : Calls Try.prog 13 #[.int .i64 left, .int .i64 most, ptV p] w fun e w' => e = .returned (.int .i64 (leastI left most p.left p.pend)) ∧ Keeps nobody w w' := by
  have hm : ∀ ts t W, (Builtin.min_ ts t #[.int .i64 p.pend, .int .i64 p.left, .int .i64 left, .int .i64 most]).run Try.prog W = .ok (.int .i64 (leastI left most p.left p.pend)) W := min_four _ _ _ _
  generalize leastI left most p.left p.pend = n at *
  obtain ⟨i, pl, pd, f⟩ := p
  simp only at hm
  go_enter Try.func13, Try.ntmps13
  go_wp2
  go_ret
  exact ⟨rfl, keeps_alloc _ _⟩

theorem sum_drop (l : List Sl) (j : Nat) (s : Sl) (h : l[j]? = some s) : sumL (l.drop j) = s.n + sumL (l.drop (j + 1)) := by
  obtain ⟨hj, rfl⟩ := List.getElem?_eq_some_iff.1 h
  rw [List.drop_eq_getElem_cons hj]
  rfl
set_option maxRecDepth 100000 in
set_option maxHeartbeats 1000000 in
theorem sum_ok {w : World} {a : Option Addr} (cap : Nat) {l : List Sl} {S : Nat → Prop} (h : slR.Lies w a l S) (hn : ∀ s ∈ l, 0 ≤ s.n) (hs : sumL l ≤ 9223372036854775807) (hl : l.length ≤ 1000000000) : Calls Try.prog 12 #[.slice a l.length cap] w fun e w' => e = .returned (.int .i64 (sumL l)) ∧ Keeps nobody w w' := by
  obtain ⟨b, off, ha, hA⟩ := lies_atS (h.mono (S' := nobody) fun _ _ e => e.elim)
  have HC := hid hA
  have HA := hid ha
  have HN := hid hn
  have HD := hid fun j s => sum_drop l j s
  have HR := hid fun j => sum_nonneg (l.drop j) fun s hs => hn s (List.mem_of_mem_drop hs)
  have h0 : sumL (l.drop 0) = sumL l := by rw [List.drop_zero]
  have hz : sumL (l.drop l.length) = 0 := by rw [List.drop_length]; rfl
  clear h hA ha hn
  generalize sumL l = total at *
  have HZ := hid (And.intro h0 hz)
  clear h0 hz
  go_enter Try.func12, Try.ntmps12
  go_wp2
  go_loopg [3, 8] l.length (fun k sv iv wr => ∃ (j : Nat) (s : Int), sv = .int .i64 s ∧ iv = .int .i64 (j : Int) ∧ k + j = l.length ∧ Hid (s + sumL (l.drop j) = total ∧ 0 ≤ s ∧ Keeps nobody w wr))
  case atStart => exact ⟨0, 0, rfl, rfl, by omega, hid ⟨by have := HZ.out.1; omega, Int.le_refl _, Keeps.refl _ _⟩⟩
  case round =>
    obtain ⟨j, s, rfl, rfl, hk, HJ⟩ := hrel
    by_cases hj : j < l.length
    · obtain rfl : a = some ⟨b, off, none⟩ := by
        rcases HA.out with h | h
        · rw [h] at hj; simp at hj
        · exact h
      obtain ⟨⟨i, n, f⟩, hx⟩ : ∃ x, l[j]? = some x := ⟨_, List.getElem?_eq_getElem hj⟩
      obtain ⟨c0, c1, c2⟩ := HC.out _ HJ.out.2.2 j _ hx
      have hd := HD.out j _ hx
      have h1 := HJ.out.1
      have h2 := HJ.out.2.1
      have h3 := HN.out _ (List.mem_of_getElem? hx)
      have h4 := HR.out (j + 1)
      simp only at c0 c1 c2 hd h3
      have b1 : s + n ≤ 9223372036854775807 := by omega
      have b2 : 0 ≤ s + n := by omega
      have HE : Hid (s + n + sumL (l.drop (j + 1)) = total ∧ 0 ≤ s + n) := hid ⟨by omega, b2⟩
      have HK := hid hk
      clear hd h1 h4 hk hx HD HR HN HZ
      go_wp2
      have hk := HK.out
      go_roundg (gk - 1)
      case measure => omega
      case rel => exact ⟨j + 1, s + n, by simp, by simp, by omega, hid ⟨HE.out.1, HE.out.2, HJ.out.2.2.alloc _⟩⟩
    · obtain rfl : j = l.length := by omega
      have e : s = total := by
        have h1 := HJ.out.1
        have h2 := HZ.out.2
        omega
      subst e
      have hK := HJ.out.2.2
      clear HJ HD HR HN HZ HC
      go_wp2
      go_ret
      exact ⟨rfl, hK⟩
end Go.Proofs.Ytocpjajafocdaaa
