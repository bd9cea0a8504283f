/-
  The reference's Code; the book's SameTexts at two rows of the same texts; the statements' first call of all.
-/
import Derived.Test.YthgcbgdafoiacaaFmtETold
namespace Go.Proofs.YthgcbgdafoiacaaFmt
open Go.RowKit Go.Extern.Stop Go.Stop Go.Extern

set_option maxRecDepth 100000 in
set_option maxHeartbeats 2000000 in
theorem ref_code_in (c : Int) (w : World) (h0 : 0 ≤ c) (h1 : c < 24) : Calls Tryf.prog 6 #[.int .i64 c] w fun e w' => e = .returned (.string (nameOf c)) ∧ Keeps nobody w w' := by
  have hn0 : ¬ c < 0 := by omega
  go_enter Tryf.func6, Tryf.ntmps6
  go_wp2
  go_ret
  have e : ∀ (L : List Value) (h : c.toNat < L.length), L = namesL.map (fun l => Value.string ⟨l.toArray⟩) → L[c.toNat] = .string (nameAt c.toNat) := by
    rintro L h rfl
    simp only [List.length_map] at h
    simp [nameAt, List.getElem?_eq_getElem h]
  refine ⟨congrArg Ending.returned ((e _ _ rfl).trans ?_), keeps_alloc _ _⟩
  rw [nameOf, if_pos ⟨h0, h1⟩]
set_option maxRecDepth 100000 in
set_option maxHeartbeats 2000000 in
theorem ref_code_out (c : Int) (w : World) (h : c < 0 ∨ 24 ≤ c) : Calls Tryf.prog 6 #[.int .i64 c] w fun e w' => e = .returned (.string (nameOf c)) ∧ Keeps nobody w w' := by
  rw [show nameOf c = ⟨#[101, 114, 114, 111, 114]⟩ by rw [nameOf, if_neg (by omega)]]
  rcases h with h | h
  · go_enter Tryf.func6, Tryf.ntmps6
    go_wp2
    go_ret
    exact ⟨rfl, keeps_alloc _ _⟩
  · have hn0 : ¬ c < 0 := by omega
    go_enter Tryf.func6, Tryf.ntmps6
    go_wp2
    go_ret
    exact ⟨rfl, keeps_alloc _ _⟩
theorem ref_code (c : Int) (w : World) : Calls Tryf.prog 6 #[.int .i64 c] w fun e w' => e = .returned (.string (nameOf c)) ∧ Keeps nobody w w' := by
  by_cases h : 0 ≤ c ∧ c < 24
  · exact ref_code_in c w h.1 h.2
  · exact ref_code_out c w (by omega)

theorem ownsRow_cell {w : World} {base : Nat} {v : Value} {n : Nat} {l : List ByteArray} (h : w.ownsRow base 9 1 v n (strs l)) (h0 : 0 < n) :
    ∃ g cap, v = .slice (some ⟨g, 0, none⟩) n cap ∧ base ≤ g ∧ g < w.heap.size ∧ n ≤ cap ∧ cap ≤ maxLen ∧ l.length = n ∧ ∀ i, i < n → w.cell? ⟨g, i, none⟩ = some (.string (l.getD i ByteArray.empty)) := by
  have hl : (strs l).length = n * 1 := h.1
  rcases h.2 with ⟨_, hn⟩ | ⟨g, cap, cur, rfl, hb, hg, hcap, hm, hsz, htk⟩
  · omega
  have hln : l.length = n := by simpa [strs] using hl
  refine ⟨g, cap, rfl, hb, lt_of_heap hg, hcap, hm, hln, ?_⟩
  intro i hi
  have h1 : (strs l)[i]? = some (.string (l.getD i ByteArray.empty)) := by
    simp [strs, List.getD_eq_getElem?_getD, List.getElem?_eq_getElem (show i < l.length by omega)]
  rw [← htk, List.getElem?_take] at h1
  simp only [Nat.mul_one, hi, if_true] at h1
  simp only [World.cell?, hg]
  simpa using h1
theorem ownsRow_shape {w : World} {base : Nat} {e : TypeId} {v : Value} {n : Nat} {xs : List Value} (h : w.ownsRow base e 1 v n xs) : ∃ a c, v = .slice a n c := by
  rcases h.2 with ⟨rfl, rfl⟩ | ⟨g, cap, cur, rfl, _⟩
  · exact ⟨_, _, rfl⟩
  · exact ⟨_, _, rfl⟩
set_option maxRecDepth 100000 in
set_option maxHeartbeats 1000000 in
theorem same_none (a1 a2 : Option Addr) (c1 c2 : Nat) (w : World) :
    Calls Tryf.prog 14 #[.slice a1 0 c1, .slice a2 0 c2] w fun e w' => e = .returned (.bool true) ∧ Keeps nobody w w' := by
  go_enter Tryf.func14, Tryf.ntmps14
  go_wp2_with fail
  refine wp_loop_rounds 1 ?_
  rw [rounds_succ]
  go_wp2
  go_ret
  exact ⟨rfl, Keeps.refl _ _⟩
set_option maxRecDepth 100000 in
set_option maxHeartbeats 2000000 in
theorem same_some (g1 g2 n c1 c2 : Nat) (f : Nat → ByteArray) (w : World) (hn : n ≤ maxLen) (b1 : g1 < w.heap.size) (b2 : g2 < w.heap.size)
    (h1 : ∀ i, i < n → w.cell? ⟨g1, i, none⟩ = some (.string (f i))) (h2 : ∀ i, i < n → w.cell? ⟨g2, i, none⟩ = some (.string (f i))) :
    Calls Tryf.prog 14 #[.slice (some ⟨g1, 0, none⟩) n c1, .slice (some ⟨g2, 0, none⟩) n c2] w fun e w' => e = .returned (.bool true) ∧ Keeps nobody w w' := by
  unfold maxLen at hn
  go_enter Tryf.func14, Tryf.ntmps14
  go_wp2_with fail
  go_loopg [5] n (fun k i wr => ∃ j : Nat, k = n - j ∧ j ≤ n ∧ i = .int .i64 j ∧ Keeps nobody w wr)
  case atStart => exact ⟨0, by omega, by omega, rfl, Keeps.refl _ _⟩
  case round =>
    obtain ⟨j, hk, hj, rfl, hB⟩ := hrel
    have HK : Hid (gk = n - j) := hk
    clear hk
    by_cases hlt : j < n
    · have e1 : wr.cell? ⟨g1, j, none⟩ = some (.string (f j)) := (hB.cell (p := ⟨g1, j, none⟩) b1 id).trans (h1 j hlt)
      have e2 : wr.cell? ⟨g2, j, none⟩ = some (.string (f j)) := (hB.cell (p := ⟨g2, j, none⟩) b2 id).trans (h2 j hlt)
      have hlti : (j : Int) < (n : Int) := by omega
      clear h1 h2
      go_wp2_with fail
      go_quiet (fail)
      go_wp2_with fail
      go_roundg (n - (j + 1))
      case measure => rw [HK.out]; omega
      case rel => exact ⟨j + 1, rfl, by omega, by go_num, hB.drewN nq⟩
    · go_wp2_with fail
      go_ret
      exact ⟨rfl, hB⟩
theorem same_rows {base base' : Nat} (v1 v2 : Value) (l : List ByteArray) (w : World) (h1 : w.ownsRow base 9 1 v1 l.length (strs l)) (h2 : w.ownsRow base' 9 1 v2 l.length (strs l)) :
    Calls Tryf.prog 14 #[v1, v2] w fun e w' => e = .returned (.bool true) ∧ Keeps nobody w w' := by
  by_cases h0 : 0 < l.length
  · obtain ⟨g1, c1, rfl, _, b1, hc1, hm1, _, k1⟩ := ownsRow_cell h1 h0
    obtain ⟨g2, c2, rfl, _, b2, _, _, _, k2⟩ := ownsRow_cell h2 h0
    exact same_some g1 g2 l.length c1 c2 (fun i => l.getD i ByteArray.empty) w (by omega) b1 b2 k1 k2
  · have e : l.length = 0 := by omega
    rw [e] at h1 h2
    obtain ⟨a1, c1, rfl⟩ := ownsRow_shape h1
    obtain ⟨a2, c2, rfl⟩ := ownsRow_shape h2
    exact same_none a1 a2 c1 c2 w

/-- What the first call makes. -/
def busyE : Er := .fl ⟨#[111, 112, 101, 110]⟩ 13 (.fl ⟨#[]⟩ 13 .nil)
set_option maxRecDepth 100000 in
set_option maxHeartbeats 2000000 in
theorem alive_ok (w : World) (hE : Env w) : Calls Tryf.prog 4 #[] w fun e w' => e = .returned (.bool true) ∧ Keeps nobody w w' := by
  have mE := fl_mError
  have eE := fl_enter
  have k0 : Keeps nobody w (w.alloc (flObj ⟨#[]⟩ 13 .nilIface)) := keeps_alloc _ _
  have hE0 : Err (w.alloc (flObj ⟨#[]⟩ 13 .nilIface)) (flV w.heap.size) (.fl ⟨#[]⟩ 13 .nil) := .fl (heap_alloc_new w _) .nil
  have HW := hid (wrap_ok ⟨#[111, 112, 101, 110]⟩ _ _ _ (hE.quiet k0) rfl hE0)
  clear hE0
  go_enter Tryf.func4, Tryf.ntmps4
  go_wp2_with fail
  refine (new_some 13 w (by decide)).mono ?_
  rintro e w1 ⟨rfl, rfl⟩
  go_wp2_with fail
  refine Calls.mono HW.out ?_
  rintro e w2 ⟨b, rfl, hB, k2⟩
  have hB : Err w2 (flV b) busyE := hB
  have K2 := k0.then k2
  have hE2 := hE.quiet K2
  have hS := says_ok busyE.deep w2 (flV b) busyE (Nat.le_refl _) rfl hB (by decide +kernel)
  rw [show busyE.words = ⟨#[111, 112, 101, 110, 58, 32, 98, 117, 115, 121]⟩ by decide +kernel] at hS
  have H1 := hid (says_enter hS (fl_mError _) hE2 (Keeps.refl _ _))
  have H2 : Hid (∀ w3, Keeps nobody w2 w3 → Calls Tryf.prog 11 #[flV b] w3 fun e w' => e = .returned (.int .i64 13) ∧ Keeps nobody w3 w') := fun w3 h3 => code_ok busyE _ w3 (hE2.quiet h3) rfl (hB.quiet h3)
  have H3 : Hid (∀ w3, Keeps nobody w2 w3 → Calls Tryf.prog 12 #[flV b, .int .i64 13] w3 fun e w' => e = .returned (.bool true) ∧ Keeps nobody w3 w') := fun w3 h3 => has_some 13 rfl busyE _ w3 (hB.quiet h3)
  have H4 : Hid (∀ w3, Keeps nobody w2 w3 → Calls Tryf.prog 12 #[flV b, .int .i64 14] w3 fun e w' => e = .returned (.bool false) ∧ Keeps nobody w3 w') := fun w3 h3 => has_some 14 rfl busyE _ w3 (hB.quiet h3)
  have H5 : Hid (∀ w3, Keeps nobody w2 w3 → Calls Tryf.prog 15 #[.int .i64 18] w3 fun e w' => e = .returned (.string ⟨#[108, 97, 116, 101]⟩) ∧ w3 = w') := fun w3 h3 => by
    have := name_any 18 w3 (hE2.quiet h3)
    rwa [show nameOf 18 = ⟨#[108, 97, 116, 101]⟩ by decide +kernel] at this
  clear hS hB HW k0 k2 hE2 hE
  go_wp2_with fail
  refine (new_ok w2).mono ?_
  rintro e w3 ⟨rfl, rfl⟩
  go_wp2_with fail
  refine Calls.mono H1.out ?_
  rintro e w4 ⟨rfl, k4⟩
  go_wp2_with fail
  refine Calls.mono (H2.out w4 k4) ?_
  rintro e w5 ⟨rfl, k5⟩
  have K5 := k4.then k5
  go_wp2_with fail
  refine Calls.mono (H3.out w5 K5) ?_
  rintro e w6 ⟨rfl, k6⟩
  have K6 := K5.then k6
  go_wp2_with fail
  refine Calls.mono (H4.out w6 K6) ?_
  rintro e w7 ⟨rfl, k7⟩
  have K7 := K6.then k7
  go_wp2_with fail
  refine Calls.mono (H5.out w7 K7) ?_
  rintro e w8 ⟨rfl, rfl⟩
  go_wp2_with fail
  go_ret
  exact ⟨rfl, K2.then K7⟩
end Go.Proofs.YthgcbgdafoiacaaFmt
