/-
  The law SqueezeBytes as a walk.
-/
import Derived.Test.YtnaheinebhcimaaSPads
import Derived.Deep.DeepCutAuto
namespace Go.Proofs.Ytnaheinebhcimaa
open Go.RowKit
attribute [local irreducible] bitsN nb code

abbrev oneByte (x : Int) : Obj := .cells #[.int .u8 x] 5
theorem conv_in (W : World) (g y : Nat) (h : W.cell? ⟨g, 0, none⟩ = some (.int .u8 (y : Int))) : (convert 32 9 (.slice (some ⟨g, 0, none⟩) 1 1)).run Try.prog W = .ok (.string (str [y])) W := by
  refine run_convert_bytes_arg W 32 5 Try.underlying32 Try.underlying5 g 0 1 1 [Int.ofNat y] rfl (fun i hi => ?_) 9 Try.underlying9
  obtain rfl : i = 0 := by omega
  simpa using h
theorem cell_one (w : World) (x : Int) : (w.alloc (oneByte x)).cell? ⟨w.heap.size, 0, none⟩ = some (.int .u8 x) := by simp
theorem cell_one_drew (w : World) (x : Int) : (w.alloc (oneByte x)).drew.cell? ⟨w.heap.size, 0, none⟩ = some (.int .u8 x) := cell_one w x
theorem cell_two_b (w : World) (x y : Int) : ((w.alloc (oneByte x)).alloc (oneByte y)).drew.cell? ⟨w.heap.size + 1, 0, none⟩ = some (.int .u8 y) := by
  simp
theorem cell_two_a (w : World) (x y : Int) : ((w.alloc (oneByte x)).alloc (oneByte y)).drew.cell? ⟨w.heap.size, 0, none⟩ = some (.int .u8 x) := by
  have h : Below (w.alloc (oneByte x)).heap.size (w.alloc (oneByte x)) ((w.alloc (oneByte x)).alloc (oneByte y)).drew := ((Below.refl _ _).alloc (Nat.le_refl _) _).drew
  exact cell_later h (cell_one w x)
theorem step1 {w wa wd : World} {o : Obj} (hB : Below w.heap.size w wa) (h : Below (wa.alloc o).drew.heap.size (wa.alloc o).drew wd) : Below w.heap.size w wd := by
  have h5 := (hB.alloc hB.size o).drew
  exact h5.trans (h.mono h5.size)
theorem step2 {w wa wd : World} {o o' : Obj} (hB : Below w.heap.size w wa) (h : Below ((wa.alloc o).alloc o').drew.heap.size ((wa.alloc o).alloc o').drew wd) : Below w.heap.size w wd := by
  have h4 := hB.alloc hB.size o
  have h5 := (h4.alloc h4.size o').drew
  exact h5.trans (h.mono h5.size)
theorem step4 {w wa wd : World} {o : Obj} (hB : Below w.heap.size w wa) (h : Below (wa.alloc o).heap.size (wa.alloc o) wd) : Below w.heap.size w wd := by
  have h5 := hB.alloc hB.size o
  exact h5.trans (h.mono h5.size)
theorem step3 {w wa wd : World} (hB : Below w.heap.size w wa) (h : Below wa.heap.size wa wd) : Below w.heap.size w wd := hB.trans (h.mono hB.size)

set_option maxRecDepth 100000 in
set_option maxHeartbeats 4000000 in
theorem bytes_main (a b : Nat) (w : World) (ha : a < 256) (hb : b < 256) : Calls Try.prog 6 #[.int .u8 (a : Int), .int .u8 (b : Int)] w (Fine w) := by
  have hA : Hid (∀ w, Calls Try.prog 9 #[] w fun e w' => e = .returned (.bool true) ∧ Below w.heap.size w w') := alive_true
  have hn1 : ∀ y, y < 256 → nums (str [y]) = [y] := fun y hy => nums_str [y] (by simpa using hy)
  have hs1 : ∀ y, (str [y]).size = 1 := fun y => str_size _
  have hPa : Hid (∀ w, Calls Try.prog 10 #[.string (str [a])] w fun e w' => e = .returned (.string (str (putL [a]))) ∧ Below w.heap.size w w') := by
    intro w
    have := put_ok (str [a]) w (by rw [hs1]; omega)
    rw [hn1 a ha] at this
    exact this
  have hPb : Hid (∀ w, Calls Try.prog 10 #[.string (str [b])] w fun e w' => e = .returned (.string (str (putL [b]))) ∧ Below w.heap.size w w') := by
    intro w
    have := put_ok (str [b]) w (by rw [hs1]; omega)
    rw [hn1 b hb] at this
    exact this
  have hG : Hid (∀ w, Calls Try.prog 11 #[.string (str (putL [a]))] w fun e w' => e = .returned (.tuple #[.string (str [a]), .int .i64 0]) ∧ Below w.heap.size w w') := by
    intro w
    have := get_put (str [a]) w (by rw [hs1]; omega)
    rw [hn1 a ha] at this
    exact this
  have hBi : Hid (∀ w, Calls Try.prog 15 #[.int .u8 (a : Int)] w fun e w' => e = .returned (.int .i64 (nb a : Int)) ∧ w = w') := fun w => bits_ok a w ha
  have hca := fun W g h => conv_in W g a h
  have hcb := fun W g h => conv_in W g b h
  have HC : Hid (∀ W g, W.cell? ⟨g, 0, none⟩ = some (.int .u8 (a : Int)) → (convert 32 9 (.slice (some ⟨g, 0, none⟩) 1 1)).run Try.prog W = .ok (.string (str [a])) W) := hca
  have HCb : Hid (∀ W g, W.cell? ⟨g, 0, none⟩ = some (.int .u8 (b : Int)) → (convert 32 9 (.slice (some ⟨g, 0, none⟩) 1 1)).run Try.prog W = .ok (.string (str [b])) W) := hcb
  have HE : Hid ((str (putL [a]) = str (putL [b])) ↔ a = b) := by
    constructor
    · intro h
      have h1 := str_inj _ _ (putL_byte _) (putL_byte _) h
      have h2 := getL_putL [a] (by simpa using ha)
      have h3 := getL_putL [b] (by simpa using hb)
      rw [h1, h3] at h2
      simpa using h2.symm
    · rintro rfl; rfl
  have hsz : (str (putL [a])).size = (nb a + 7) / 8 := by
    rw [str_size, putL_len]
    congr 2
    unfold bitsN
    simp [bitsN]
  have hnb : nb a = 5 ∨ nb a = 7 ∨ nb a = 10 := by
    have := (code_is a ha).1
    unfold isCode at this
    omega
  clear hn1 hs1 hca hcb
  generalize str (putL [a]) = X at *
  generalize str (putL [b]) = Y at *
  generalize str [a] = SA at *
  generalize str [b] = SB at *
  generalize nb a = n at *
  go_enter Try.func6, Try.ntmps6
  go_wp2_with fail
  refine Calls.mono (hA.out _) ?_
  rintro e wa ⟨rfl, hB⟩
  go_wp2_with fail
  go_cut [5, 6] (fun x y wx => x = .string X ∧ y = .string Y ∧ Below w.heap.size w wx)
  case first =>
    clear hG hBi HE hsz hnb hA
    have e1 := HC.out _ _ (cell_one_drew wa a)
    have e2 := HCb.out _ _ (cell_one_drew wa b)
    have e3 := HC.out _ _ (cell_two_a wa a b)
    have e4 := HCb.out _ _ (cell_two_b wa a b)
    have e5 := HCb.out _ _ (cell_two_a wa b a)
    have e6 := HC.out _ _ (cell_two_b wa b a)
    have e7 := fun W => HC.out _ _ (cell_one W a)
    have e8 := fun W => HCb.out _ _ (cell_one W b)
    go_region_law (go_simp; (first | (go_at_call_of 10 SA; refine Calls.mono (hPa.out _) ?_; rintro e wd ⟨rfl, hBd⟩) | (go_at_call_of 10 SB; refine Calls.mono (hPb.out _) ?_; rintro e wd ⟨rfl, hBd⟩)); (first | (have f1 := HC.out _ _ (cell_later hBd (cell_two_a _ _ _)); have f2 := HCb.out _ _ (cell_later hBd (cell_two_b _ _ _))) | (have f1 := HCb.out _ _ (cell_later hBd (cell_two_a _ _ _)); have f2 := HC.out _ _ (cell_later hBd (cell_two_b _ _ _))) | skip); (first | replace hB := step2 hB hBd | replace hB := step1 hB hBd | replace hB := step4 hB hBd | replace hB := step3 hB hBd))
    all_goals
      go_wp2_with fail
      go_meet
      exact ⟨rfl, rfl, hB⟩
  case rest =>
    obtain ⟨rfl, rfl, hBc⟩ := hcut
    have e7 := fun W => HC.out _ _ (cell_one W a)
    obtain ⟨q, h1, h2⟩ : ∃ q : Bool, (X.toList == Y.toList) = q ∧ ((a : Int) == (b : Int)) = q := by
      by_cases hab : a = b
      · refine ⟨true, ?_, by subst hab; simp⟩
        rw [HE.out.2 hab]; simp
      · refine ⟨false, toList_ne X Y fun h => hab (HE.out.1 h), by simp; omega⟩
    clear HE hPa hPb HC HCb hA
    go_wp2_with fail
    refine Calls.mono (hG.out _) ?_
    rintro e wg ⟨rfl, hBg⟩
    go_wp2_with fail
    refine Calls.mono (hBi.out _) ?_
    rintro e wg2 ⟨rfl, rfl⟩
    clear hG hBi
    have hBf := hBc.trans (hBg.mono hBc.size)
    have hend : ∀ o, Below w.heap.size w (wg.alloc o) := fun o => hBf.alloc hBf.size o
    rcases hnb with rfl | rfl | rfl
    all_goals
      go_wp2
      go_ret
      exact ⟨rfl, hend _⟩

theorem squeezeBytes_true (a b : Int) (w : World) (ha : (Lit.int .u8 a).wf = true) (hb : (Lit.int .u8 b).wf = true) : Calls Try.prog 6 #[.int .u8 a, .int .u8 b] w (Fine w) := by
  have h1 := bounds_u8 ha
  have h2 := bounds_u8 hb
  obtain ⟨A, rfl⟩ := Int.eq_ofNat_of_zero_le h1.1
  obtain ⟨B, rfl⟩ := Int.eq_ofNat_of_zero_le h2.1
  exact bytes_main A B w (by omega) (by omega)
end Go.Proofs.Ytnaheinebhcimaa
