/-
  The law TableGreat as a walk.
-/
import Derived.Test.YtlfkomdkimphnabDoorTLaw
import Derived.Deep.OwnRows
import Derived.Laws.BytesArg
namespace Go.Proofs.YtlfkomdkimphnabDoor
open Go.RowKit

theorem infoB : (Tryd.prog.info? 5).map (fun i => (i.zero, i.size, i.bytes)) = some (some (.int .u8 0), 1, 1) := by kernel_rfl
def zeros (n : Nat) : ByteArray := strOfNums (List.replicate n 0)
theorem zeros_size (n : Nat) : (zeros n).size = n := by rw [zeros, strOfNums_size]; simp
theorem conv_zeros (w : World) (n : Nat) : (convert 29 9 (.slice (some ⟨w.heap.size, 0, none⟩) n n)).run Tryd.prog (w.alloc (.cells (madeCells #[.int .u8 0] n) 5)) = .ok (.string (zeros n)) (w.alloc (.cells (madeCells #[.int .u8 0] n) 5)) := by
  refine run_convert_bytes_arg _ 29 5 Tryd.underlying29 Tryd.underlying5 w.heap.size 0 n n (List.replicate n 0) (by simp) (fun i hi => ?_) 9 Tryd.underlying9
  have h := toList_madeCells_one (.int .u8 0) n
  have h2 : (madeCells #[.int .u8 0] n)[i]? = some (.int .u8 0) := by
    rw [← Array.getElem?_toList, h]
    simp [hi]
  simp [h2, hi]
theorem addL_great (n : Nat) (l : List Fld) : addL 100 (⟨#[120]⟩, zeros n) l = if n + 33 > 100 then [] else (⟨#[120]⟩, zeros n) :: keep ((100 : Int) - (n + 33)) l := by
  have hc : cost (⟨#[120]⟩, zeros n) = n + 33 := by
    unfold cost
    have : (zeros n).size = n := zeros_size n
    have h1 : (⟨#[120]⟩ : ByteArray).size = 1 := rfl
    simp only [this, h1]; omega
  unfold addL
  rw [hc]
  split
  · rw [if_neg (by omega)]; simp
  · rw [if_pos (by omega)]

set_option maxRecDepth 100000 in
set_option maxHeartbeats 4000000 in
theorem tableGreat_true (a : Option Addr) (cap : Nat) (l : List Fld) (n : Int) (w : World) (hE : Env w) (hF : Flds w a l) : Calls Tryd.prog 3 #[.slice a l.length cap, .int .i64 n] w (Fine w) := by
  have hA : Hid (Calls Tryd.prog 4 #[] w fun e w' => e = .returned (.bool true) ∧ Below w.heap.size w w') := alive_true w hE
  have hlen := hF.len
  by_cases hgo : l.length ≤ 10 ∧ 0 ≤ n ∧ n ≤ 600
  · obtain ⟨h3, h1, h2⟩ := hgo
    obtain ⟨n, rfl⟩ : ∃ m : Nat, n = (m : Int) := ⟨n.toNat, by omega⟩
    have HF := hid hF
    clear hF hE
    go_enter Tryd.func3, Tryd.ntmps3
    go_wp2_with fail
    refine Calls.mono hA.out ?_
    rintro e w1 ⟨rfl, hB1⟩
    go_wp2_with fail
    refine Calls.mono (g_new hB1 100 (by omega)) ?_
    rintro e w2 ⟨g, v2, rfl, G2, _, _⟩
    go_wp2
    go_loopg [29] l.length (fun k iv wr => ∃ (j : Nat) (v : Value), iv = .int .i64 j ∧ k + j = l.length ∧ Hid (Good w wr g v 100 (adds 100 (l.take j))))
    case atStart => exact ⟨0, v2, rfl, rfl, by simpa [adds, Hid] using G2⟩
    case round =>
      obtain ⟨j, v, rfl, hk, G⟩ := hrel
      clear G2 hB1
      by_cases hj : j < l.length
      · obtain ⟨b, off, rfl, hb, hc⟩ := HF.out.addr (by omega)
        obtain ⟨c0, c1⟩ := hc wr j hj G.out.below
        obtain ⟨s0, s1⟩ := HF.out.size j hj
        have hsn := hid (adds_take 100 l j hj)
        have hbw : b < wr.heap.size := Nat.lt_of_lt_of_le hb G.out.below.size
        generalize l[j]'hj = f at *
        obtain ⟨fa, fb⟩ := f
        simp only at c0 c1 s0 s1
        clear hc HF
        by_cases hbig : 200 < fa.size + fb.size
        · have hBe := (G.out.quiet (keeps_alloc wr (.cells #[.string fa, .string fb] 27))).below
          clear G hsn
          have hbig' : (200 : Int) < (fa.size : Int) + (fb.size : Int) := by omega
          go_wp2
          go_ret
          exact ⟨rfl, hBe⟩
        · have hbig' : ¬ (200 : Int) < (fa.size : Int) + (fb.size : Int) := by omega
          have HK := hid hk
          clear hk
          go_wp2_with fail
          refine Calls.mono (g_add (G.out.quiet (keeps_alloc wr (.cells #[.string fa, .string fb] 27))) (fa, fb) (by simp only; omega)) ?_
          rintro e w3 ⟨rfl, v3, G3, _, _⟩
          rw [← hsn.out] at G3
          have H3 := hid G3
          clear G3 G c0 c1
          go_wp2
          have hk := HK.out
          go_roundg (gk - 1)
          case measure => omega
          case rel => exact ⟨j + 1, v3, by simp, by omega, H3⟩
      · generalize adds 100 (l.take j) = L at *
        have hmk := run_make_row' (P := Tryd.prog) 29 5 (.int .u8 0) 1 Tryd.underlying29 infoB rfl .i64 .i64 n (by omega) (by omega)
        have hcv := conv_zeros wr n
        have hzs := zeros_size n
        have hgr := hid (addL_great n L)
        have hfs := hid (addL_fits 100 (⟨#[120]⟩, zeros n) L)
        clear HF hk
        generalize zeros n = Z at *
        go_wp2_with fail
        refine Calls.mono (g_add (G.out.quiet (keeps_alloc wr (.cells (madeCells #[.int .u8 0] n) 5))) (⟨#[120]⟩, Z) ?hs) ?_
        case hs =>
          have h5 : (⟨#[120]⟩ : ByteArray).size = 1 := rfl
          simp only [hzs, h5]; omega
        rintro e w3 ⟨rfl, v3, G3, _, _⟩
        rw [hgr.out] at G3 hfs
        clear hmk hcv hgr
        by_cases hbig : n + 33 > 100
        · rw [if_pos hbig] at G3
          have hbig' : (100 : Int) < (n : Int) + 33 := by omega
          go_wp2_with fail
          refine Calls.mono (g_used G3) ?_
          rintro e w4 ⟨rfl, G4, _⟩
          simp only [sum]
          go_wp2_with fail
          refine Calls.mono (g_all G4) ?_
          rintro e w5 ⟨s5, c5, rfl, _, G5, _⟩
          simp only [List.length_nil]
          have hBe := G5.below
          clear G G3 G4 G5
          go_wp2
          go_ret
          exact ⟨rfl, hBe⟩
        · rw [if_neg hbig] at G3
          have hbig' : ¬ (100 : Int) < (n : Int) + 33 := by omega
          have hfit := hfs.out
          rw [if_neg hbig] at hfit
          have hll := G3.tab.length
          simp only [List.length_cons] at hll
          generalize hx : (⟨#[120]⟩, Z) :: keep ((100 : Int) - (n + 33)) L = M at *
          have hM1 : 1 ≤ M.length := by rw [← hx]; simp
          have hM2 : M.length ≤ 16 := G3.tab.length
          have hM3 : decide ((1 : Int) ≤ (M.length : Int)) = true := decide_eq_true (by omega)
          clear hx hfs hll
          go_wp2_with fail
          refine Calls.mono (g_used G3) ?_
          rintro e w4 ⟨rfl, G4, _⟩
          go_wp2_with fail
          refine Calls.mono (g_all G4) ?_
          rintro e w5 ⟨s5, c5, rfl, _, G5, _⟩
          have hBe := G5.below
          clear G G3 G4 G5
          go_wp2
          go_ret
          exact ⟨rfl, hBe⟩
  · have hbad : (10 : Int) < l.length ∨ (l.length : Int) ≤ 10 ∧ n < 0 ∨ (l.length : Int) ≤ 10 ∧ 0 ≤ n ∧ 600 < n := by omega
    clear hgo hF hE
    rcases hbad with h1 | ⟨h1, h2⟩ | ⟨h1, h2, h3⟩
    all_goals
      go_enter Tryd.func3, Tryd.ntmps3
      go_wp2_with fail
      refine Calls.mono hA.out ?_
      rintro e w1 ⟨rfl, hB1⟩
      go_wp2
      go_ret
      exact ⟨rfl, hB1⟩
end Go.Proofs.YtlfkomdkimphnabDoor
