/-
  The law FramePads.
-/
import Derived.Test.YtgfcllabhpioiaaDoorRPads2W
namespace Go.Proofs.YtgfcllabhpioiaaDoor
open Go.RowKit

theorem pads_true (b : ByteArray) (pad : Int) (q p : Bool) (W : World) (hE : Env W) (_ : b.size ≤ 140737488355328) : Calls Tryd.prog 6 #[.string b, .int .i64 pad, .bool q, .bool p] W (Fine W) := by
  have HA : Hid (∀ w, Keeps nobody W w → Calls Tryd.prog 9 #[] w fun e w' => e = .returned (.bool true) ∧ Keeps nobody w w') := fun w hw => alive_ok w (hE.quiet hw)
  by_cases h0 : b.size ≤ 300
  · by_cases h1 : 0 ≤ pad
    · by_cases h2 : pad ≤ 255
      · obtain ⟨y, rfl⟩ := Int.eq_ofNat_of_zero_le h1
        have hy : y < 256 := by omega
        have hz : y ≤ 255 := by omega
        have h5 : (⟨#[49, 50, 51, 52, 53]⟩ : ByteArray).size = 5 := rfl
        have hMs : ((⟨#[49, 50, 51, 52, 53]⟩ : ByteArray) ++ b).size = 5 + b.size := by rw [ByteArray.size_append, h5]
        have hconv := fun (W : World) (g : Nat) => conv_in W g y
        have hzero := fun (w W : World) (k : Keeps nobody (w.alloc (.cells (madeCells #[.int .u8 0] y) 5)) W) => conv_zeros hz k
        have hs1 : (str [y]).size = 1 := str_size _
        cases q with
        | false =>
          cases p with
          | false =>
            have H1 := fun w => strip_ok ⟨1, 0, 1, b⟩ w (show b.size ≤ 140737488355328 by omega)
            have H2 := fun w => strip_ok ⟨9, 0, 1, b⟩ w (show b.size ≤ 140737488355328 by omega)
            simp only [pad0, weigh0, strip_none0, strip_nine] at H1 H2
            exact pads_00 b y W HA h0 hz H1 H2
          | true =>
            have hX := pads_size y b
            have H1 := fun w => strip_ok ⟨1, 8, 1, str [y] ++ b ++ zeros y⟩ w (show (str [y] ++ b ++ zeros y).size ≤ 140737488355328 by omega)
            have H2 := fun w => strip_ok ⟨9, 8, 1, str [y] ++ b ++ zeros y⟩ w (show (str [y] ++ b ++ zeros y).size ≤ 140737488355328 by omega)
            simp only [pad8, weigh8, strip_pads y b hy, strip_nine] at H1 H2
            have e : ((1 + y : Nat) : Int) = 1 + (y : Int) := by omega
            simp only [stripV, e] at H1
            exact pads_01 b y W HA h0 hz _ _ _ hs1 (zeros_size y) rfl hconv hzero H1 H2
        | true =>
          cases p with
          | false =>
            have H1 := fun w => strip_ok ⟨1, 32, 1, ⟨#[49, 50, 51, 52, 53]⟩ ++ b⟩ w (show ((⟨#[49, 50, 51, 52, 53]⟩ : ByteArray) ++ b).size ≤ 140737488355328 by omega)
            have H2 := fun w => strip_ok ⟨9, 32, 1, ⟨#[49, 50, 51, 52, 53]⟩ ++ b⟩ w (show ((⟨#[49, 50, 51, 52, 53]⟩ : ByteArray) ++ b).size ≤ 140737488355328 by omega)
            simp only [pad32, weigh32, strip_five _ b h5, strip_nine] at H1 H2
            exact pads_10 b y W HA h0 hz _ rfl hMs H1 H2
          | true =>
            have hX := pads_size y (⟨#[49, 50, 51, 52, 53]⟩ ++ b)
            have H1 := fun w => strip_ok ⟨1, 40, 1, str [y] ++ (⟨#[49, 50, 51, 52, 53]⟩ ++ b) ++ zeros y⟩ w (show (str [y] ++ (⟨#[49, 50, 51, 52, 53]⟩ ++ b) ++ zeros y).size ≤ 140737488355328 by omega)
            have H2 := fun w => strip_ok ⟨9, 40, 1, str [y] ++ (⟨#[49, 50, 51, 52, 53]⟩ ++ b) ++ zeros y⟩ w (show (str [y] ++ (⟨#[49, 50, 51, 52, 53]⟩ ++ b) ++ zeros y).size ≤ 140737488355328 by omega)
            simp only [pad40, weigh40, strip_both y _ b hy h5, strip_nine] at H1 H2
            have e : ((6 + y : Nat) : Int) = 6 + (y : Int) := by omega
            simp only [stripV, e] at H1
            exact pads_11 b y W HA h0 hz _ rfl hMs _ _ _ hs1 (zeros_size y) rfl hconv hzero H1 H2
      · exact pads_off2 b pad q p W HA h0 h1 (by omega)
    · exact pads_off1 b pad q p W HA h0 (by omega)
  · exact pads_off0 b pad q p W HA (by omega)
end Go.Proofs.YtgfcllabhpioiaaDoor
