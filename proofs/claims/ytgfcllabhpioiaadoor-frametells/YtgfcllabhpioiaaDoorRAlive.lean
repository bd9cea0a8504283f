/-
  The statements' first call of all.
-/
import Derived.Test.YtgfcllabhpioiaaDoorRName
namespace Go.Proofs.YtgfcllabhpioiaaDoor
open Go.RowKit

def pingF : Frm := ⟨6, 0, 0, ⟨#[49, 50, 51, 52, 53, 54, 55, 56]⟩⟩
def dataF : Frm := ⟨0, 8, 0, ⟨#[1, 97, 98]⟩⟩
def pingA : ByteArray := ⟨#[0, 0, 8, 6, 0, 0, 0, 0, 0, 49, 50, 51, 52, 53, 54, 55, 56]⟩
theorem ping_right : right pingF := by decide +kernel
theorem ping_put : putA pingF = pingA := by decide +kernel
theorem ping_get : getA (pingA ++ ⟨#[120]⟩) = (pingF, 17, 0) := by
  rw [← ping_put, get_put _ _ ping_right]
  rfl
theorem data_pad : padB 8 = true := by decide +kernel
theorem data_weigh : weighB 8 = false := by decide +kernel
theorem data_strip : stripA 0 true false ⟨#[1, 97, 98]⟩ = (⟨#[97]⟩, 2, 0) := by decide +kernel
theorem name_away : nameA 7 = ⟨#[97, 119, 97, 121]⟩ := by decide +kernel

set_option maxRecDepth 100000 in
theorem alive_ok (w : World) (hE : Env w) : Calls Tryd.prog 9 #[] w fun e w' => e = .returned (.bool true) ∧ Keeps nobody w w' := by
  have HP : Hid (∀ W, Calls Tryd.prog 10 #[.agg #[.int .i64 6, .int .i64 0, .int .i64 0, .string ⟨#[49, 50, 51, 52, 53, 54, 55, 56]⟩]] W fun e w' => e = .returned (.tuple #[.string pingA, .bool true]) ∧ Keeps nobody W w') := fun W => by
    have := put_ok pingF W
    rw [ping_put, decide_eq_true ping_right] at this
    exact this
  have HG : Hid (∀ W, Calls Tryd.prog 12 #[.string (pingA ++ ⟨#[120]⟩)] W fun e w' => e = .returned (.tuple #[.agg #[.int .i64 6, .int .i64 0, .int .i64 0, .string ⟨#[49, 50, 51, 52, 53, 54, 55, 56]⟩], .int .i64 17, .int .i64 0]) ∧ Keeps nobody W w') := fun W => by
    have := get_ok (pingA ++ ⟨#[120]⟩) W (by decide +kernel)
    rw [ping_get] at this
    exact this
  have HS : Hid (∀ W, Calls Tryd.prog 14 #[.agg #[.int .i64 0, .int .i64 8, .int .i64 0, .string ⟨#[1, 97, 98]⟩]] W fun e w' => e = .returned (.tuple #[.string ⟨#[97]⟩, .int .i64 2, .int .i64 0]) ∧ Keeps nobody W w') := fun W => by
    have := strip_ok dataF W (by decide +kernel)
    simp only [dataF, data_pad, data_weigh, data_strip] at this
    exact this
  have HN : Hid (∀ W, Keeps nobody w W → Calls Tryd.prog 17 #[.int .i64 7] W fun e w' => e = .returned (.string ⟨#[97, 119, 97, 121]⟩) ∧ W = w') := fun W hW => by
    have := name_ok 7 W (hE.quiet hW)
    rwa [name_away] at this
  have hps : pingA.size = 17 := by decide +kernel
  generalize hX : pingA ++ ⟨#[120]⟩ = X at *
  generalize pingA = PA at *
  clear hE
  go_enter Tryd.func9, Tryd.ntmps9
  go_wp2_with fail
  refine Calls.mono (HP.out _) ?_
  rintro e w1 ⟨rfl, k1⟩
  go_wp2_with fail
  refine Calls.mono (HG.out _) ?_
  rintro e w2 ⟨rfl, k2⟩
  go_wp2_with fail
  refine Calls.mono (HS.out _) ?_
  rintro e w3 ⟨rfl, k3⟩
  have hc3 := (k3.cell (p := ⟨w2.heap.size, 3, none⟩) (by simp) (fun h => h)).trans (show _ = some (Value.string ⟨#[49, 50, 51, 52, 53, 54, 55, 56]⟩) by simp)
  have k4 := ((k1.then k2).alloc _).then k3
  clear k1 k2 k3 HP HG HS
  go_wp2_with fail
  refine Calls.mono (HN.out _ k4) ?_
  rintro e w4 ⟨rfl, rfl⟩
  go_wp2
  go_ret
  exact ⟨rfl, k4⟩
end Go.Proofs.YtgfcllabhpioiaaDoor
