/-
  The statements' first call of all.
-/
import Derived.Test.YtdpbnlamdgdljaaRName
namespace Go.Proofs.Ytdpbnlamdgdljaa
open Go.RowKit

def pingF : Frm := ⟨6, 0, 0, ⟨#[49, 50, 51, 52, 53, 54, 55, 56]⟩⟩
def dataF : Frm := ⟨0, 8, 0, ⟨#[1, 97, 98]⟩⟩
def pingA : ByteArray := ⟨#[0, 0, 8, 6, 0, 0, 0, 0, 0, 49, 50, 51, 52, 53, 54, 55, 56]⟩
theorem ping_right : right pingF := by decide +kernel
theorem ping_put : putA pingF = pingA := by decide +kernel
theorem ping_get : getA (pingA ++ ⟨#[120]⟩) = (pingF, 17, 0) := by
  rw [← ping_put, get_put _ _ ping_right]
  rfl
theorem data_pad : padB 8 = true := by decide +kernel
theorem data_weigh : weighB 8 = false := by decide +kernel
theorem data_strip : stripA 0 true false ⟨#[1, 97, 98]⟩ = (⟨#[97]⟩, 2, 0) := by decide +kernel
theorem name_away : nameA 7 = ⟨#[97, 119, 97, 121]⟩ := by decide +kernel

end Go.Proofs.Ytdpbnlamdgdljaa
