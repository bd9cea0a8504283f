/-
  bywashbook.SameFrames of two lists that a call owns.
-/
import Derived.Test.YtdpbnlamdgdljaaDSpec
namespace Go.Proofs.Ytdpbnlamdgdljaa
open Go.RowKit

theorem same_ok {w : World} {b1 b2 : Nat} {v1 v2 : Value} {l : List Frm} (h1 : w.ownsRow b1 39 4 v1 l.length (qcells l)) (h2 : w.ownsRow b2 39 4 v2 l.length (qcells l)) (hl : l.length ≤ 1000000) : Calls Try.prog 13 #[v1, v2] w fun e w' => e = .returned (.bool true) ∧ Keeps nobody w w' := by
  obtain ⟨a1, c1, rfl⟩ : ∃ a c, v1 = .slice a l.length c := by
    rcases h1.2 with ⟨rfl, hx⟩ | ⟨rb, cap, cur, rfl, _⟩
    · exact ⟨none, 0, by rw [hx]⟩
    · exact ⟨_, _, rfl⟩
  obtain ⟨a2, c2, rfl⟩ : ∃ a c, v2 = .slice a l.length c := by
    rcases h2.2 with ⟨rfl, hx⟩ | ⟨rb, cap, cur, rfl, _⟩
    · exact ⟨none, 0, by rw [hx]⟩
    · exact ⟨_, _, rfl⟩
  exact qsame_lies c1 c2 (qrow_lies (S := nobody) h1 fun _ _ => id) (qrow_lies (S := nobody) h2 fun _ _ => id) hl
end Go.Proofs.Ytdpbnlamdgdljaa
