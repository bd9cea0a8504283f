/-
  Package frame: Strip as a whole; Name, out of the program's variable.
-/
import Derived.Test.YtdpbnlamdgdljaaRGet
import Derived.Test.YtdpbnlamdgdljaaRStrip
namespace Go.Proofs.Ytdpbnlamdgdljaa
open Go.RowKit
attribute [local irreducible] numL byteAt endOf idOf nums str unpadA behind

abbrev padB (fl : Int) : Bool := bits .and .i64 fl 8 != 0
abbrev weighB (fl : Int) : Bool := bits .and .i64 fl 32 != 0
theorem strip_ok (f : Frm) (w : World) (hs : f.body.size ≤ 140737488355328) :
    Calls Try.prog 50 #[frval f] w fun e w' => e = .returned (stripV (stripA f.kind (padB f.flags) (weighB f.flags) f.body)) ∧ Keeps nobody w w' := by
  obtain ⟨k, fl, id, b⟩ := f
  have hb := behind_size
  simp only [stripA]
  by_cases h0 : k = 0
  · subst h0
    cases hp : padB fl with
    | false => simpa [pads, aheadN, hb] using strip_0 fl id b w hs hp
    | true =>
      cases hu : unpadA b with
      | none => simpa [pads, aheadN, hu] using strip_0p_none fl id b w hs hp hu
      | some c => simpa [pads, aheadN, hu, hb] using strip_0p fl id b w hs hp c hu
  · by_cases h1 : k = 1
    · subst h1
      cases hq : weighB fl with
      | false =>
        cases hp : padB fl with
        | false => simpa [pads, aheadN, hb] using strip_1 fl id b w hs hq hp
        | true =>
          cases hu : unpadA b with
          | none => simpa [pads, aheadN, hu] using strip_1p_none fl id b w hs hq hp hu
          | some c => simpa [pads, aheadN, hu, hb] using strip_1p fl id b w hs hq hp c hu
      | true =>
        cases hp : padB fl with
        | false =>
          by_cases hn : b.size < 5
          · simpa [pads, aheadN, hn] using strip_1q_short fl id b w hs hq hp hn
          · simpa [pads, aheadN, hn, hb] using strip_1q fl id b w hs hq hp (by omega)
        | true =>
          cases hu : unpadA b with
          | none => simpa [pads, aheadN, hu] using strip_1pq_none fl id b w hs hq hp hu
          | some c =>
            by_cases hn : c.size < 5
            · simpa [pads, aheadN, hu, hn] using strip_1pq_short fl id b w hs hq hp c hu hn
            · simpa [pads, aheadN, hu, hn, hb] using strip_1pq fl id b w hs hq hp c hu (by omega)
    · have e0 : (k == 0) = false := by simpa using h0
      have e1 : (k == 1) = false := by simpa using h1
      simpa [pads, aheadN, h0, h1, hb] using strip_other k fl id b w hs e0 e1

/-- The kinds' names. -/
def namesL : List ByteArray := [⟨#[100, 97, 116, 97]⟩, ⟨#[104, 101, 97, 100, 101, 114, 115]⟩, ⟨#[112, 114, 105, 111, 114, 105, 116, 121]⟩, ⟨#[114, 101, 115, 101, 116]⟩, ⟨#[115, 101, 116, 116, 105, 110, 103, 115]⟩, ⟨#[112, 114, 111, 109, 105, 115, 101]⟩, ⟨#[112, 105, 110, 103]⟩, ⟨#[97, 119, 97, 121]⟩, ⟨#[117, 112, 100, 97, 116, 101]⟩, ⟨#[99, 111, 110, 116, 105, 110, 117, 101]⟩]
theorem namesL_length : namesL.length = 10 := rfl
def nameA (k : Int) : ByteArray := if 0 ≤ k ∧ k ≤ 9 then namesL.getD k.toNat ⟨#[]⟩ else ⟨#[111, 116, 104, 101, 114]⟩
/-- The program's variable holds them. -/
def Env (w : World) : Prop := 0 < w.heap.size ∧ ∀ i s, namesL[i]? = some s → w.cell? ⟨0, i, none⟩ = some (.string s)
theorem Env.keeps {S : Nat → Prop} {w w' : World} (h : Env w) (hk : Keeps S w w') (hS : ¬ S 0) : Env w' :=
  ⟨Nat.lt_of_lt_of_le h.1 hk.size, fun i s hi => (hk.cell (p := ⟨0, i, none⟩) h.1 hS).trans (h.2 i s hi)⟩
theorem Env.quiet {w w' : World} (h : Env w) (hk : Keeps nobody w w') : Env w' := h.keeps hk id

end Go.Proofs.Ytdpbnlamdgdljaa
