/-
  The reference's Blocks: take.
-/
import Derived.Test.YtdpbnlamdgdljaaJTake
import Derived.Test.YtdpbnlamdgdljaaURef2
namespace Go.Proofs.Ytdpbnlamdgdljaa
open Go.RowKit

/-- The reference's Blocks lies there. -/
def Rw (w : World) (g most : Nat) (i : Int) (B : ByteArray) (e : Bool) : Prop := w.heap[g]? = some (.cells #[.int .i64 (most : Int), .int .i64 i, .string B, .bool e] 49 (0, 0))
def rwT (g most : Nat) (i : Int) (B : ByteArray) (e : Bool) : Thing := ⟨fun k => k = g, fun w => Rw w g most i B e⟩
section
variable {w w' : World} {g most : Nat} {i : Int} {B : ByteArray} {e : Bool}
theorem Rw.lt (h : Rw w g most i B e) : g < w.heap.size := (Array.getElem?_eq_some_iff.1 h).1
theorem Rw.cells (h : Rw w g most i B e) : w.cell? ⟨g, 0, none⟩ = some (.int .i64 (most : Int)) ∧ w.cell? ⟨g, 1, none⟩ = some (.int .i64 i) ∧ w.cell? ⟨g, 2, none⟩ = some (.string B) ∧ w.cell? ⟨g, 3, none⟩ = some (.bool e) ∧ ∀ n, w.frozen? ⟨g, n, none⟩ = false := by
  unfold Rw at h
  refine ⟨?_, ?_, ?_, ?_, fun n => ?_⟩ <;> simp [World.cell?, World.frozen?, h]
theorem Rw.keeps {S : Nat → Prop} (h : Rw w g most i B e) (hk : Keeps S w w') (hS : ¬ S g) : Rw w' g most i B e := (hk.block g h.lt hS).trans h
theorem Rw.quiet (h : Rw w g most i B e) (hk : Keeps nobody w w') : Rw w' g most i B e := h.keeps hk (fun e => e)
theorem rwT_ok : (rwT g most i B e).Ok := ⟨fun h hk hS => Rw.keeps h hk (hS g rfl), fun {w} h k hk => by
  have h' : Rw w g most i B e := h
  have hk' : k = g := hk
  rw [hk']
  exact h'.lt⟩
theorem Rw.did (h : Rw w g most i B e) (hk : Keeps nobody w w') : Did (rwT g most i B e) (rwT g most i B e) w w' := Did.quiet rwT_ok h hk
theorem Rw.head (h : Rw w g most i B e) (i' : Int) (B' : ByteArray) (e' : Bool) : Did (rwT g most i B e) (rwT g most i' B' e') w (((w.setCell ⟨g, 1, none⟩ (.int .i64 i')).setCell ⟨g, 2, none⟩ (.string B')).setCell ⟨g, 3, none⟩ (.bool e')) := by
  refine ⟨rwT_ok, ?_, ((((Keeps.refl (fun k => k = g) w).setCell (p := ⟨g, 1, none⟩) (.inl rfl) _).setCell (p := ⟨g, 2, none⟩) (.inl rfl) _).setCell (p := ⟨g, 3, none⟩) (.inl rfl) _), fun _ e => .inl e⟩
  unfold Rw at h
  show _ = _
  simp [World.setCell, h, Array.getElem?_modify]
theorem Rw.more (h : Rw w g most i B e) (B' : ByteArray) : Did (rwT g most i B e) (rwT g most i B' e) w (w.setCell ⟨g, 2, none⟩ (.string B')) := by
  refine ⟨rwT_ok, ?_, ((Keeps.refl (fun k => k = g) w).setCell (p := ⟨g, 2, none⟩) (.inl rfl) _), fun _ e => .inl e⟩
  unfold Rw at h
  show _ = _
  simp [World.setCell, h, Array.getElem?_modify]
theorem Rw.shut (h : Rw w g most i B e) : Did (rwT g most i B e) (rwT g most 0 ⟨#[]⟩ e) w ((w.setCell ⟨g, 1, none⟩ (.int .i64 0)).setCell ⟨g, 2, none⟩ (.string ⟨#[]⟩)) := by
  refine ⟨rwT_ok, ?_, (((Keeps.refl (fun k => k = g) w).setCell (p := ⟨g, 1, none⟩) (.inl rfl) _).setCell (p := ⟨g, 2, none⟩) (.inl rfl) _), fun _ e => .inl e⟩
  unfold Rw at h
  show _ = _
  simp [World.setCell, h, Array.getElem?_modify]
end
attribute [local irreducible] numL byteAt endOf idOf nums str unpadA behind stripA checkA

abbrev rtV (b : Bool) (E : Int) : Value := .tuple #[.bool b, .int .i64 E]
set_option maxRecDepth 100000 in
theorem rtake_bad {w : World} {g : Nat} (f : Frm) (hs : f.body.size ≤ 140737488355328) (hc : (checkA f).2 ≠ 0) : Calls Try.prog 45 #[.pointer (some ⟨g, 0, none⟩), frval f] w fun e w' => e = .returned (rtV false 1) ∧ Keeps nobody w w' := by
  have HC : Hid (∀ w, Calls Try.prog 19 #[frval f] w fun e w' => e = .returned (checkV (checkA f)) ∧ Keeps nobody w w') := fun w => rcheck_ok f w hs
  have g0 : ((checkA f).2 != 0) = true := by simpa using hc
  clear hc hs
  generalize checkA f = c at *
  obtain ⟨c1, c2⟩ := c
  obtain ⟨k, fl, id, b⟩ := f
  simp only at g0
  go_enter Try.func45, Try.ntmps45
  go_wp2_with fail
  refine Calls.mono (HC.out _) ?_
  rintro e w1 ⟨rfl, k1⟩
  go_wp2
  go_ret2
  exact ⟨rfl, (keeps_alloc _ _).then k1⟩
/-- The head of the other arms. -/
def Told (w : World) (f : Frm) (w' : World) : Prop := Keeps nobody w w' ∧ Bx w' w.heap.size f
theorem rcheck_told (f : Frm) (hs : f.body.size ≤ 140737488355328) (w : World) : Calls Try.prog 19 #[frval f] (w.alloc (frobj f.kind f.flags f.id f.body)) fun e w' => e = .returned (checkV (checkA f)) ∧ Hid (Told w f w') :=
  (rcheck_ok f _ hs).mono fun _ _ ⟨he, hk⟩ => ⟨he, (keeps_alloc _ _).then hk, (bx_new w f).keeps hk (fun e => e)⟩
set_option maxRecDepth 100000 in
theorem rtake_lost {w : World} {g most : Nat} {i : Int} {B : ByteArray} {fin : Bool} (h : Rw w g most i B fin) (f : Frm) (hs : f.body.size ≤ 140737488355328) (hc : (checkA f).2 = 0) (hf : followA i f = false) : Calls Try.prog 45 #[.pointer (some ⟨g, 0, none⟩), frval f] w fun e w' => e = .returned (rtV false 11) ∧ Keeps nobody w w' := by
  have HC : Hid (∀ w, Calls Try.prog 19 #[frval f] (w.alloc (frobj f.kind f.flags f.id f.body)) fun e w' => e = .returned (checkV (checkA f)) ∧ Hid (Told w f w')) := rcheck_told f hs
  have HB := hid h
  clear h hs
  generalize checkA f = c at *
  obtain ⟨c1, c2⟩ := c
  obtain rfl : c2 = 0 := hc
  obtain ⟨k, fl, id, b⟩ := f
  unfold followA at hf
  by_cases h0 : i = 0
  · subst h0
    have h9 : k = 9 := by simpa using hf
    subst h9
    clear hf
    go_enter Try.func45, Try.ntmps45
    go_wp2_with fail
    refine Calls.mono (HC.out _) ?_
    rintro e w1 ⟨rfl, HK⟩
    obtain ⟨b0, b1, b2, b3, _⟩ := HK.out.2
    obtain ⟨d0, d1, d2, d3, df⟩ := (HB.out.quiet HK.out.1).cells
    simp only at b0 b1 b2 b3
    clear HC
    go_wp2_with fail
    go_quiet (fail)
    go_wp2
    go_ret2
    exact ⟨rfl, HK.out.1.drewN _⟩
  · have g0 : (i != 0) = true := by simpa using h0
    rw [if_neg h0] at hf
    have hn : ¬ (k = 9 ∧ id = i) := of_decide_eq_false hf
    clear hf
    by_cases h9 : k = 9
    · subst h9
      have gi : (id != i) = true := by
        have : id ≠ i := fun e => hn ⟨rfl, e⟩
        simpa using this
      clear hn h0
      go_enter Try.func45, Try.ntmps45
      go_wp2_with fail
      refine Calls.mono (HC.out _) ?_
      rintro e w1 ⟨rfl, HK⟩
      obtain ⟨b0, b1, b2, b3, _⟩ := HK.out.2
      obtain ⟨d0, d1, d2, d3, df⟩ := (HB.out.quiet HK.out.1).cells
      simp only at b0 b1 b2 b3
      clear HC
      go_wp2_with fail
      go_quiet (fail)
      go_wp2
      go_ret2
      exact ⟨rfl, HK.out.1.drewN _⟩
    · have g9 : (k != 9) = true := by simpa using h9
      clear hn h0
      go_enter Try.func45, Try.ntmps45
      go_wp2_with fail
      refine Calls.mono (HC.out _) ?_
      rintro e w1 ⟨rfl, HK⟩
      obtain ⟨b0, b1, b2, b3, _⟩ := HK.out.2
      obtain ⟨d0, d1, d2, d3, df⟩ := (HB.out.quiet HK.out.1).cells
      simp only at b0 b1 b2 b3
      clear HC
      go_wp2_with fail
      go_quiet (fail)
      go_wp2
      go_ret2
      exact ⟨rfl, HK.out.1.drewN _⟩
end Go.Proofs.Ytdpbnlamdgdljaa
