/-
  The reference's Blocks: Take.
-/
import Derived.Test.YtdpbnlamdgdljaaJRef2
namespace Go.Proofs.Ytdpbnlamdgdljaa
open Go.RowKit

/-- The reference's Blocks as the data has it. -/
def Rb (w : World) (g most : Nat) (o : Opn) : Prop := (∃ e, Rw w g most o.id o.bytes e ∧ (o.id ≠ 0 → e = o.fin)) ∧ (o.id = 0 → o.bytes = ⟨#[]⟩)
def rbT (g most : Nat) (o : Opn) : Thing := ⟨fun k => k = g, fun w => Rb w g most o⟩
theorem rbT_ok {g most : Nat} {o : Opn} : (rbT g most o).Ok := ⟨fun {S w w'} h hk hS => by
    obtain ⟨⟨e, h1, h2⟩, h3⟩ : Rb w g most o := h
    exact ⟨⟨e, h1.keeps hk (hS g rfl), h2⟩, h3⟩, fun {w} h k hk => by
    obtain ⟨⟨e, h1, _⟩, _⟩ : Rb w g most o := h
    have hk' : k = g := hk
    rw [hk']
    exact h1.lt⟩
theorem Rb.lt {w : World} {g most : Nat} {o : Opn} (h : Rb w g most o) : g < w.heap.size := by
  obtain ⟨⟨e, h1, _⟩, _⟩ := h
  exact h1.lt
theorem rb_did {w w' : World} {g most : Nat} {i i' : Int} {B B' : ByteArray} {e e' : Bool} {o o' : Opn} (hd : Did (rwT g most i B e) (rwT g most i' B' e') w w') (h1 : o'.id = i') (h2 : o'.bytes = B') (h3 : i' ≠ 0 → e' = o'.fin) (h4 : i' = 0 → B' = ⟨#[]⟩) : Did (rbT g most o) (rbT g most o') w w' := by
  subst h1 h2
  exact ⟨rbT_ok, ⟨⟨e', hd.inv, h3⟩, h4⟩, hd.keeps, hd.foot⟩
/-- What take tells: whether a block is whole. -/
def wholeR (most : Nat) (o : Opn) (f : Frm) : Bool := decide (addE most o f = 0) && decide ((addO o f).id ≠ 0) && wholeB f.flags
theorem rtake_ok {w : World} {g most : Nat} {o : Opn} (h : Rb w g most o) (f : Frm) (hs : o.bytes.size + f.body.size ≤ 140737488355328) : Calls Try.prog 45 #[.pointer (some ⟨g, 0, none⟩), frval f] w fun r w' => r = .returned (rtV (wholeR most o f) (addE most o f)) ∧ ∃ i B e i' B' e', Hid (Did (rwT g most i B e) (rwT g most i' B' e') w w' ∧ (addE most o f = 0 → i' = (addO o f).id ∧ B' = (addO o f).bytes ∧ (i' ≠ 0 → e' = (addO o f).fin) ∧ (i' = 0 → B' = ⟨#[]⟩))) := by
  obtain ⟨⟨e0, hw, he⟩, hz⟩ := h
  by_cases hc : (checkA f).2 = 0
  · cases hf : followA o.id f with
    | false =>
      have e : addE most o f = 11 := by rw [addE, if_neg (fun h => h hc), if_pos hf]
      rw [wholeR, e]
      exact (rtake_lost hw f (by omega) hc hf).mono fun r w' ⟨hr, hk⟩ => ⟨hr, _, _, _, _, _, _, hw.did hk, fun e0 => by cases e0⟩
    | true =>
      by_cases hk : f.kind = 1 ∨ f.kind = 9
      · have hidn : f.id ≠ 0 := fun e0 => by
          have hp := check_placed f hc
          rw [e0] at hp
          rcases hk with hk | hk <;> rw [hk] at hp <;> exact absurd hp (by decide)
        rcases hk with hk | hk
        · have h0 : o.id = 0 := by
            by_cases h0 : o.id = 0
            · exact h0
            · rw [followA, if_neg h0] at hf
              have := of_decide_eq_true hf
              omega
          have hb0 := hz h0
          have hO : addO o f = ⟨f.id, endB f.flags, partA f⟩ := by rw [addO, if_pos hk, hb0, none_append]
          have hsz : o.bytes.size + (partA f).size = (partA f).size := by rw [hb0]; exact Nat.zero_add _
          have hE : addE most o f = if most < (partA f).size then 5 else 0 := by rw [addE, if_neg (fun h => h hc), if_neg (by simp [hf]), if_pos (.inl hk), hsz]
          rw [h0] at hw
          obtain ⟨k, fl, id, b⟩ := f
          obtain rfl : k = 1 := hk
          have key := rtake_head hw fl id b (by simp only at hs; omega) hc
          rw [wholeR, hO, hE]
          refine key.mono ?_
          rintro r w' ⟨hr, hd⟩
          refine ⟨?_, _, _, _, _, _, _, hd, fun _ => ⟨rfl, rfl, fun _ => rfl, fun e0 => absurd e0 hidn⟩⟩
          rw [hr]
          by_cases hb : most < (partA ⟨1, fl, id, b⟩).size
          · rw [if_pos hb, if_pos hb]; rfl
          · have hidn' : id ≠ 0 := hidn
            rw [if_neg hb, if_neg hb]; simp [hidn']
        · have h0 : o.id ≠ 0 := fun h0 => by
            rw [followA, if_pos h0] at hf
            have := of_decide_eq_true hf
            omega
          have hfi : f.id = o.id := by
            rw [followA, if_neg h0] at hf
            exact (of_decide_eq_true hf).2
          have hpa := part_other f (by omega) (by omega)
          have hO : addO o f = ⟨o.id, o.fin, o.bytes ++ f.body⟩ := by rw [addO, if_neg (by omega), if_pos hk, hpa]
          have hE : addE most o f = if most < o.bytes.size + f.body.size then 5 else 0 := by rw [addE, if_neg (fun h => h hc), if_neg (by simp [hf]), if_pos (.inr hk), hpa]
          obtain ⟨k, fl, id, b⟩ := f
          obtain rfl : k = 9 := hk
          obtain rfl : id = o.id := hfi
          have key := rtake_more hw fl b hs hc h0
          rw [wholeR, hO, hE]
          refine key.mono ?_
          rintro r w' ⟨hr, hd⟩
          refine ⟨?_, _, _, _, _, _, _, hd, fun _ => ⟨rfl, rfl, fun _ => he h0, fun e0 => absurd e0 h0⟩⟩
          rw [hr]
          by_cases hb : most < o.bytes.size + b.size
          · rw [if_pos hb]; simp [hb]
          · rw [if_neg hb]; simp [hb, h0]
      · have e : addE most o f = 0 := by rw [addE, if_neg (fun h => h hc), if_neg (by simp [hf]), if_neg hk]
        have h0 : o.id = 0 := by
          by_cases h0 : o.id = 0
          · exact h0
          · rw [followA, if_neg h0] at hf
            exact absurd (.inr (of_decide_eq_true hf).1) hk
        have hO : addO o f = o := by rw [addO, if_neg (fun e => hk (.inl e)), if_neg (fun e => hk (.inr e))]
        have hw' := hw
        rw [h0] at hw'
        have key := rtake_other hw' f (by omega) hc (fun e => hk (.inl e)) (fun e => hk (.inr e))
        rw [wholeR, hO, e, h0]
        refine key.mono ?_
        rintro r w' ⟨hr, hk2⟩
        exact ⟨hr, _, _, _, _, _, _, hw.did hk2, fun _ => ⟨h0, rfl, fun e9 => he e9, fun e9 => hz e9⟩⟩
  · have e : addE most o f = 1 := by rw [addE, if_pos hc]
    rw [wholeR, e]
    exact (rtake_bad f (by omega) hc).mono fun r w' ⟨hr, hk⟩ => ⟨hr, _, _, _, _, _, _, hw.did hk, fun e0 => by cases e0⟩
end Go.Proofs.Ytdpbnlamdgdljaa
