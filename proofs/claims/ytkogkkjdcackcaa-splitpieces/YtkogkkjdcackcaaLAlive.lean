/-
  A Splitter among other things of the statement's own; the statements' first call of all.
-/
import Derived.Test.YtkogkkjdcackcaaLNone
import Derived.Test.YtkogkkjdcackcaaRRefC
import Derived.Test.YtkogkkjdcackcaaGDoor
namespace Go.Proofs.Ytkogkkjdcackcaa
open Go.RowKit

/-- A frame's box as a thing. -/
def bxT (g : Nat) (f : Frm) : Thing := ⟨fun k => k = g, fun w => Bx w g f⟩
theorem bxT_ok {g : Nat} {f : Frm} : (bxT g f).Ok := ⟨fun h hk hS => Bx.keeps h hk (hS g rfl), fun {w} h k hk => by
  have h' : Bx w g f := h
  have hk' : k = g := hk
  rw [hk']
  exact h'.lt⟩
section
variable {W w : World} {g : Nat} {v : Value} {most : Nat} {o : Bool} {B : ByteArray} {ts : List Thing}
theorem Hold.sp (h : Hold W w (spT g v most o B :: ts)) : Sp w g v most o B := h.inv (spT g v most o B) (by simp)
theorem Hold.box (h : Hold W w ts) (f : Frm) : Hold W (w.alloc (frobj f.kind f.flags f.id f.body)) (bxT w.heap.size f :: ts) := h.add (keeps_alloc _ _) bxT_ok (bx_new w f) fun k e => by
  have e' : k = w.heap.size := e
  omega
theorem Hold.bx {f : Frm} (h : Hold W w ts) (hm : bxT g f ∈ ts) : Bx w g f := h.inv (bxT g f) hm
theorem hold_start (W : World) : Hold W W [] := hold_nil (Below.refl _ _)
theorem t_new (h : Hold W w ts) (m : Nat) (h1 : 64 ≤ m) (h2 : m ≤ 512) : Calls Try.prog 10 #[.int .i64 (m : Int)] w fun e w' => ∃ g v, e = .returned (.pointer (some ⟨g, 0, none⟩)) ∧ Hid (Hold W w' (spT g v m false ⟨#[]⟩ :: ts)) := by
  refine (new_ok m w h1 h2).mono ?_
  rintro e w' ⟨he, hk, hs⟩
  refine ⟨_, _, he, h.add hk spT_ok hs ?_⟩
  rintro k (rfl | e)
  · exact Nat.le_refl _
  · cases e
theorem t_feed (h : Hold W w (spT g v most false B :: ts)) (b : ByteArray) (hs : B.size + b.size ≤ 140737488355328) : Calls Try.prog 12 #[.pointer (some ⟨g, 0, none⟩), .string b] w fun e w' => e = .returned (.int .i64 (b.size : Int)) ∧ ∃ v', Hid (Hold W w' (spT g v' most false (B ++ b) :: ts)) := by
  refine (feed_ok h.sp b hs).mono ?_
  rintro e w' ⟨he, v', hd⟩
  exact ⟨he, v', h.act (a := []) hd⟩
theorem t_next (h : Hold W w (spT g v most o B :: ts)) : Calls Try.prog 11 #[.pointer (some ⟨g, 0, none⟩)] w fun e w' => e = .returned (nextV (nextR most o B).1) ∧ ∃ v', Hid (Hold W w' (spT g v' most (nextR most o B).2.1 (nextR most o B).2.2 :: ts)) := by
  refine (next_ok h.sp).mono ?_
  rintro e w' ⟨he, v', hd⟩
  exact ⟨he, v', h.act (a := []) hd⟩
theorem t_held (h : Hold W w (spT g v most o B :: ts)) : Calls Try.prog 13 #[.pointer (some ⟨g, 0, none⟩)] w fun e w' => e = .returned (.int .i64 (B.size : Int)) ∧ w = w' := held_ok h.sp
theorem t_over (h : Hold W w (spT g v most o B :: ts)) : Calls Try.prog 14 #[.pointer (some ⟨g, 0, none⟩)] w fun e w' => e = .returned (.bool o) ∧ w = w' := over_ok h.sp
end

def pingF : Frm := ⟨6, 0, 0, ⟨#[49, 50, 51, 52, 53, 54, 55, 56]⟩⟩
def pingA : ByteArray := ⟨#[0, 0, 8, 6, 0, 0, 0, 0, 0, 49, 50, 51, 52, 53, 54, 55, 56]⟩
theorem ping_right : right pingF := by decide +kernel
theorem ping_put : putA pingF = pingA := by decide +kernel
theorem ping_half : nextR 64 false (⟨#[]⟩ ++ pingA.extract 0 5) = ((noF, false, 0), false, ⟨#[]⟩ ++ pingA.extract 0 5) := nextR_none _ _ (by decide +kernel) (by decide +kernel)
theorem ping_whole : nextR 64 false (⟨#[]⟩ ++ pingA.extract 0 5 ++ pingA.extract 5 17) = ((pingF, true, 0), false, ⟨#[]⟩) := by
  have h := next_put (f := pingF) (T := ⟨#[]⟩) 64 ping_right (by decide +kernel)
  have e : (⟨#[]⟩ ++ pingA.extract 0 5 ++ pingA.extract 5 17 : ByteArray) = putA pingF ++ ⟨#[]⟩ := by rw [ping_put]; decide +kernel
  rw [e]
  exact h

set_option maxRecDepth 100000 in
theorem alive_ok (w : World) : Calls Try.prog 9 #[] w fun e w' => e = .returned (.bool true) ∧ Keeps nobody w w' := by
  have HN : Hid (Calls Try.prog 10 #[.int .i64 64] w fun e w' => ∃ g v, e = .returned (.pointer (some ⟨g, 0, none⟩)) ∧ Hid (Hold w w' [spT g v 64 false ⟨#[]⟩])) := t_new (hold_start w) 64 (by decide) (by decide)
  have HP : Hid (∀ W, Calls Try.prog 16 #[.agg #[.int .i64 6, .int .i64 0, .int .i64 0, .string ⟨#[49, 50, 51, 52, 53, 54, 55, 56]⟩]] W fun e w' => e = .returned (.tuple #[.string pingA, .bool true]) ∧ Keeps nobody W w') := fun W => by
    have := fput_ok pingF W
    rw [ping_put, decide_eq_true ping_right] at this
    exact this
  have s1 : ∀ W, (Instr.slice 9 (.string pingA) none (some (.int .i64 5)) none).run Try.prog W = .ok (.string (pingA.extract 0 5)) W := fun W => by
    rw [run_slice_string_h W 9 pingA Try.underlying9 .i64 5 (by decide) (by decide +kernel)]
    rfl
  have s2 : ∀ W, (Instr.slice 9 (.string pingA) (some (.int .i64 5)) none none).run Try.prog W = .ok (.string (pingA.extract 5 17)) W := fun W => by
    have := slice_from pingA 5 (by decide +kernel) W
    exact this
  have HF1 : Hid (∀ W g v, Hold w W [spT g v 64 false ⟨#[]⟩] → Calls Try.prog 12 #[.pointer (some ⟨g, 0, none⟩), .string (pingA.extract 0 5)] W fun e w' => e = .returned (.int .i64 5) ∧ ∃ v', Hid (Hold w w' [spT g v' 64 false (⟨#[]⟩ ++ pingA.extract 0 5)])) := fun W g v h => t_feed h _ (by decide +kernel)
  have HX1 : Hid (∀ W g v, Hold w W [spT g v 64 false (⟨#[]⟩ ++ pingA.extract 0 5)] → Calls Try.prog 11 #[.pointer (some ⟨g, 0, none⟩)] W fun e w' => e = .returned (.tuple #[.agg #[.int .i64 0, .int .i64 0, .int .i64 0, .string ⟨#[]⟩], .bool false, .int .i64 0]) ∧ ∃ v', Hid (Hold w w' [spT g v' 64 false (⟨#[]⟩ ++ pingA.extract 0 5)])) := fun W g v h => by
    have := t_next h
    rwa [ping_half] at this
  have HF2 : Hid (∀ W g v, Hold w W [spT g v 64 false (⟨#[]⟩ ++ pingA.extract 0 5)] → Calls Try.prog 12 #[.pointer (some ⟨g, 0, none⟩), .string (pingA.extract 5 17)] W fun e w' => e = .returned (.int .i64 12) ∧ ∃ v', Hid (Hold w w' [spT g v' 64 false (⟨#[]⟩ ++ pingA.extract 0 5 ++ pingA.extract 5 17)])) := fun W g v h => t_feed h _ (by decide +kernel)
  have HX2 : Hid (∀ W g v, Hold w W [spT g v 64 false (⟨#[]⟩ ++ pingA.extract 0 5 ++ pingA.extract 5 17)] → Calls Try.prog 11 #[.pointer (some ⟨g, 0, none⟩)] W fun e w' => e = .returned (.tuple #[.agg #[.int .i64 6, .int .i64 0, .int .i64 0, .string ⟨#[49, 50, 51, 52, 53, 54, 55, 56]⟩], .bool true, .int .i64 0]) ∧ ∃ v', Hid (Hold w w' [spT g v' 64 false ⟨#[]⟩])) := fun W g v h => by
    have := t_next h
    rwa [ping_whole] at this
  have HH : Hid (∀ W g v, Hold w W [spT g v 64 false ⟨#[]⟩] → Calls Try.prog 13 #[.pointer (some ⟨g, 0, none⟩)] W fun e w' => e = .returned (.int .i64 0) ∧ W = w') := fun W g v h => t_held h
  have HO : Hid (∀ W g v, Hold w W [spT g v 64 false ⟨#[]⟩] → Calls Try.prog 14 #[.pointer (some ⟨g, 0, none⟩)] W fun e w' => e = .returned (.bool false) ∧ W = w') := fun W g v h => t_over h
  generalize pingA.extract 0 5 = P1 at *
  generalize pingA.extract 5 17 = P2 at *
  generalize pingA = PA at *
  go_enter Try.func9, Try.ntmps9
  go_wp2_with fail
  refine Calls.mono HN.out ?_
  rintro e w1 ⟨g, v, rfl, H1⟩
  go_wp2_with fail
  refine Calls.mono (HP.out _) ?_
  rintro e w2 ⟨rfl, k2⟩
  have H2 := hid (H1.out.quiet k2)
  clear k2 H1 HN HP
  go_wp2_with fail
  refine Calls.mono (HF1.out _ _ _ H2.out) ?_
  rintro e w3 ⟨rfl, v3, H3⟩
  clear HF1 H2
  go_wp2_with fail
  refine Calls.mono (HX1.out _ _ _ H3.out) ?_
  rintro e w4 ⟨rfl, v4, H4⟩
  have H5 := hid (H4.out.quiet (keeps_alloc w4 (frobj 0 0 0 ⟨#[]⟩)))
  clear HX1 H3 H4
  go_wp2_with fail
  refine Calls.mono (HF2.out _ _ _ H5.out) ?_
  rintro e w6 ⟨rfl, v6, H6⟩
  clear HF2 H5
  go_wp2_with fail
  refine Calls.mono (HX2.out _ _ _ H6.out) ?_
  rintro e w7 ⟨rfl, v7, H7⟩
  have H8 := hid (H7.out.quiet (keeps_alloc w7 (frobj 6 0 0 ⟨#[49, 50, 51, 52, 53, 54, 55, 56]⟩)))
  clear HX2 H6 H7
  go_wp2_with fail
  refine Calls.mono (HH.out _ _ _ H8.out) ?_
  rintro e w8 ⟨rfl, rfl⟩
  go_wp2_with fail
  refine Calls.mono (HO.out _ _ _ H8.out) ?_
  rintro e w8 ⟨rfl, rfl⟩
  go_wp2
  go_ret
  exact ⟨rfl, keeps_of_below H8.out.below⟩
end Go.Proofs.Ytkogkkjdcackcaa
