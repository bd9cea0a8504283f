/-
  The law BlockEmpty as a walk.
-/
import Derived.Test.YtdpbnlamdgdljaaJLive
namespace Go.Proofs.Ytdpbnlamdgdljaa
open Go.RowKit

theorem empty_steps (id : Int) (e : Bool) (h : 1 ≤ id ∧ id ≤ 2147483647) : cutA id ⟨#[]⟩ e 64 = [cutAt id ⟨#[]⟩ e 64 0] ∧ takeA 1 noO (cutAt id ⟨#[]⟩ e 64 0) = ((⟨id, e, ⟨#[]⟩⟩, true, 0), noO) ∧ (cutAt id ⟨#[]⟩ e 64 0).body.size ≤ 64 := by
  have hp : pieceN (⟨#[]⟩ : ByteArray).size 64 = 1 := by decide +kernel
  have hc : cuts id 64 := ⟨h, by decide⟩
  have h0 := cut_take 1 id ⟨#[]⟩ e 64 0 hc (by rw [hp]; decide)
  have e0 : opnK id ⟨#[]⟩ e 64 0 = noO := by unfold opnK; rfl
  rw [e0, hp, show (⟨#[]⟩ : ByteArray).size = 0 from rfl] at h0
  refine ⟨by unfold cutA; rw [hp]; rfl, by simpa using h0, ?_⟩
  rw [cutAt_size _ _ _ _ _ (by decide) (by rw [hp]; decide)]
  omega
attribute [local irreducible] nums str pieceN cutAt takeA opnK cutA zerosB

set_option maxRecDepth 100000 in
theorem empty_off (id : Int) (e : Bool) (w : World) (h : id < 1 ∨ 2147483647 < id) : Calls Try.prog 8 #[.int .i64 id, .bool e] w (Fine w) := by
  have HA : Hid (∀ W, Calls Try.prog 9 #[] W fun e w' => e = .returned (.bool true) ∧ Keeps nobody W w') := alive_ok
  by_cases h1 : id < 1
  · clear h
    go_enter Try.func8, Try.ntmps8
    go_wp2_with fail
    refine Calls.mono (HA.out _) ?_
    rintro e w1 ⟨rfl, k1⟩
    go_wp2
    go_ret
    exact ⟨rfl, below_of_keeps k1⟩
  · have h2 : 2147483647 < id := by omega
    have h3 : 1 ≤ id := by omega
    clear h h1
    go_enter Try.func8, Try.ntmps8
    go_wp2_with fail
    refine Calls.mono (HA.out _) ?_
    rintro e w1 ⟨rfl, k1⟩
    go_wp2
    go_ret
    exact ⟨rfl, below_of_keeps k1⟩

set_option maxRecDepth 100000 in
set_option maxHeartbeats 1000000 in
theorem empty_main (id : Int) (e : Bool) (w : World) (h : 1 ≤ id ∧ id ≤ 2147483647) : Calls Try.prog 8 #[.int .i64 id, .bool e] w (Fine w) := by
  have HA : Hid (∀ W, Calls Try.prog 9 #[] W fun e w' => e = .returned (.bool true) ∧ Keeps nobody W w') := alive_ok
  obtain ⟨hl, ht, hs⟩ := empty_steps id e h
  have hp : pieceN (⟨#[]⟩ : ByteArray).size 64 = 1 := by unfold pieceN; decide +kernel
  have HC : Hid (∀ W ts, Hold w W ts → Calls Try.prog 10 #[.int .i64 id, .string ⟨#[]⟩, .bool e, .int .i64 64] W fun r w' => ∃ rb c, r = .returned (.tuple #[.slice (some ⟨rb, 0, none⟩) 1 c, .bool true]) ∧ Hid (Hold w w' (rowT (.slice (some ⟨rb, 0, none⟩) 1 c) [cutAt id ⟨#[]⟩ e 64 0] :: ts))) := fun W ts hh => by
    have := t_cut hh id 64 ⟨#[]⟩ e ⟨h, by decide⟩ (by decide)
    rwa [hp, hl] at this
  have HN : Hid (∀ W ts, Hold w W ts → Calls Try.prog 14 #[.int .i64 1] W fun e w' => ∃ g v, e = .returned (.pointer (some ⟨g, 0, none⟩)) ∧ Hid (Hold w w' (blT g v 1 noO :: ts))) := fun W ts h => t_bnew h 1 (by decide) (by decide)
  have HT0 : Hid (∀ W g v ts, Hold w W (blT g v 1 noO :: ts) → Calls Try.prog 15 #[.pointer (some ⟨g, 0, none⟩), frval (cutAt id ⟨#[]⟩ e 64 0)] W fun r w' => r = .returned (.tuple #[.agg #[.int .i64 id, .string ⟨#[]⟩, .bool e], .bool true, .int .i64 0]) ∧ ∃ v', Hid (Hold w w' (blT g v' 1 noO :: ts))) := fun W g v ts h => by
    have := t_take h (cutAt id ⟨#[]⟩ e 64 0) (by show 0 + _ ≤ _; omega)
    rwa [ht] at this
  have HO : Hid (∀ W g v ts, Hold w W (blT g v 1 noO :: ts) → Calls Try.prog 16 #[.pointer (some ⟨g, 0, none⟩)] W fun e w' => e = .returned (.int .i64 0) ∧ W = w') := fun W g v ts h => t_bopen h
  obtain ⟨h1, h2⟩ := h
  clear hl hp ht hs
  generalize cutAt id ⟨#[]⟩ e 64 0 = f0 at *
  cases e with
  | false =>
    go_enter Try.func8, Try.ntmps8
    go_wp2_with fail
    refine Calls.mono (HA.out _) ?_
    rintro r w0 ⟨rfl, k0⟩
    have H0 := hid ((hold_nil (Below.refl w.heap.size w)).quiet k0)
    clear HA k0
    go_wp2_with fail
    refine Calls.mono (HC.out _ _ H0.out) ?_
    rintro r w1 ⟨rb, c, rfl, H1⟩
    clear H0 HC
    go_wp2_with fail
    refine Calls.mono (HN.out _ _ H1.out) ?_
    rintro r w2 ⟨g, v, rfl, H2⟩
    obtain ⟨r0, r1, r2, r3⟩ := H2.out.row (rb := rb) (n := 1) (c := c) (l := [f0]) (by simp) 0 f0 rfl
    have hrb := H2.out.rowLt (rb := rb) (n := 1) (c := c) (l := [f0]) (by simp)
    clear H1 HN
    go_wp2_with fail
    refine Calls.mono (HT0.out _ _ _ _ H2.out) ?_
    rintro r w3 ⟨rfl, v3, H3⟩
    have H4 := hid (H3.out.quiet (keeps_alloc w3 (.cells #[.int .i64 id, .string ⟨#[]⟩, .bool false] 41)))
    clear H2 H3 HT0 r0 r1 r2 r3
    go_wp2_with fail
    refine Calls.mono (HO.out _ _ _ _ H4.out) ?_
    rintro r w7 ⟨rfl, rfl⟩
    go_wp2
    go_ret
    exact ⟨rfl, H4.out.below⟩
  | true =>
    go_enter Try.func8, Try.ntmps8
    go_wp2_with fail
    refine Calls.mono (HA.out _) ?_
    rintro r w0 ⟨rfl, k0⟩
    have H0 := hid ((hold_nil (Below.refl w.heap.size w)).quiet k0)
    clear HA k0
    go_wp2_with fail
    refine Calls.mono (HC.out _ _ H0.out) ?_
    rintro r w1 ⟨rb, c, rfl, H1⟩
    clear H0 HC
    go_wp2_with fail
    refine Calls.mono (HN.out _ _ H1.out) ?_
    rintro r w2 ⟨g, v, rfl, H2⟩
    obtain ⟨r0, r1, r2, r3⟩ := H2.out.row (rb := rb) (n := 1) (c := c) (l := [f0]) (by simp) 0 f0 rfl
    have hrb := H2.out.rowLt (rb := rb) (n := 1) (c := c) (l := [f0]) (by simp)
    clear H1 HN
    go_wp2_with fail
    refine Calls.mono (HT0.out _ _ _ _ H2.out) ?_
    rintro r w3 ⟨rfl, v3, H3⟩
    have H4 := hid (H3.out.quiet (keeps_alloc w3 (.cells #[.int .i64 id, .string ⟨#[]⟩, .bool true] 41)))
    clear H2 H3 HT0 r0 r1 r2 r3
    go_wp2_with fail
    refine Calls.mono (HO.out _ _ _ _ H4.out) ?_
    rintro r w7 ⟨rfl, rfl⟩
    go_wp2
    go_ret
    exact ⟨rfl, H4.out.below⟩
theorem empty_true (id : Int) (e : Bool) (w : World) : Calls Try.prog 8 #[.int .i64 id, .bool e] w (Fine w) := by
  by_cases h : 1 ≤ id ∧ id ≤ 2147483647
  · exact empty_main id e w h
  · exact empty_off id e w (by omega)
end Go.Proofs.Ytdpbnlamdgdljaa
