/-
  The reference's Health: Tick, Got.
-/
import Derived.Test.YtfgbijhmhanpeaaOCode
import Derived.BigRegion
namespace Go.Proofs.Ytfgbijhmhanpeaa
open Go.RowKit
attribute [local irreducible] nums str bodyB

structure Rh where
  every : Nat
  wait : Nat
  n : Nat
  since : Nat
  sent : Nat
  gone : Bool
def rC (r : Rh) : Array Value := #[.int .i64 (r.every : Int), .int .i64 (r.wait : Int), .int .i64 (r.n : Int), .int .i64 (r.since : Int), .int .i64 (r.sent : Int), .bool r.gone]
abbrev rhT (g : Nat) (r : Rh) : Thing := recT g (rC r) 32
def Rl (w : World) (g : Nat) (r : Rh) : Prop := w.heap[g]? = some (.cells (rC r) 32 (0, 0))
theorem Rl.cells {w : World} {g : Nat} {r : Rh} (H : Rl w g r) : w.cell? ⟨g, 0, none⟩ = some (.int .i64 (r.every : Int)) ∧ w.cell? ⟨g, 1, none⟩ = some (.int .i64 (r.wait : Int)) ∧ w.cell? ⟨g, 2, none⟩ = some (.int .i64 (r.n : Int)) ∧ w.cell? ⟨g, 3, none⟩ = some (.int .i64 (r.since : Int)) ∧ w.cell? ⟨g, 4, none⟩ = some (.int .i64 (r.sent : Int)) ∧ w.cell? ⟨g, 5, none⟩ = some (.bool r.gone) ∧ ∀ n, w.frozen? ⟨g, n, none⟩ = false := by
  unfold Rl rC at H
  refine ⟨?_, ?_, ?_, ?_, ?_, ?_, fun n => ?_⟩ <;> simp [World.cell?, World.frozen?, H]
def rtick (r : Rh) : Rh × ByteArray × Bool :=
  if r.gone = true then (⟨r.every, r.wait, r.n, r.since + 1, r.sent, true⟩, ⟨#[]⟩, true)
  else if 0 < r.n then (⟨r.every, r.wait, r.n, r.since + 1, r.sent, decide (r.wait ≤ r.since + 1)⟩, ⟨#[]⟩, decide (r.wait ≤ r.since + 1))
  else if r.since + 1 < r.every then (⟨r.every, r.wait, r.n, r.since + 1, r.sent, false⟩, ⟨#[]⟩, false)
  else (⟨r.every, r.wait, r.sent + 1, 0, r.sent + 1, false⟩, bodyB (r.sent + 1), false)
def rgot (r : Rh) (b : ByteArray) : Rh × Bool :=
  if r.n = 0 ∨ r.gone = true ∨ b ≠ bodyB r.n then (r, false) else (⟨r.every, r.wait, 0, 0, r.sent, r.gone⟩, true)
structure RFit (r : Rh) : Prop where
  every : r.every ≤ 9223372036854775807
  wait : r.wait ≤ 9223372036854775807
  n : r.n ≤ 4294967294
  since : r.since ≤ 4294967294
  sent : r.sent ≤ 4294967294

set_option maxRecDepth 100000 in
set_option maxHeartbeats 1000000 in
theorem rtick_ok {w : World} {g : Nat} {r : Rh} (H : Rl w g r) (F : RFit r) : Calls Try.prog 14 #[.pointer (some ⟨g, 0, none⟩)] w fun e w' => e = .returned (.tuple #[.string (rtick r).2.1, .bool (rtick r).2.2]) ∧ Did (rhT g r) (rhT g (rtick r).1) w w' := by
  obtain ⟨c0, c1, c2, c3, c4, c5, cf⟩ := H.cells
  have hD := did_rec (T := 32) H
  obtain ⟨every, wait, n, since, sent, gone⟩ := r
  obtain ⟨f0, f1, f2, f3, f4⟩ := F
  simp only at c0 c1 c2 c3 c4 c5 f0 f1 f2 f3 f4
  cases gone with
  | true =>
    have e : rtick ⟨every, wait, n, since, sent, true⟩ = (⟨every, wait, n, since + 1, sent, true⟩, ⟨#[]⟩, true) := by simp [rtick]
    rw [e]
    have HD : Hid (Did (rhT g ⟨every, wait, n, since, sent, true⟩) (rhT g ⟨every, wait, n, since + 1, sent, true⟩) w (w.setCell ⟨g, 3, none⟩ (.int .i64 ((since : Int) + 1)))) := hD.set 3 _
    clear H e hD
    go_enter Try.func14, Try.ntmps14
    go_wp2
    exact bodyPost_ret (v := .tuple #[.string ⟨#[]⟩, .bool true]) (by simp [results, Try.results14, go_sem]) rfl ⟨rfl, HD.out⟩
  | false =>
    by_cases h1 : 0 < n
    · by_cases h2 : wait ≤ since + 1
      · have e : rtick ⟨every, wait, n, since, sent, false⟩ = (⟨every, wait, n, since + 1, sent, true⟩, ⟨#[]⟩, true) := by simp [rtick, h1, h2]
        rw [e]
        have HD : Hid (Did (rhT g ⟨every, wait, n, since, sent, false⟩) (rhT g ⟨every, wait, n, since + 1, sent, true⟩) w ((w.setCell ⟨g, 3, none⟩ (.int .i64 ((since : Int) + 1))).setCell ⟨g, 5, none⟩ (.bool true))) := (hD.set 3 _).set 5 _
        have hdec : decide ((wait : Int) ≤ (since : Int) + 1) = true := decide_eq_true (by omega)
        clear H e hD h2
        go_enter Try.func14, Try.ntmps14
        go_wp2_with fail
        go_region
        go_wp2_with fail
        go_quiet (fail)
        go_wp2
        exact bodyPost_ret (v := .tuple #[.string ⟨#[]⟩, .bool true]) (by simp [results, Try.results14, go_sem]) rfl ⟨rfl, (HD.out.then (Keeps.refl _ _).drew).then ((Keeps.refl _ _).drewN _)⟩
      · have e : rtick ⟨every, wait, n, since, sent, false⟩ = (⟨every, wait, n, since + 1, sent, false⟩, ⟨#[]⟩, false) := by simp [rtick, h1, h2]
        rw [e]
        have HD : Hid (Did (rhT g ⟨every, wait, n, since, sent, false⟩) (rhT g ⟨every, wait, n, since + 1, sent, false⟩) w ((w.setCell ⟨g, 3, none⟩ (.int .i64 ((since : Int) + 1))).setCell ⟨g, 5, none⟩ (.bool false))) := (hD.set 3 _).set 5 _
        have hdec : decide ((wait : Int) ≤ (since : Int) + 1) = false := decide_eq_false (by omega)
        clear H e hD h2
        go_enter Try.func14, Try.ntmps14
        go_wp2_with fail
        go_region
        go_wp2_with fail
        go_quiet (fail)
        go_wp2
        exact bodyPost_ret (v := .tuple #[.string ⟨#[]⟩, .bool false]) (by simp [results, Try.results14, go_sem]) rfl ⟨rfl, (HD.out.then (Keeps.refl _ _).drew).then ((Keeps.refl _ _).drewN _)⟩
    · have h0 : n = 0 := by omega
      subst h0
      by_cases h2 : since + 1 < every
      · have e : rtick ⟨every, wait, 0, since, sent, false⟩ = (⟨every, wait, 0, since + 1, sent, false⟩, ⟨#[]⟩, false) := by simp [rtick, h2]
        rw [e]
        have HD : Hid (Did (rhT g ⟨every, wait, 0, since, sent, false⟩) (rhT g ⟨every, wait, 0, since + 1, sent, false⟩) w (w.setCell ⟨g, 3, none⟩ (.int .i64 ((since : Int) + 1)))) := hD.set 3 _
        clear H e hD
        go_enter Try.func14, Try.ntmps14
        go_wp2_with fail
        go_quiet (fail)
        go_wp2
        exact bodyPost_ret (v := .tuple #[.string ⟨#[]⟩, .bool false]) (by simp [results, Try.results14, go_sem]) rfl ⟨rfl, HD.out.then ((Keeps.refl _ _).drewN _)⟩
      · have e : rtick ⟨every, wait, 0, since, sent, false⟩ = (⟨every, wait, sent + 1, 0, sent + 1, false⟩, bodyB (sent + 1), false) := by simp [rtick, h2]
        rw [e]
        have HB : Hid (∀ W, Calls Try.prog 16 #[.int .i64 ((sent : Int) + 1), .int .i64 8] W fun e w' => e = .returned (.string (bodyB (sent + 1))) ∧ Keeps nobody W w') := fun W => by
          have := big_ok (sent + 1) 8 W (by omega) (by decide) (by decide)
          unfold bodyB
          simpa using this
        have HD : Hid (∀ k, Did (rhT g ⟨every, wait, 0, since, sent, false⟩) (rhT g ⟨every, wait, sent + 1, 0, sent + 1, false⟩) w (((((w.setCell ⟨g, 3, none⟩ (.int .i64 ((since : Int) + 1))).drewN k).setCell ⟨g, 4, none⟩ (.int .i64 ((sent : Int) + 1))).setCell ⟨g, 2, none⟩ (.int .i64 ((sent : Int) + 1))).setCell ⟨g, 3, none⟩ (.int .i64 0))) := fun k => by
          have := ((((hD.set 3 (.int .i64 ((since : Int) + 1))).then ((Keeps.refl _ _).drewN k)).set 4 (.int .i64 ((sent : Int) + 1))).set 2 (.int .i64 ((sent : Int) + 1))).set 3 (.int .i64 0)
          exact this
        clear H e hD
        generalize bodyB (sent + 1) = B at *
        go_enter Try.func14, Try.ntmps14
        go_wp2_with fail
        go_quiet (fail)
        go_wp2_with fail
        refine Calls.mono (HB.out _) ?_
        rintro e w1 ⟨rfl, k1⟩
        go_wp2
        exact bodyPost_ret (v := .tuple #[.string B, .bool false]) (by simp [results, Try.results14, go_sem]) rfl ⟨rfl, (HD.out _).then k1⟩
set_option maxRecDepth 100000 in
set_option maxHeartbeats 1000000 in
theorem rgot_ok {w : World} {g : Nat} {r : Rh} (H : Rl w g r) (F : RFit r) (b : ByteArray) : Calls Try.prog 15 #[.pointer (some ⟨g, 0, none⟩), .string b] w fun e w' => e = .returned (.bool (rgot r b).2) ∧ Did (rhT g r) (rhT g (rgot r b).1) w w' := by
  have HB : Hid (∀ W, Calls Try.prog 16 #[.int .i64 (r.n : Int), .int .i64 8] W fun e w' => e = .returned (.string (bodyB r.n)) ∧ Keeps nobody W w') := fun W => by
    have := big_ok r.n 8 W (by have := F.n; omega) (by decide) (by decide)
    unfold bodyB
    exact this
  obtain ⟨c0, c1, c2, c3, c4, c5, cf⟩ := H.cells
  have hD := did_rec (T := 32) H
  have hlt : g < w.heap.size := (Array.getElem?_eq_some_iff.1 H).1
  have HL := hid H
  obtain ⟨every, wait, n, since, sent, gone⟩ := r
  simp only at c0 c1 c2 c3 c4 c5 HB
  by_cases h0 : n = 0
  · subst h0
    have e : rgot ⟨every, wait, 0, since, sent, gone⟩ b = (⟨every, wait, 0, since, sent, gone⟩, false) := by simp [rgot]
    rw [e]
    have HD := hid hD
    clear H HL e hD F
    go_enter Try.func15, Try.ntmps15
    go_wp2
    go_ret
    exact ⟨rfl, HD.out⟩
  · have hz : ((n : Int) == 0) = false := by simp; omega
    cases gone with
    | true =>
      have e : rgot ⟨every, wait, n, since, sent, true⟩ b = (⟨every, wait, n, since, sent, true⟩, false) := by simp [rgot]
      rw [e]
      have HD := hid hD
      clear H HL e hD F h0
      go_enter Try.func15, Try.ntmps15
      go_wp2
      go_ret
      exact ⟨rfl, HD.out⟩
    | false =>
      by_cases hb : b = bodyB n
      · have e : rgot ⟨every, wait, n, since, sent, false⟩ b = (⟨every, wait, 0, 0, sent, false⟩, true) := by simp [rgot, h0, hb]
        rw [e]
        have hq := beq_list_of_eq hb
        clear e h0 hb hD H F
        generalize bodyB n = B at *
        go_enter Try.func15, Try.ntmps15
        go_wp2_with fail
        refine Calls.mono (HB.out _) ?_
        rintro e w1 ⟨rfl, k1⟩
        have H1 : Rl w1 g ⟨every, wait, n, since, sent, false⟩ := (k1.block g hlt id).trans HL.out
        obtain ⟨d0, d1, d2, d3, d4, d5, df⟩ := H1.cells
        simp only at d0 d1 d2 d3 d4 d5
        have HD : Hid (Did (rhT g ⟨every, wait, n, since, sent, false⟩) (rhT g ⟨every, wait, 0, 0, sent, false⟩) w ((w1.setCell ⟨g, 2, none⟩ (.int .i64 0)).setCell ⟨g, 3, none⟩ (.int .i64 0))) := by
          have := (((did_rec (T := 32) HL.out).then k1).set 2 (.int .i64 0)).set 3 (.int .i64 0)
          exact this
        clear H1 c0 c1 c2 c3 c4 c5 cf k1 HL HB
        go_wp2
        go_ret
        exact ⟨rfl, HD.out⟩
      · have e : rgot ⟨every, wait, n, since, sent, false⟩ b = (⟨every, wait, n, since, sent, false⟩, false) := by simp [rgot, hb]
        rw [e]
        have hq := beq_list_of_ne hb
        have HD := hid hD
        clear e h0 hb hD H HL F
        generalize bodyB n = B at *
        go_enter Try.func15, Try.ntmps15
        go_wp2_with fail
        refine Calls.mono (HB.out _) ?_
        rintro e w1 ⟨rfl, k1⟩
        go_wp2
        go_ret
        exact ⟨rfl, HD.out.then k1⟩
end Go.Proofs.Ytfgbijhmhanpeaa
