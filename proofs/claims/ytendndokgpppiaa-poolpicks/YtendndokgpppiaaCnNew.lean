/-
  Package conn: New.
-/
import Derived.Test.YtendndokgpppiaaCnMake
import Derived.Carry
import Derived.Deep.RegionHeld3
import Derived.Deep.CutBlock
import Derived.Deep.DeepCutAuto
namespace Go.Proofs.Ytendndokgpppiaa
open Go.RowKit
attribute [local irreducible] nums str putA cnT cnW

set_option maxRecDepth 100000 in
set_option maxHeartbeats 2000000 in
theorem cnew_ok (every wait : Nat) (h1 : 1 ≤ every) (h2 : 1 ≤ wait) (w : World) :
    Calls Try.prog 20 #[.agg #[.int .i64 100, .int .i64 1, .int .i64 (every : Int), .int .i64 (wait : Int)]] w fun e w' => ∃ s, e = .returned (.pointer (some ⟨s.g, 0, none⟩)) ∧ Hid (Fresh s every wait) ∧ Hid (Hold w w' [cnT s]) := by
  obtain ⟨P, hP, HM⟩ := mine_100
  have HM := hid HM
  have H0 : Hid (Hold w (w.alloc (.cells #[.int .i64 100, .int .i64 1, .int .i64 (every : Int), .int .i64 (wait : Int)] 27)) [cfgT w.heap.size every wait]) := (hold_start w).newrec _ _
  have HC1 : Hid (∀ W t, Hold w W [t, cfgT w.heap.size every wait] → (W.cell? ⟨w.heap.size, 1, none⟩ = some (.int .i64 1) ∧ W.cell? ⟨w.heap.size, 2, none⟩ = some (.int .i64 (every : Int)) ∧ W.cell? ⟨w.heap.size, 3, none⟩ = some (.int .i64 (wait : Int)))) := fun W t H => H.cfg (.tail _ (.head _))
  have HC2 : Hid (∀ W t u, Hold w W [t, u, cfgT w.heap.size every wait] → (W.cell? ⟨w.heap.size, 1, none⟩ = some (.int .i64 1) ∧ W.cell? ⟨w.heap.size, 2, none⟩ = some (.int .i64 (every : Int)) ∧ W.cell? ⟨w.heap.size, 3, none⟩ = some (.int .i64 (wait : Int)))) := fun W t u H => H.cfg (.tail _ (.tail _ (.head _)))
  have HI : Hid (∀ W, Hold w W [cfgT w.heap.size every wait] → Calls Try.prog 30 #[.int .i64 1] W.drew fun e w' => ∃ g, e = .returned (.pointer (some ⟨g, 0, none⟩)) ∧ Hid (Hold w w' [Id.idT g oneI, cfgT w.heap.size every wait])) := fun W H => by
    refine (Id.new_ok 1 W.drew (by decide)).mono ?_
    rintro e w' ⟨he, hk, hs⟩
    refine ⟨_, he, (H.quiet (Keeps.refl _ _).drew).add hk recT_ok hs fun k e => ?_⟩
    have e' : k = _ := e
    omega
  have HH : Hid (∀ W g, Hold w W [Id.idT g oneI, cfgT w.heap.size every wait] → Calls Try.prog 31 #[.int .i64 (every : Int), .int .i64 (wait : Int)] W fun e w' => ∃ k, e = .returned (.pointer (some ⟨k, 0, none⟩)) ∧ Hid (Hold w w' [Pi.heT k (Pi.newH every wait), Id.idT g oneI, cfgT w.heap.size every wait])) := fun W g H => by
    refine (Pi.new_ok every wait W h1 h2).mono ?_
    rintro e w' ⟨he, hk, hs⟩
    refine ⟨_, he, H.add hk recT_ok hs fun k e => ?_⟩
    have e' : k = _ := e
    omega
  have HW := hid window_100
  have HF := hid first_ok
  have HPk := hid packer_ok
  have HUp := hid unpacker_128
  have HSp := hid split_64
  have HBl := hid block_600
  clear h1 h2
  go_enter Try.func20, Try.ntmps20
  go_wp2_with fail
  refine Calls.mono (HM.out _) ?_
  rintro e w1 ⟨rfl, k1⟩
  have H1 := hid (H0.out.quiet k1)
  obtain ⟨d1, d2, d3⟩ := H1.out.cfg (List.mem_singleton.2 rfl)
  clear HM H0 k1
  go_wp2_with fail
  go_region_held3 (fun w' => w'.cell? ⟨w.heap.size, 1, none⟩ = some (.int .i64 1) ∧ w'.cell? ⟨w.heap.size, 2, none⟩ = some (.int .i64 (every : Int)) ∧ w'.cell? ⟨w.heap.size, 3, none⟩ = some (.int .i64 (wait : Int))) (first | go_keep | exact HC1.out _ _ (Hid.out (by assumption)) | exact HC2.out _ _ _ (Hid.out (by assumption))) ((first
    | (go_at_call 30; refine Calls.mono (HI.out _ H1.out) ?_; rintro e wi ⟨gi, rfl, Hi⟩)
    | (go_at_call 31; refine Calls.mono (HH.out _ _ (Hid.out (by assumption))) ?_; rintro e wh ⟨gh, rfl, Hh⟩)))
  have H3 := hid (Hid.out Hh)
  clear Hi H1 d1 d2 d3 HC1 HC2 HI HH
  go_wp2_with fail
  refine Calls.mono (HW.out _) ?_
  rintro e w4 ⟨rfl, k4⟩
  have H4 := hid (H3.out.quiet k4)
  have H5 := hid (H4.out.newrec #[.int .i64 100, .int .i64 100, .int .i64 0] 59)
  go_wp2_with fail
  generalize hw5 : w4.alloc (.cells #[.int .i64 100, .int .i64 100, .int .i64 0] 59) = w5 at *
  obtain ⟨b0, b1, b2⟩ := H5.out.win (.head _)
  have a0 := H5.out.cfg0 (.tail _ (.tail _ (.tail _ (.head _))))
  have HK : Hid (∀ W, Keeps nobody w5 W → W.cell? ⟨w4.heap.size, 0, none⟩ = some (.int .i64 100) ∧ W.cell? ⟨w4.heap.size, 1, none⟩ = some (.int .i64 100) ∧ W.cell? ⟨w4.heap.size, 2, none⟩ = some (.int .i64 0) ∧ W.cell? ⟨w.heap.size, 0, none⟩ = some (.int .i64 100)) := fun W hk => by
    have H6 := H5.out.quiet hk
    obtain ⟨b0, b1, b2⟩ := H6.win (.head _)
    exact ⟨b0, b1, b2, H6.cfg0 (.tail _ (.tail _ (.tail _ (.head _))))⟩
  have J1 : Hid (∀ W, Keeps nobody w5 W → Calls Try.prog 33 #[] W fun e w' => e = .returned (.agg #[.int .i64 128, .int .i64 6, .int .i64 100, .int .i64 64, .int .i64 600]) ∧ Keeps nobody w5 w') := fun W hk => (HF.out W).mono fun e w' h => ⟨h.1, hk.then h.2⟩
  have J2 : Hid (∀ W, Keeps nobody w5 W → Calls Try.prog 34 #[] W fun e w' => ∃ g, e = .returned (.pointer (some ⟨g, 0, none⟩)) ∧ Keeps nobody w5 w') := fun W hk => (HPk.out W).mono fun e w' ⟨g, h1, h2⟩ => ⟨g, h1, hk.then h2⟩
  have J3 : Hid (∀ W, Keeps nobody w5 W → Calls Try.prog 35 #[.int .i64 128] W fun e w' => ∃ g, e = .returned (.pointer (some ⟨g, 0, none⟩)) ∧ Keeps nobody w5 w') := fun W hk => (HUp.out W).mono fun e w' ⟨g, h1, h2⟩ => ⟨g, h1, hk.then h2⟩
  have J4 : Hid (∀ W, Keeps nobody w5 W → Calls Try.prog 36 #[.int .i64 64] W fun e w' => ∃ g, e = .returned (.pointer (some ⟨g, 0, none⟩)) ∧ Keeps nobody w5 w') := fun W hk => (HSp.out W).mono fun e w' ⟨g, h1, h2⟩ => ⟨g, h1, hk.then h2⟩
  have J5 : Hid (∀ W, Keeps nobody w5 W → Calls Try.prog 37 #[.int .i64 600] W fun e w' => ∃ g, e = .returned (.pointer (some ⟨g, 0, none⟩)) ∧ Keeps nobody w5 w') := fun W hk => (HBl.out W).mono fun e w' ⟨g, h1, h2⟩ => ⟨g, h1, hk.then h2⟩
  have J6 : Hid (∀ W, Keeps nobody w5 W → Calls Try.prog 38 #[.int .i64 9223372036854775807] W fun e w' => ∃ g, e = .returned (.pointer (some ⟨g, 0, none⟩)) ∧ Keeps nobody w5 w' ∧ Hid (∀ W', Keeps nobody w' W' → Hold w W' [oneB g, Pi.heT gh (Pi.newH every wait), Id.idT gi oneI])) := fun W hk => by
    refine (Bu.new_ok 9223372036854775807 W (by decide) (Nat.le_refl _)).mono ?_
    rintro e w' ⟨he, h1, h2⟩
    refine ⟨_, he, hk.then h1, fun W' hk' => ?_⟩
    have h3 := ((H5.out.quiet hk).add h1 Bu.bfT_ok h2 fun k e => ?_).quiet hk'
    · exact h3.sub (.cons_cons _ (.cons _ (.cons_cons _ (.cons_cons _ (.cons _ .slnil)))))
    · rcases e with e | e
      · omega
      · cases e
  clear HW HF HPk HUp HSp HBl H3 H4 k4 hw5
  have hb0 : w4.heap.size < w5.heap.size := World.block_lt_of_cell? w5 _ b0
  have ha0 : w.heap.size < w5.heap.size := World.block_lt_of_cell? w5 _ a0
  generalize w4.heap.size = gw at *
  have hmk : ∀ W, (Instr.makeMap 73 none).run Try.prog W = .ok (.map (some W.heap.size)) (W.alloc (.map #[] 0)) := fun W => run_makeMap _ W
  go_cut [9] (fun v wx => ∃ s, v = .pointer (some ⟨s.g, 0, none⟩) ∧ Hid (s.h = Pi.newH every wait ∧ s.dead = 0 ∧ s.B = ⟨#[]⟩ ∧ s.sent = 0) ∧ Hid (Hold w wx [cnT s]))
  case first =>
    go_region_held3 (fun w' => w'.cell? ⟨gw, 0, none⟩ = some (.int .i64 100) ∧ w'.cell? ⟨gw, 1, none⟩ = some (.int .i64 100) ∧ w'.cell? ⟨gw, 2, none⟩ = some (.int .i64 0) ∧ w'.cell? ⟨w.heap.size, 0, none⟩ = some (.int .i64 100)) (first | go_keep | exact HK.out _ (by assumption) | exact HK.out _ (Keeps.alloc (by assumption) _) | exact HK.out _ (Keeps.alloc (Keeps.refl _ _).drew _)) ((first
      | (go_at_call 33; refine Calls.mono (J1.out _ (by first | assumption | exact (Keeps.refl _ _).drew | exact Keeps.alloc (by assumption) _ | exact Keeps.alloc (Keeps.refl _ _).drew _)) ?_; rintro e wq ⟨rfl, kq⟩)
      | (go_at_call 34; refine Calls.mono (J2.out _ (by first | assumption | exact Keeps.alloc (by assumption) _)) ?_; rintro e wq ⟨g, rfl, kq⟩)
      | (go_at_call 35; refine Calls.mono (J3.out _ (by first | assumption | exact Keeps.alloc (by assumption) _)) ?_; rintro e wq ⟨g, rfl, kq⟩)
      | (go_at_call 36; refine Calls.mono (J4.out _ (by first | assumption | exact Keeps.alloc (by assumption) _)) ?_; rintro e wq ⟨g, rfl, kq⟩)
      | (go_at_call 37; refine Calls.mono (J5.out _ (by first | assumption | exact Keeps.alloc (by assumption) _)) ?_; rintro e wq ⟨g, rfl, kq⟩)
      | (go_at_call 38; refine Calls.mono (J6.out _ (by first | assumption | exact Keeps.alloc (by assumption) _)) ?_; rintro e wq ⟨g, rfl, kq, KB⟩)))
    all_goals
      go_wp2_with fail
      go_meet
      first
        | exact ⟨_, rfl, ⟨rfl, rfl, rfl, rfl⟩, cn_made (KB.out _ (Keeps.refl _ _)) _ _ _ _ _⟩
        | exact ⟨_, by simp, ⟨rfl, rfl, rfl, rfl⟩, cn_made (KB.out _ (Keeps.alloc (Keeps.refl _ _) _)) _ _ _ _ _⟩
  case rest =>
    obtain ⟨s, rfl, HS, HC⟩ := hcut
    obtain ⟨s1, s2, s3, s4⟩ := HS.out
    have hz : s.B.size = 0 := by rw [s3]; rfl
    have HY := hid (say_ok (HC.out.inv (cnT s) (.head _)) s2 ⟨#[80, 82, 73, 32, 42, 32, 72, 84, 84, 80, 47, 50, 46, 48, 13, 10, 13, 10, 83, 77, 13, 10, 13, 10]⟩ (by show s.B.size + 24 ≤ _; omega) (by show s.sent + 24 ≤ _; omega))
    have HT : Hid (∀ v W, Did (cnT s) (cnT { s with v := v, B := s.B ++ ⟨#[80, 82, 73, 32, 42, 32, 72, 84, 84, 80, 47, 50, 46, 48, 13, 10, 13, 10, 83, 77, 13, 10, 13, 10]⟩, sent := s.sent + (⟨#[80, 82, 73, 32, 42, 32, 72, 84, 84, 80, 47, 50, 46, 48, 13, 10, 13, 10, 83, 77, 13, 10, 13, 10]⟩ : ByteArray).size }) wc W → Calls Try.prog 40 #[.pointer (some ⟨s.g, 0, none⟩), .slice (some ⟨W.heap.size, 0, none⟩) 1 1] (W.alloc (.cells #[.int .i64 4, .int .i64 0, .int .i64 0, .string P] 82)) fun e w' => e = .returned (.tuple #[]) ∧ ∃ s', s'.g = s.g ∧ Hid (Fresh s' every wait) ∧ Hid (Hold w w' [cnT s'])) := fun v W hd => by
      have hm := putA_most ⟨4, 0, 0, P⟩
      simp only at hm
      have h24 : (⟨#[80, 82, 73, 32, 42, 32, 72, 84, 84, 80, 47, 50, 46, 48, 13, 10, 13, 10, 83, 77, 13, 10, 13, 10]⟩ : ByteArray).size = 24 := rfl
      refine (sendone_ok hd.inv s2 4 0 0 P (by simp only [ByteArray.size_append]; omega) (by simp only; omega)).mono ?_
      rintro e w' ⟨he, v', hd2⟩
      have hx := HC.out.act (a := []) (hd.trans hd2)
      refine ⟨he, _, ?_, ?_, hx⟩
      · rfl
      · exact ⟨s1, s2, by simp only [ByteArray.size_append]; omega, by simp only; omega⟩
    clear s1 s2 s3 s4 hz HS HC HK J1 J2 J3 J4 J5 J6 hb0 ha0 b0 b1 b2 a0 H5 hmk hP
    generalize (⟨#[80, 82, 73, 32, 42, 32, 72, 84, 84, 80, 47, 50, 46, 48, 13, 10, 13, 10, 83, 77, 13, 10, 13, 10]⟩ : ByteArray) = Q at *
    go_wp2_with fail
    refine Calls.mono HY.out ?_
    rintro e w6 ⟨rfl, v, hd⟩
    have KT := hid (HT.out v w6 hd)
    clear HT hd HY
    go_wp2_with fail
    refine Calls.mono KT.out ?_
    rintro e w7 ⟨rfl, s', hg, HF, HE⟩
    have HG := hid hg
    clear KT hg
    go_wp2
    go_ret
    exact ⟨s', by rw [HG.out]; rfl, HF, HE⟩
end Go.Proofs.Ytendndokgpppiaa
