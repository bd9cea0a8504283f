/-
  Package conn: bytesOf, shutAbove where nothing is open, breakOff, Close, Tick.
-/
import Derived.Test.YtendndokgpppiaaCnSay
namespace Go.Proofs.Ytendndokgpppiaa
open Go.RowKit
attribute [local irreducible] nums str putA cnT cnW

theorem eql_ex_nil (w : World) : (binOp .eql 76 (.slice none 0 0) (.slice none 0 0)).run Try.prog w = .ok (.bool true) w := by
  simp only [binOp]
  simp [run_equal_slice_nil w 76 _ none 0 0 Try.underlying76]
theorem clone_none (w : World) : Calls Try.prog 55 #[.slice none 0 0] w fun e w' => e = .returned (.slice none 0 0) ∧ w = w' := by
  have he := eql_ex_nil
  go_enter Try.func55, Try.ntmps55
  go_wp2
  go_ret
  exact ⟨rfl, rfl⟩
theorem above_ok {w : World} {s : Cn} (H : (cnT s).inv w) (n e0 : Int) : Calls Try.prog 43 #[.pointer (some ⟨s.g, 0, none⟩), .int .i64 n, .int .i64 e0] w fun e w' => e = .returned (.tuple #[]) ∧ w = w' := by
  have HC := hid clone_none
  obtain ⟨_, _, _, _, c19, _⟩ := cnT_cells H
  clear H
  go_enter Try.func43, Try.ntmps43
  go_wp2_with fail
  refine Calls.mono (HC.out _) ?_
  rintro e w1 ⟨rfl, rfl⟩
  go_wp2
  go_loopg [14] 0 (fun k i wr => i = .int .i64 0 ∧ wr = w)
  case atStart => exact ⟨rfl, rfl⟩
  case round =>
    obtain ⟨rfl, rfl⟩ := hrel
    go_wp2
    refine bodyPost_end (v := .tuple #[]) (by simp [results, Try.results43, go_sem]) rfl ⟨rfl, rfl⟩
theorem zero_ok (w : World) : Calls Try.prog 42 #[.int .i64 0] w fun e w' => e = .returned (.string (str [0, 0, 0, 0])) ∧ Keeps nobody w w' := by
  have hc := Fr.conv_lit w [0, 0, 0, 0] (by decide)
  have hl : (cellsOf [0, 0, 0, 0]).toArray = #[.int .u8 0, .int .u8 0, .int .u8 0, .int .u8 0] := rfl
  rw [hl] at hc
  simp only [List.length_cons, List.length_nil] at hc
  clear hl
  go_enter Try.func42, Try.ntmps42
  go_wp2
  go_ret
  exact ⟨rfl, keeps_alloc _ _⟩
/-- It is this one behind what was done: so broken, with such a health; not much more was said. -/
structure Turned (s s' : Cn) (h : Pi.He) (d : Int) : Prop where
  g : s'.g = s.g
  h : s'.h = h
  dead : s'.dead = d
  size : s'.B.size ≤ s.B.size + 20
  sent : s'.sent ≤ s.sent + 20
set_option maxRecDepth 100000 in
theorem break_ok {w : World} {s : Cn} (H : (cnT s).inv w) (h0 : s.dead = 0) (d : Int) (hB : s.B.size ≤ 900000) (hs : s.sent ≤ 900000) :
    Calls Try.prog 24 #[.pointer (some ⟨s.g, 0, none⟩), .int .i64 0, .int .i64 d] w fun e w' => e = .returned (.int .i64 d) ∧ ∃ s', Did (cnT s) (cnT s') w w' ∧ Turned s s' s.h d := by
  have HZ := hid zero_ok
  have h8 : (str [0, 0, 0, 0] ++ str [0, 0, 0, 0]).size = 8 := by rw [ByteArray.size_append, str_size]; rfl
  have HS : Hid (∀ W, Keeps nobody w W → Calls Try.prog 40 #[.pointer (some ⟨s.g, 0, none⟩), .slice (some ⟨W.heap.size, 0, none⟩) 1 1] (W.alloc (.cells #[.int .i64 7, .int .i64 0, .int .i64 0, .string (str [0, 0, 0, 0] ++ str [0, 0, 0, 0])] 82)) fun e w' => e = .returned (.tuple #[]) ∧ ∃ v' P, (Did (cnT s) (cnT { s with v := v', B := s.B ++ P, sent := s.sent + P.size }) w w') ∧ P.size ≤ 20) := fun W hk => by
    refine (sendone_ok (cnT_quiet H hk) h0 7 0 0 (str [0, 0, 0, 0] ++ str [0, 0, 0, 0]) (by omega) (by omega)).mono ?_
    rintro e w' ⟨he, v', hd⟩
    have hm := putA_most ⟨7, 0, 0, str [0, 0, 0, 0] ++ str [0, 0, 0, 0]⟩
    simp only at hm
    exact ⟨he, v', _, hd.before hk, by omega⟩
  have hz4 : (str [0, 0, 0, 0]).size = 4 := by rw [str_size]; rfl
  clear h8
  generalize str [0, 0, 0, 0] = Z at *
  have HF : Hid (∀ s1 W, Did (cnT s) (cnT s1) w W → s1.g = s.g → (W.frozen? ⟨s.g, 24, none⟩ = false ∧ W.cell? ⟨s.g, 24, none⟩ = some (.int .i64 s1.dead)) ∧ Did (cnT s) (cnT { s1 with dead := d }) w (W.setCell ⟨s.g, 24, none⟩ (.int .i64 d))) := fun s1 W hd hg => by
    have hi := cnT_of hd.inv
    refine ⟨⟨by simp [World.frozen?, cnW_blk (hg ▸ hi)], by simp [World.cell?, cnW_blk (hg ▸ hi), cnC]⟩, ?_⟩
    have hx := cn_set hi 24 (.int .i64 d)
    have e : (cnC s1).setIfInBounds 24 (.int .i64 d) = cnC { s1 with dead := d } := by simp [cnC]
    rw [e, hg] at hx
    have hx2 : Did (cnT s1) (cnT { s1 with dead := d }) W (W.setCell ⟨s.g, 24, none⟩ (.int .i64 d)) := by
      unfold cnT
      simp only [hg]
      exact hx
    exact hd.trans hx2
  have HG : Hid (∀ s1 W, Did (cnT s) (cnT s1) w W → s1.g = s.g → (W.frozen? ⟨s.g, 10, none⟩ = false ∧ W.cell? ⟨s.g, 10, none⟩ = some s1.fr) ∧ Did (cnT s) (cnT { s1 with fr := .pointer none }) w (W.setCell ⟨s.g, 10, none⟩ (.pointer none))) := fun s1 W hd hg => by
    have hi := cnT_of hd.inv
    refine ⟨⟨by simp [World.frozen?, cnW_blk (hg ▸ hi)], by simp [World.cell?, cnW_blk (hg ▸ hi), cnC]⟩, ?_⟩
    have hx := cn_set hi 10 (.pointer none)
    have e : (cnC s1).setIfInBounds 10 (.pointer none) = cnC { s1 with fr := .pointer none } := by simp [cnC]
    rw [e, hg] at hx
    have hx2 : Did (cnT s1) (cnT { s1 with fr := .pointer none }) W (W.setCell ⟨s.g, 10, none⟩ (.pointer none)) := by
      unfold cnT
      simp only [hg]
      exact hx
    exact hd.trans hx2
  have HA : Hid (∀ s1 W, (cnT s1).inv W → s1.g = s.g → Calls Try.prog 43 #[.pointer (some ⟨s.g, 0, none⟩), .int .i64 0, .int .i64 19] W fun e w' => e = .returned (.tuple #[]) ∧ W = w') := fun s1 W hi hg => by
    rw [← hg]
    exact above_ok hi 0 19
  have HT : Hid (∀ v' P, P.size ≤ 20 → Turned s { s with v := v', B := s.B ++ P, sent := s.sent + P.size, dead := d, fr := .pointer none } s.h d) := fun v' P hP => ⟨rfl, rfl, rfl, by simp only [ByteArray.size_append]; omega, by simp only; omega⟩
  clear H
  go_enter Try.func24, Try.ntmps24
  go_wp2_with fail
  refine Calls.mono (HZ.out _) ?_
  rintro e w1 ⟨rfl, k1⟩
  go_wp2_with fail
  refine Calls.mono (HZ.out _) ?_
  rintro e w2 ⟨rfl, k2⟩
  have KS := hid (HS.out _ (k1.then k2))
  clear HS HZ k1 k2
  go_wp2_with fail
  refine Calls.mono KS.out ?_
  rintro e w3 ⟨rfl, v', P, hd, hP⟩
  obtain ⟨⟨f24, c24⟩, hd2⟩ := HF.out _ _ hd rfl
  have KT := hid (HT.out v' P hP)
  have KA := hid (HA.out _ _ hd2.inv rfl)
  obtain ⟨⟨f10, c10⟩, hd3⟩ := HG.out _ _ hd2 rfl
  have HD := hid hd3
  clear KS HF HG HT HA hd hd2 hd3 hP
  go_wp2_with fail
  refine Calls.mono KA.out ?_
  rintro e w4 ⟨rfl, rfl⟩
  go_wp2
  go_ret
  exact ⟨rfl, _, HD.out, KT.out⟩
theorem close_ok {w : World} {s : Cn} (H : (cnT s).inv w) (h0 : s.dead = 0) (hB : s.B.size ≤ 900000) (hs : s.sent ≤ 900000) :
    Calls Try.prog 11 #[.pointer (some ⟨s.g, 0, none⟩)] w fun e w' => e = .returned (.tuple #[]) ∧ ∃ s', Did (cnT s) (cnT s') w w' ∧ Turned s s' s.h 12 := by
  have HD := hid (cdead_ok H)
  have HB := hid (break_ok H h0 12 hB hs)
  rw [h0] at HD
  clear H hB hs
  generalize s.h = h at *
  go_enter Try.func11, Try.ntmps11
  go_wp2_with fail
  refine Calls.mono HD.out ?_
  rintro e w1 ⟨rfl, rfl⟩
  go_wp2_with fail
  refine Calls.mono HB.out ?_
  rintro e w1 ⟨rfl, hx⟩
  have HX := hid hx
  clear hx
  go_wp2
  refine bodyPost_end (v := .tuple #[]) (by simp [results, Try.results11, go_sem]) rfl ⟨rfl, HX.out⟩
end Go.Proofs.Ytendndokgpppiaa
