/-
  Package pool: Dialed, New.
-/
import Derived.Test.YtendndokgpppiaaPoLoop
import Derived.Deep.RegionHeld3
namespace Go.Proofs.Ytendndokgpppiaa
open Go.RowKit
attribute [local irreducible] cnT cnW

section
variable {W w : World} {p : Po} {ts : List Thing}
/-- One more is there. -/
def Po.more (p : Po) (x : Option Addr) (n c : Nat) (s : Cn) : Po := { p with dialing := false, last := p.last + 1, x := x, n := n, c := c, L := p.L ++ [(p.last + 1, s)] }
theorem poset5 (H : Hold W w (poTs p ts)) (m : Nat) : Hold W (w.setCell ⟨p.g, 5, none⟩ (.int .i64 (m : Int))) (poTs { p with last := m } ts) := by
  have h := Hold.recset (a := []) (g := p.g) (cs := poC p) H 5 (.int .i64 (m : Int))
  have e : (poC p).setIfInBounds 5 (.int .i64 (m : Int)) = poC { p with last := m } := by simp [poC]
  rw [e] at h
  exact h
/-- A line more behind the list; it is written back. -/
theorem more_ok {w1 : World} {s : Cn} {g every wait most last : Nat} {x : Option Addr} {n c : Nat} {L : List (Nat × Cn)} (h : Hold W w1 (cnT s :: poTs ⟨g, every, wait, most, last, false, x, n, c, L⟩ ts)) (hl : L.length ≤ 1000000) :
    ∃ x2 n2 c2 w2, (Builtin.append_ #[43, 43] 43 #[.slice x n c, .slice (some ⟨w1.heap.size, 0, none⟩) 1 1]).run Try.prog (w1.alloc (.cells #[.int .i64 (last : Int), .pointer (some ⟨s.g, 0, none⟩)] 47)) = .ok (.slice x2 n2 c2) w2 ∧
      (w2.cell? ⟨g, 0, none⟩ = some (.int .i64 100) ∧ w2.cell? ⟨g, 1, none⟩ = some (.int .i64 1) ∧ w2.cell? ⟨g, 2, none⟩ = some (.int .i64 (every : Int)) ∧ w2.cell? ⟨g, 3, none⟩ = some (.int .i64 (wait : Int)) ∧ w2.cell? ⟨g, 5, none⟩ = some (.int .i64 (last : Int))) ∧ w2.cell? ⟨g, 7, none⟩ = some (.slice x n c) ∧ w2.frozen? ⟨g, 7, none⟩ = false ∧
      Hid (Hold W (w2.setCell ⟨g, 7, none⟩ (.slice x2 n2 c2)) (poTs ⟨g, every, wait, most, last, false, x2, n2, c2, L ++ [(last, s)]⟩ ts)) := by
  have hlen : (lsOf L).length = L.length := lsOf_length L
  obtain ⟨x2, n2, c2, w2, r, H2⟩ := Recs.app_lit (P := Try.prog) (R := lineR) (ts := [cnT s, poT ⟨g, every, wait, most, last, false, x, n, c, L⟩]) (us := L.map (fun q => cnT q.2) ++ ts) 43 43 47 _ 16 Try.underlying43 infoLine rfl h (last, s.g) #[.int .i64 (last : Int), .pointer (some ⟨s.g, 0, none⟩)] rfl (by rw [hlen]; omega) (by decide)
  have H3 := H2.out.2
  have hc := H3.cellsOf (g := g) (cs := poC ⟨g, every, wait, most, last, false, x, n, c, L⟩) (T := 45) (.tail _ (.head _))
  refine ⟨x2, n2, c2, w2, r, ⟨hc.1 0, hc.1 1, hc.1 2, hc.1 3, hc.1 5⟩, hc.1 7, hc.2.1 7, ?_⟩
  have h4 := Hold.recset (a := [cnT s]) H3 7 (.slice x2 n2 c2)
  have e : (poC ⟨g, every, wait, most, last, false, x, n, c, L⟩).setIfInBounds 7 (.slice x2 n2 c2) = poC ⟨g, every, wait, most, last, false, x2, n2, c2, L ++ [(last, s)]⟩ := by simp [poC]
  rw [e] at h4
  refine h4.perm ?_
  have e2 : lsOf L ++ [(last, s.g)] = lsOf (L ++ [(last, s)]) := by simp [lsOf]
  rw [e2]
  unfold poTs
  have e3 : (L ++ [(last, s)]).map (fun q => cnT q.2) ++ ts = L.map (fun q => cnT q.2) ++ cnT s :: ts := by simp
  simp only [e3]
  refine (List.Perm.swap _ _ _).trans (List.Perm.cons _ ((List.Perm.swap _ _ _).trans (List.Perm.cons _ ?_)))
  exact List.perm_middle.symm
theorem dialed_none (H : Hold W w (poTs p ts)) (F : PFit p) (hd : p.dialing = false) (b : Bool) : Calls Try.prog 9 #[.pointer (some ⟨p.g, 0, none⟩), .bool b] w fun e w' => e = .returned (.tuple #[.int .i64 0, .bool false]) ∧ w = w' := by
  have HM := hid (pmade_ok H F)
  obtain ⟨_, _, _, _, _, _, c6, _, cf, _⟩ := H.po
  rw [hd] at c6
  clear H hd
  go_enter Try.func9, Try.ntmps9
  go_wp2_with fail
  refine Calls.mono HM.out ?_
  rintro e w1 ⟨rfl, rfl⟩
  go_wp2
  exact bodyPost_ret (v := .tuple #[.int .i64 0, .bool false]) (by simp [results, Try.results9, go_sem]) rfl ⟨rfl, rfl⟩
theorem dialed_no (H : Hold W w (poTs p ts)) (F : PFit p) (hd : p.dialing = true) : Calls Try.prog 9 #[.pointer (some ⟨p.g, 0, none⟩), .bool false] w fun e w' => e = .returned (.tuple #[.int .i64 0, .bool true]) ∧ Hid (Hold W w' (poTs { p with dialing := false } ts)) := by
  have HM := hid (pmade_ok H F)
  obtain ⟨_, _, _, _, _, _, c6, _, cf, _⟩ := H.po
  have HS := hid (poset H false)
  have hf := cf 6
  rw [hd] at c6
  clear H hd
  go_enter Try.func9, Try.ntmps9
  go_wp2_with fail
  refine Calls.mono HM.out ?_
  rintro e w1 ⟨rfl, rfl⟩
  go_wp2
  exact bodyPost_ret (v := .tuple #[.int .i64 0, .bool true]) (by simp [results, Try.results9, go_sem]) rfl ⟨rfl, HS⟩
set_option maxRecDepth 100000 in
set_option maxHeartbeats 2000000 in
theorem dialed_yes (H : Hold W w (poTs p ts)) (F : PFit p) (hd : p.dialing = true) : Calls Try.prog 9 #[.pointer (some ⟨p.g, 0, none⟩), .bool true] w fun e w' => e = .returned (.tuple #[.int .i64 ((p.last : Int) + 1), .bool true]) ∧ ∃ x n c s, Hid (Fresh s p.every p.wait) ∧ Hid (Hold W w' (poTs (p.more x n c s) ts)) := by
  have HM := hid (pmade_ok H F)
  obtain ⟨_, _, _, _, _, c5, c6, _, cf, _⟩ := H.po
  have HH := hid (poset5 (poset H false) (p.last + 1))
  have HN := hid (cnew_ok p.every p.wait F.every1 F.wait1)
  rw [hd] at c6
  have f5 := cf 5
  have f6 := cf 6
  have hl := F.len
  have hla := F.last
  clear H hd cf F
  obtain ⟨g, ev, wa, mo, la, di, x, n, c, L⟩ := p
  simp only at c5 c6 f5 f6 hl hla HM HN HH ⊢
  go_enter Try.func9, Try.ntmps9
  go_wp2_with fail
  refine Calls.mono HM.out ?_
  rintro e w1 ⟨rfl, rfl⟩
  go_wp2_with fail
  have hcast : ((la + 1 : Nat) : Int) = (la : Int) + 1 := by simp
  have HX : Hid (Hold W ((w.setCell ⟨g, 6, none⟩ (.bool false)).setCell ⟨g, 5, none⟩ (.int .i64 ((la : Int) + 1))) (poTs ⟨g, ev, wa, mo, la + 1, false, x, n, c, L⟩ ts)) := by
    have := HH.out
    rw [hcast] at this
    exact this
  generalize (w.setCell ⟨g, 6, none⟩ (.bool false)).setCell ⟨g, 5, none⟩ (.int .i64 ((la : Int) + 1)) = w1 at *
  clear HH c5 c6 f5 f6 HM
  obtain ⟨d0, d1, d2, d3, _, d5, _, d7, df, hlt⟩ := HX.out.po
  simp only [hcast] at d0 d1 d2 d3 d5 d7 df
  have f7 := df 7
  have HA : Hid (∀ s W2, Hold w1.drew W2 [cnT s] → (W2.cell? ⟨g, 0, none⟩ = some (.int .i64 100) ∧ W2.cell? ⟨g, 1, none⟩ = some (.int .i64 1) ∧ W2.cell? ⟨g, 2, none⟩ = some (.int .i64 (ev : Int)) ∧ W2.cell? ⟨g, 3, none⟩ = some (.int .i64 (wa : Int)) ∧ W2.cell? ⟨g, 5, none⟩ = some (.int .i64 ((la : Int) + 1))) ∧ W2.cell? ⟨g, 7, none⟩ = some (.slice x n c) ∧
      (∀ o, ((W2.alloc o).cell? ⟨g, 0, none⟩ = some (.int .i64 100) ∧ (W2.alloc o).cell? ⟨g, 1, none⟩ = some (.int .i64 1) ∧ (W2.alloc o).cell? ⟨g, 2, none⟩ = some (.int .i64 (ev : Int)) ∧ (W2.alloc o).cell? ⟨g, 3, none⟩ = some (.int .i64 (wa : Int)) ∧ (W2.alloc o).cell? ⟨g, 5, none⟩ = some (.int .i64 ((la : Int) + 1)))) ∧ (∀ o, (W2.alloc o).cell? ⟨g, 7, none⟩ = some (.slice x n c)) ∧
      ∃ x2 n2 c2 w2, (Builtin.append_ #[43, 43] 43 #[.slice x n c, .slice (some ⟨W2.heap.size, 0, none⟩) 1 1]).run Try.prog (W2.alloc (.cells #[.int .i64 ((la : Int) + 1), .pointer (some ⟨s.g, 0, none⟩)] 47)) = .ok (.slice x2 n2 c2) w2 ∧
      (w2.cell? ⟨g, 0, none⟩ = some (.int .i64 100) ∧ w2.cell? ⟨g, 1, none⟩ = some (.int .i64 1) ∧ w2.cell? ⟨g, 2, none⟩ = some (.int .i64 (ev : Int)) ∧ w2.cell? ⟨g, 3, none⟩ = some (.int .i64 (wa : Int)) ∧ w2.cell? ⟨g, 5, none⟩ = some (.int .i64 ((la : Int) + 1))) ∧ w2.cell? ⟨g, 7, none⟩ = some (.slice x n c) ∧ w2.frozen? ⟨g, 7, none⟩ = false ∧ ((w2.setCell ⟨g, 7, none⟩ (.slice x2 n2 c2)).cell? ⟨g, 0, none⟩ = some (.int .i64 100) ∧ (w2.setCell ⟨g, 7, none⟩ (.slice x2 n2 c2)).cell? ⟨g, 1, none⟩ = some (.int .i64 1) ∧ (w2.setCell ⟨g, 7, none⟩ (.slice x2 n2 c2)).cell? ⟨g, 2, none⟩ = some (.int .i64 (ev : Int)) ∧ (w2.setCell ⟨g, 7, none⟩ (.slice x2 n2 c2)).cell? ⟨g, 3, none⟩ = some (.int .i64 (wa : Int)) ∧ (w2.setCell ⟨g, 7, none⟩ (.slice x2 n2 c2)).cell? ⟨g, 5, none⟩ = some (.int .i64 ((la : Int) + 1))) ∧
      Hid (Hold W (w2.setCell ⟨g, 7, none⟩ (.slice x2 n2 c2)) (poTs ⟨g, ev, wa, mo, la + 1, false, x2, n2, c2, L ++ [(la + 1, s)]⟩ ts))) := fun s W2 hE => by
    have h3 : Hold W W2 (cnT s :: poTs ⟨g, ev, wa, mo, la + 1, false, x, n, c, L⟩ ts) := (HX.out.quiet (Keeps.refl _ _).drew).join hE
    obtain ⟨e0, e1, e2, e3, _, e5, _, e7, _, _⟩ := h3.tail.po
    have hq : ∀ o, Hold W (W2.alloc o) (poTs ⟨g, ev, wa, mo, la + 1, false, x, n, c, L⟩ ts) := fun o => h3.tail.quiet (keeps_alloc _ _)
    obtain ⟨x2, n2, c2, w2, r2, m1, m2, m3, m4⟩ := more_ok h3 hl
    obtain ⟨q0, q1, q2, q3, _, q5, _⟩ := m4.out.po
    simp only [hcast] at e0 e1 e2 e3 e5 e7 r2 m1 q0 q1 q2 q3 q5
    refine ⟨⟨e0, e1, e2, e3, e5⟩, e7, fun o => ?_, fun o => (hq o).po.2.2.2.2.2.2.2.1, x2, n2, c2, w2, r2, m1, m2, m3, ⟨q0, q1, q2, q3, q5⟩, m4⟩
    obtain ⟨e0, e1, e2, e3, _, e5, _⟩ := (hq o).po
    simp only [hcast] at e0 e1 e2 e3 e5
    exact ⟨e0, e1, e2, e3, e5⟩
  clear HX df
  go_region_law (first
    | (go_simp; go_at_call 20; refine Calls.mono (HN.out _) ?_; rintro e wq ⟨s, rfl, HF, HE⟩; obtain ⟨hS1, h71, hSa, h7a, x2, n2, c2, w2, r2, hS2, h72, f72, hS3, H2⟩ := HA.out s wq HE.out; obtain ⟨q0, q1, q2, q3, q5⟩ := hS1)
    | (refine step_append_run rfl (.tmp 32) (.tmp 43) 43 43 rfl (.slice x n c) (.slice (some ⟨wq.heap.size, 0, none⟩) 1 1) (by rfl) (by rfl) r2 ?_))
  all_goals
    obtain ⟨_, _, _, _, e5⟩ := hS3
    clear HA hS2 hSa h71 h7a HN d0 d1 d2 d3 d5 d7
    go_wp2
    exact bodyPost_ret (v := .tuple #[.int .i64 ((la : Int) + 1), .bool true]) (by simp [results, Try.results9, go_sem]) rfl ⟨rfl, x2, n2, c2, s, HF, H2⟩
/-- Of a configuration that may be. -/
theorem pnew_ok (every wait most : Nat) (h1 : 1 ≤ every) (h2 : 1 ≤ wait) (hm : 1 ≤ most ∧ most ≤ 3) (w : World) : Calls Try.prog 7 #[.agg #[.int .i64 100, .int .i64 1, .int .i64 (every : Int), .int .i64 (wait : Int)], .int .i64 (most : Int)] w fun e w' => ∃ g, e = .returned (.pointer (some ⟨g, 0, none⟩)) ∧ Hid (Hold w w' (poTs ⟨g, every, wait, most, 0, false, none, 0, 0, []⟩ [])) := by
  have HN := hid (cnew_ok every wait h1 h2)
  obtain ⟨hm1, hm2⟩ := hm
  have H0 := hid ((hold_start w).newrec #[.int .i64 100, .int .i64 1, .int .i64 (every : Int), .int .i64 (wait : Int)] 27)
  have HC : Hid (∀ W s, Hold (w.alloc (.cells #[.int .i64 100, .int .i64 1, .int .i64 (every : Int), .int .i64 (wait : Int)] 27)) W [cnT s] → (W.cell? ⟨w.heap.size, 0, none⟩ = some (.int .i64 100) ∧ W.cell? ⟨w.heap.size, 1, none⟩ = some (.int .i64 1) ∧ W.cell? ⟨w.heap.size, 2, none⟩ = some (.int .i64 (every : Int)) ∧ W.cell? ⟨w.heap.size, 3, none⟩ = some (.int .i64 (wait : Int))) ∧ Hid (Hold w (W.alloc (.cells #[.int .i64 100, .int .i64 1, .int .i64 (every : Int), .int .i64 (wait : Int), .int .i64 (most : Int), .int .i64 0, .bool false, .slice none 0 0] 45)) (poTs ⟨W.heap.size, every, wait, most, 0, false, none, 0, 0, []⟩ []))) := fun W s hE => by
    have h3 := H0.out.quiet (keeps_of_below hE.below)
    have hc := (h3.cellsOf (.head _)).1
    refine ⟨⟨hc 0, hc 1, hc 2, hc 3⟩, ?_⟩
    have h4 := (Recs.newrow (R := lineR) (h3.sub (.cons _ .slnil)) 47).newrec #[.int .i64 100, .int .i64 1, .int .i64 (every : Int), .int .i64 (wait : Int), .int .i64 (most : Int), .int .i64 0, .bool false, .slice none 0 0] 45
    exact h4
  clear H0 h1 h2
  go_enter Try.func7, Try.ntmps7
  go_wp2_with fail
  refine Calls.mono (HN.out _) ?_
  rintro e w1 ⟨s, rfl, HF, HE⟩
  obtain ⟨⟨c0, c1, c2, c3⟩, HX⟩ := HC.out w1 s HE.out
  clear HC HN HE HF
  go_wp2
  go_ret
  exact ⟨_, rfl, HX⟩
end
end Go.Proofs.Ytendndokgpppiaa
