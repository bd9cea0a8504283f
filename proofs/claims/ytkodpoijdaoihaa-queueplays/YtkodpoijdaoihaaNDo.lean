/-
  Package queue: Put, Back, First, Cut, All; a nil queue.
-/
import Derived.Test.YtkodpoijdaoihaaNQueue
import Derived.Test.YtkodpoijdaoihaaGApp
namespace Go.Proofs.Ytkodpoijdaoihaa
open Go.RowKit

section
variable {w w' : World} {g : Nat} {v : Value} {most : Int} {l : List Int}
theorem Qu.quiet (h : Qu w g v most l) (hk : Keeps nobody w w') : Qu w' g v most l := h.keeps hk fun _ _ => id
/-- One more at the end, in a world that is as it was. -/
theorem Qu.push (h : Qu w g v most l) (hl : l.length ≤ 1000000) (id : Int) (w1 : World) (hk : Keeps nobody w w1) :
    ∃ a n c w2, (Builtin.append_ #[32, 32] 32 #[v, .slice (some ⟨w1.heap.size, 0, none⟩) 1 1]).run Try.prog (w1.alloc (.cells #[.int .i64 id] 3)) = .ok (.slice a n c) w2 ∧ (∀ k, w2.frozen? ⟨g, k, none⟩ = false) ∧ w2.cell? ⟨g, 1, none⟩ = some v ∧ Hid (Did (quT g v most l) (quT g (.slice a n c) most (l ++ [id])) w (w2.setCell ⟨g, 1, none⟩ (.slice a n c))) := by
  have ka := hk.alloc (.cells #[.int .i64 id] 3)
  have hW := h.quiet ka
  obtain ⟨a, c, w2, r, hL⟩ := hq_append hW.held id w1.heap.size (by rw [cell_of (heap_alloc_new w1 _)]; rfl) hl 32
  obtain ⟨hb, hd⟩ := hW.relay hL
  obtain ⟨c1, cf⟩ := cells_back hb
  exact ⟨a, _, c, w2, r, cf, c1, hd.before ka⟩
/-- One more at the front. -/
theorem Qu.front (h : Qu w g v most l) (hl : l.length ≤ 1000000) (id : Int) (w1 : World) (hk : Keeps nobody w w1) :
    Calls Try.prog 19 #[v, .int .i64 0, .slice (some ⟨w1.heap.size, 0, none⟩) 1 1] (w1.alloc (.cells #[.int .i64 id] 3)) fun e w2 => ∃ a n c, e = .returned (.slice a n c) ∧ (∀ k, w2.frozen? ⟨g, k, none⟩ = false) ∧ w2.cell? ⟨g, 1, none⟩ = some v ∧ Hid (Did (quT g v most l) (quT g (.slice a n c) most (id :: l)) w (w2.setCell ⟨g, 1, none⟩ (.slice a n c))) := by
  have ka := hk.alloc (.cells #[.int .i64 id] 3)
  have hW := h.quiet ka
  refine (insert_ok hW.held id w1.heap.size (heap_alloc_new w1 _) (fun e => by have := (h.quiet hk).held.lt _ e; omega) hl).mono ?_
  rintro e w2 ⟨a, c, rfl, hL⟩
  obtain ⟨hb, hd⟩ := hW.relay hL
  obtain ⟨c1, cf⟩ := cells_back hb
  exact ⟨a, _, c, rfl, cf, c1, hd.before ka⟩
/-- One goes. -/
theorem Qu.goes (h : Qu w g v most l) (i : Nat) (hi : i < l.length) :
    Calls Try.prog 20 #[v, .int .i64 (i : Int), .int .i64 ((i : Int) + 1)] w fun e w2 => ∃ a n c, e = .returned (.slice a n c) ∧ (∀ k, w2.frozen? ⟨g, k, none⟩ = false) ∧ w2.cell? ⟨g, 1, none⟩ = some v ∧ Hid (Did (quT g v most l) (quT g (.slice a n c) most (l.take i ++ l.drop (i + 1))) w (w2.setCell ⟨g, 1, none⟩ (.slice a n c))) := by
  refine (delete_ok h.held i hi).mono ?_
  rintro e w2 ⟨a, c, rfl, hL⟩
  obtain ⟨hb, hd⟩ := h.relay hL
  obtain ⟨c1, cf⟩ := cells_back hb
  exact ⟨a, _, c, rfl, cf, c1, hd⟩
theorem put_ok (h : Qu w g v most l) (hl : l.length ≤ 1000000) (id : Int) : Calls Try.prog 10 #[.pointer (some ⟨g, 0, none⟩), .int .i64 id] w fun e w' => e = .returned (.int .i64 (mayQ most l id)) ∧ ∃ v', Did (quT g v most l) (quT g v' most (putQ most l id)) w w' := by
  have HM : Hid (Calls Try.prog 18 #[.pointer (some ⟨g, 0, none⟩), .int .i64 id] w fun e w' => e = .returned (.int .i64 (mayQ most l id)) ∧ Keeps nobody w w') := may_ok h id
  by_cases h0 : mayQ most l id = 0
  · rw [put_yes h0]
    rw [h0] at HM ⊢
    have HP := hid (h.push hl id)
    have HC : Hid (∀ w1, Keeps nobody w w1 → w1.cell? ⟨g, 1, none⟩ = some v ∧ ∀ n, w1.frozen? ⟨g, n, none⟩ = false) := fun w1 hk => ⟨(h.quiet hk).cells.2.1, (h.quiet hk).cells.2.2⟩
    obtain ⟨a, c, rfl, _⟩ := h.held.slice
    clear h h0 hl
    generalize l.length = n at *
    go_enter Try.func10, Try.ntmps10
    go_wp2_with fail
    refine Calls.mono HM.out ?_
    rintro e w1 ⟨rfl, k1⟩
    obtain ⟨a2, n2, c2, w2, r, cf, c1, HD⟩ := HP.out w1 k1
    obtain ⟨d1, df⟩ := HC.out w1 k1
    have R := hid r
    clear r HP HC HM
    go_wp2_with (at_builtin; refine wpList_append_run rfl _ _ 32 32 rfl _ _ rfl rfl R.out ?_)
    go_ret
    exact ⟨rfl, _, HD.out⟩
  · rw [put_no h0]
    have HS : Hid (∀ w1, Keeps nobody w w1 → Did (quT g v most l) (quT g v most l) w w1) := fun w1 hk => Did.quiet quT_ok h hk
    generalize mayQ most l id = m at *
    have hm : (m == 0) = false := by simpa using h0
    clear h h0
    go_enter Try.func10, Try.ntmps10
    go_wp2_with fail
    refine Calls.mono HM.out ?_
    rintro e w1 ⟨rfl, k1⟩
    go_wp2
    go_ret
    exact ⟨rfl, _, HS.out _ k1⟩
theorem back_ok (h : Qu w g v most l) (hl : l.length ≤ 1000000) (id : Int) : Calls Try.prog 11 #[.pointer (some ⟨g, 0, none⟩), .int .i64 id] w fun e w' => e = .returned (.int .i64 (mayQ most l id)) ∧ ∃ v', Did (quT g v most l) (quT g v' most (backQ most l id)) w w' := by
  have HM : Hid (Calls Try.prog 18 #[.pointer (some ⟨g, 0, none⟩), .int .i64 id] w fun e w' => e = .returned (.int .i64 (mayQ most l id)) ∧ Keeps nobody w w') := may_ok h id
  by_cases h0 : mayQ most l id = 0
  · rw [back_yes h0]
    rw [h0] at HM ⊢
    have HP := hid (h.front hl id)
    have HC : Hid (∀ w1, Keeps nobody w w1 → w1.cell? ⟨g, 1, none⟩ = some v ∧ ∀ n, w1.frozen? ⟨g, n, none⟩ = false) := fun w1 hk => ⟨(h.quiet hk).cells.2.1, (h.quiet hk).cells.2.2⟩
    obtain ⟨a, c, rfl, _⟩ := h.held.slice
    clear h h0 hl
    generalize l.length = n at *
    go_enter Try.func11, Try.ntmps11
    go_wp2_with fail
    refine Calls.mono HM.out ?_
    rintro e w1 ⟨rfl, k1⟩
    have HQ := hid (HP.out w1 k1)
    obtain ⟨d1, df⟩ := HC.out w1 k1
    clear HP HC HM
    go_wp2_with fail
    refine Calls.mono HQ.out ?_
    rintro e w2 ⟨a2, n2, c2, rfl, cf, c1, HD⟩
    go_wp2
    go_ret
    exact ⟨rfl, _, HD.out⟩
  · rw [back_no h0]
    have HS : Hid (∀ w1, Keeps nobody w w1 → Did (quT g v most l) (quT g v most l) w w1) := fun w1 hk => Did.quiet quT_ok h hk
    generalize mayQ most l id = m at *
    have hm : (m == 0) = false := by simpa using h0
    clear h h0
    go_enter Try.func11, Try.ntmps11
    go_wp2_with fail
    refine Calls.mono HM.out ?_
    rintro e w1 ⟨rfl, k1⟩
    go_wp2
    go_ret
    exact ⟨rfl, _, HS.out _ k1⟩
theorem cut_no (h : Qu w g v most l) (id : Int) (hi : ¬ id ∈ l) : Calls Try.prog 12 #[.pointer (some ⟨g, 0, none⟩), .int .i64 id] w fun e w' => e = .returned (.bool false) ∧ w = w' := by
  have HP : Hid (Calls Try.prog 13 #[.pointer (some ⟨g, 0, none⟩), .int .i64 id] w fun e w' => e = .returned (.int .i64 (placeQ l id)) ∧ w = w') := place_ok h id
  rw [place_out hi] at HP
  clear h hi
  go_enter Try.func12, Try.ntmps12
  go_wp2_with fail
  refine Calls.mono HP.out ?_
  rintro e w1 ⟨rfl, rfl⟩
  go_wp2
  go_ret
  exact ⟨rfl, rfl⟩
theorem cut_yes (h : Qu w g v most l) (id : Int) (hi : id ∈ l) (hl : l.length ≤ 1000000) : Calls Try.prog 12 #[.pointer (some ⟨g, 0, none⟩), .int .i64 id] w fun e w' => e = .returned (.bool true) ∧ ∃ v', Did (quT g v most l) (quT g v' most (cutQ l id)) w w' := by
  have HP : Hid (Calls Try.prog 13 #[.pointer (some ⟨g, 0, none⟩), .int .i64 id] w fun e w' => e = .returned (.int .i64 (placeQ l id)) ∧ w = w') := place_ok h id
  obtain ⟨i, e1, e2, _, e4⟩ := place_in hi
  rw [e1] at HP
  have HG := hid (h.goes i e2)
  rw [e4] at HG
  obtain ⟨_, d1, df⟩ := h.cells
  obtain ⟨a, c, rfl, _⟩ := h.held.slice
  have hi2 : i ≤ 1000000 := by omega
  clear h hi e1 e2 e4 hl
  unfold cutQ
  generalize l.erase id = l' at *
  generalize l.length = n at *
  go_enter Try.func12, Try.ntmps12
  go_wp2_with fail
  refine Calls.mono HP.out ?_
  rintro e w1 ⟨rfl, rfl⟩
  go_wp2_with fail
  refine Calls.mono HG.out ?_
  rintro e w2 ⟨a2, n2, c2, rfl, cf, c1, HD⟩
  go_wp2
  go_ret
  exact ⟨rfl, _, HD.out⟩
theorem all_ok (h : Qu w g v most l) (hl : l.length ≤ 1000000) : Calls Try.prog 14 #[.pointer (some ⟨g, 0, none⟩)] w fun e w' => ∃ x c, e = .returned (.slice x l.length c) ∧ Hid (w'.ownsRow w.heap.size 3 1 (.slice x l.length c) l.length (icells l) ∧ Keeps nobody w w') := by
  have HC := hid (clone_ok h.held hl)
  obtain ⟨_, d1, df⟩ := h.cells
  obtain ⟨a, c, rfl, _⟩ := h.held.slice
  clear h
  generalize hn : l.length = n at *
  go_enter Try.func14, Try.ntmps14
  go_wp2_with fail
  refine Calls.mono HC.out ?_
  rintro e w1 ⟨x, c2, rfl, h1, h2⟩
  have H1 := hid h1
  clear h1 HC
  go_wp2
  go_ret
  exact ⟨x, c2, rfl, H1.out, h2⟩
theorem first_no (h : Qu w g v most []) : Calls Try.prog 9 #[.pointer (some ⟨g, 0, none⟩)] w fun e w' => e = .returned (.tuple #[.int .i64 0, .bool false]) ∧ w = w' := by
  obtain ⟨_, d1, df⟩ := h.cells
  obtain ⟨a, c, rfl, _⟩ := h.held.slice
  clear h
  simp only [List.length_nil] at d1
  go_enter Try.func9, Try.ntmps9
  go_wp2
  go_ret2
  exact ⟨rfl, rfl⟩
theorem size_int (w : World) : (sizeOf 3).run Try.prog w = .ok 1 w := by
  obtain ⟨i, hi, _, h1, _⟩ := info_parts infoN
  simp [sizeOf, typeInfo, hi, h1]
theorem elem_ints : Try.prog.elem 32 = 3 := by simp [Program.elem, Try.underlying32]
theorem under_ints : Try.prog.underlying 32 = some (.slice (Try.prog.elem 32)) := by rw [elem_ints]; exact Try.underlying32
/-- What is held, without its first one. -/
theorem hq_tail {w : World} {v : Value} {x : Int} {l : List Int} (h : Hq w v (x :: l)) :
    ∃ rb off cap off', v = .slice (some ⟨rb, off, none⟩) (l.length + 1) cap ∧ w.cell? ⟨rb, off, none⟩ = some (.int .i64 x) ∧ (∀ W, (Instr.slice 32 (.slice (some ⟨rb, off, none⟩) (l.length + 1) cap) (some (.int .i64 1)) none none).run Try.prog W = .ok (.slice (some ⟨rb, off', none⟩) l.length (cap - 1)) W) ∧ Left v l w (.slice (some ⟨rb, off', none⟩) l.length (cap - 1)) w ∧ l.length + 1 ≤ cap := by
  rcases h with ⟨_, h⟩ | ⟨rb, off, cap, cur, rfl, hcap, hcm, hg, hs, hc⟩
  · cases h
  have hcap' : l.length + 1 ≤ cap := hcap
  refine ⟨rb, off, cap, (if cap = 1 then off else off + 1), rfl, by rw [cell_of hg]; exact hc 0 x rfl, fun W => ?_, ⟨.inr ⟨rb, _, cap - 1, cur, rfl, by omega, by omega, hg, by split <;> omega, fun i y hi => ?_⟩, Keeps.refl _ _, fun k hk => .inl hk⟩, hcap'⟩
  · rw [run_slice_l W 32 _ _ _ under_ints .i64 _ (by omega) (by omega), elem_ints, size_int]
    by_cases h1 : cap = 1
    · simp [Result.andThen, sliced, h1]
    · simp [Result.andThen, sliced, h1, Addr.add_mid]
  · have hil : i < l.length := (List.getElem?_eq_some_iff.1 hi).1
    rw [if_neg (by omega)]
    have := hc (i + 1) y (by simpa using hi)
    rwa [show off + (i + 1) = off + 1 + i by omega] at this
theorem first_yes {x : Int} (h : Qu w g v most (x :: l)) (hl : l.length ≤ 1000000) : Calls Try.prog 9 #[.pointer (some ⟨g, 0, none⟩)] w fun e w' => e = .returned (.tuple #[.int .i64 x, .bool true]) ∧ ∃ v', Did (quT g v most (x :: l)) (quT g v' most l) w w' := by
  obtain ⟨_, d1, df⟩ := h.cells
  obtain ⟨rb, off, cap, off2, rfl, hx, hsl, hL, hcap⟩ := hq_tail h.held
  obtain ⟨_, hd⟩ := h.relay hL
  have HD := hid hd
  have hlt := (h.held.lt rb rfl)
  clear h hL hd
  generalize l.length = n at *
  go_enter Try.func9, Try.ntmps9
  go_wp2
  go_ret2
  exact ⟨rfl, _, HD.out⟩
end
theorem nil_may (id : Int) (w : World) : Calls Try.prog 18 #[.pointer none, .int .i64 id] w fun e w' => e = .returned (.int .i64 8) ∧ w = w' := by
  go_enter Try.func18, Try.ntmps18
  go_wp2
  go_ret
  exact ⟨rfl, rfl⟩
theorem nil_put (id : Int) (w : World) : Calls Try.prog 10 #[.pointer none, .int .i64 id] w fun e w' => e = .returned (.int .i64 8) ∧ w = w' := by
  have HM : Hid (∀ W, Calls Try.prog 18 #[.pointer none, .int .i64 id] W fun e w' => e = .returned (.int .i64 8) ∧ W = w') := nil_may id
  go_enter Try.func10, Try.ntmps10
  go_wp2_with fail
  refine Calls.mono (HM.out _) ?_
  rintro e w1 ⟨rfl, rfl⟩
  go_wp2
  go_ret
  exact ⟨rfl, rfl⟩
theorem nil_back (id : Int) (w : World) : Calls Try.prog 11 #[.pointer none, .int .i64 id] w fun e w' => e = .returned (.int .i64 8) ∧ w = w' := by
  have HM : Hid (∀ W, Calls Try.prog 18 #[.pointer none, .int .i64 id] W fun e w' => e = .returned (.int .i64 8) ∧ W = w') := nil_may id
  go_enter Try.func11, Try.ntmps11
  go_wp2_with fail
  refine Calls.mono (HM.out _) ?_
  rintro e w1 ⟨rfl, rfl⟩
  go_wp2
  go_ret
  exact ⟨rfl, rfl⟩
theorem nil_first (w : World) : Calls Try.prog 9 #[.pointer none] w fun e w' => e = .returned (.tuple #[.int .i64 0, .bool false]) ∧ w = w' := by
  go_enter Try.func9, Try.ntmps9
  go_wp2
  go_ret2
  exact ⟨rfl, rfl⟩
theorem nil_place (id : Int) (w : World) : Calls Try.prog 13 #[.pointer none, .int .i64 id] w fun e w' => e = .returned (.int .i64 (-1)) ∧ w = w' := by
  go_enter Try.func13, Try.ntmps13
  go_wp2
  go_ret
  exact ⟨rfl, rfl⟩
theorem nil_cut (id : Int) (w : World) : Calls Try.prog 12 #[.pointer none, .int .i64 id] w fun e w' => e = .returned (.bool false) ∧ w = w' := by
  have HM : Hid (∀ W, Calls Try.prog 13 #[.pointer none, .int .i64 id] W fun e w' => e = .returned (.int .i64 (-1)) ∧ W = w') := nil_place id
  go_enter Try.func12, Try.ntmps12
  go_wp2_with fail
  refine Calls.mono (HM.out _) ?_
  rintro e w1 ⟨rfl, rfl⟩
  go_wp2
  go_ret
  exact ⟨rfl, rfl⟩
theorem nil_all (w : World) : Calls Try.prog 14 #[.pointer none] w fun e w' => e = .returned (.slice none 0 0) ∧ w = w' := by
  go_enter Try.func14, Try.ntmps14
  go_wp2
  go_ret
  exact ⟨rfl, rfl⟩
end Go.Proofs.Ytkodpoijdaoihaa
