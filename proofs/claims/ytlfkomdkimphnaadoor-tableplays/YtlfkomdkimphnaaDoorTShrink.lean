/-
  Package table: shrink.
-/
import Derived.Test.YtlfkomdkimphnaaDoorTDel
namespace Go.Proofs.YtlfkomdkimphnaaDoor
open Go.RowKit

theorem keep_step (l : List Fld) (j : Nat) (h : j < l.length) (room : Int) : keep room (l.drop j) = if room - cost (l[j]'h) < 0 then [] else (l[j]'h) :: keep (room - cost (l[j]'h)) (l.drop (j + 1)) := by
  rw [List.drop_eq_getElem_cons h]; rfl
theorem keep_end (l : List Fld) (j : Nat) (h : ¬ j < l.length) (room : Int) : keep room (l.drop j) = [] := by
  rw [List.drop_eq_nil_of_le (by omega)]; rfl
/-- So far j of them stay. -/
def Stay (l : List Fld) (room0 room : Int) (j : Nat) : Prop := keep room0 l = l.take j ++ keep room (l.drop j)
theorem stay_zero (l : List Fld) (room : Int) : Stay l room room 0 := by simp [Stay]
theorem stay_step (l : List Fld) (r0 room : Int) (j : Nat) (h : j < l.length) (hs : Stay l r0 room j) (hn : ¬ room - cost (l[j]'h) < 0) : Stay l r0 (room - cost (l[j]'h)) (j + 1) := by
  unfold Stay at hs ⊢
  rw [hs, keep_step l j h, if_neg hn, List.take_succ_eq_append_getElem h, List.append_assoc]
  rfl
theorem stay_break (l : List Fld) (r0 room : Int) (j : Nat) (h : j < l.length) (hs : Stay l r0 room j) (hn : room - cost (l[j]'h) < 0) : keep r0 l = l.take j := by
  unfold Stay at hs
  rw [hs, keep_step l j h, if_pos hn]
  simp
theorem stay_end (l : List Fld) (r0 room : Int) (j : Nat) (h : ¬ j < l.length) (hs : Stay l r0 room j) : keep r0 l = l.take j := by
  unfold Stay at hs
  rw [hs, keep_end l j h]
  simp

/-- The table's list laid anew. -/
theorem Tab.relay {w w' : World} {g : Nat} {v v' : Value} {size : Nat} {l l' : List Fld} (h : Tab w g v size l) (hg : w.grownBy w' v.ownBlock) (hr : w'.ownsRow 0 28 2 v' l'.length (fcells l')) (hf : sum l' ≤ 512) (hn : ∀ k, v'.ownBlock = some k → v.ownBlock = some k ∨ w.heap.size ≤ k) :
    Tab (w'.setCell ⟨g, 2, none⟩ v') g v' size l' := by
  have hb : w'.heap[g]? = some (.cells #[.bool true, .int .i64 (size : Int), v] 61 (0, 0)) := by
    rw [hg.block g h.lt fun e => h.apart e.symm]; exact h.blk
  refine ⟨?_, ?_, hf, h.most⟩
  · simp [World.setCell, hb, Array.getElem?_modify]
  · refine ⟨hr.1, ?_⟩
    rcases hr.2 with hn' | ⟨rb, cap, cur, rfl, h1, h2, h3⟩
    · exact .inl hn'
    · refine .inr ⟨rb, cap, cur, rfl, h1, ?_, h3⟩
      rw [Below.heap_setCell _ _ _ _ ?_]
      · exact h2
      · intro e
        simp only at e
        subst e
        rcases hn rb rfl with hx | hx
        · exact h.apart hx
        · have := h.lt; omega
theorem Tab.relay_keeps {w w' : World} {g : Nat} {v v' : Value} {size : Nat} {l : List Fld} (_h : Tab w g v size l) (hg : w.grownBy w' v.ownBlock) : Keeps (tfoot g v) w (w'.setCell ⟨g, 2, none⟩ v') :=
  ((Keeps.refl _ _).grown hg (fun _ hk => .inl (.inr hk))).setCell (.inl (.inl rfl)) _

theorem row_slice {w : World} {base : Nat} {e : TypeId} {size : Nat} {v : Value} {n : Nat} {xs : List Value} (h : w.ownsRow base e size v n xs) : ∃ a n c, v = .slice a n c := by
  rcases h.2 with ⟨rfl, _⟩ | ⟨g, cap, cur, rfl, _⟩
  · exact ⟨_, _, _, rfl⟩
  · exact ⟨_, _, _, rfl⟩
/-- slices.Delete of a table's list, up to its end. -/
theorem del_tab {w W : World} {g : Nat} {v : Value} {size : Nat} {l : List Fld} (h : Tab w g v size l) (hK : Keeps nobody w W) (j : Nat) (hj : j ≤ l.length) : Calls Tryd.prog 56 #[v, .int .i64 (j : Int), .int .i64 (l.length : Int)] W fun e w' => ∃ a n c, e = .returned (.slice a n c) ∧ w'.cell? ⟨g, 2, none⟩ = some v ∧ (∀ o, w'.frozen? ⟨g, o, none⟩ = false) ∧ Hid (Tab (w'.setCell ⟨g, 2, none⟩ (.slice a n c)) g (.slice a n c) size (l.take j) ∧ Keeps (tfoot g v) w (w'.setCell ⟨g, 2, none⟩ (.slice a n c)) ∧ ∀ k, tfoot g (.slice a n c) k → tfoot g v k ∨ w.heap.size ≤ k) := by
  have hW := h.quiet hK
  refine Calls.mono (delete_ok hW.row j hj) ?_
  rintro e w' ⟨v', rfl, h1, h2, h3⟩
  obtain ⟨a, n, c, rfl⟩ := row_slice h1
  have hb : w'.heap[g]? = some (.cells #[.bool true, .int .i64 (size : Int), v] 61 (0, 0)) := by
    rw [h2.block g hW.lt fun e => hW.apart e.symm]; exact hW.blk
  have hln : (l.take j).length = j := by rw [List.length_take]; omega
  refine ⟨a, n, c, rfl, by simp [World.cell?, hb], fun o => by simp [World.frozen?, hb], ?_, ?_, ?_⟩
  · exact hW.relay h2 (by rw [hln]; exact h1) (Nat.le_trans (sum_take l j) h.fits) fun k hk => .inl (by rw [← h3]; exact hk)
  · exact hK.mono (fun _ _ h => h.elim) |>.trans (hW.relay_keeps h2) fun _ _ h => h
  · rintro k (hk | hk)
    · exact .inl (.inl hk)
    · exact .inl (.inr (by rw [← h3]; exact hk))

set_option maxRecDepth 100000 in
set_option maxHeartbeats 2000000 in
theorem shrink_ok {w : World} {g : Nat} {v : Value} {size : Nat} {l : List Fld} (h : Tab w g v size l) (room : Int) (hr : -3000 ≤ room ∧ room ≤ 3000) : Calls Tryd.prog 29 #[.pointer (some ⟨g, 0, none⟩), .int .i64 room] w fun e w' => e = .returned (.tuple #[]) ∧ ∃ v', Tab w' g v' size (keep room l) ∧ Keeps (tfoot g v) w w' ∧ ∀ k, tfoot g v' k → tfoot g v k ∨ w.heap.size ≤ k := by
  obtain ⟨hr1, hr2⟩ := hr
  rcases h.row.2 with ⟨rfl, hn⟩ | ⟨rb, cap, cur, rfl, _, _, hnc, hcm, _⟩
  · obtain rfl : l = [] := List.eq_nil_of_length_eq_zero hn
    obtain ⟨h0, h1, h2, h3⟩ := h.cells
    have hlt := h.lt
    have hD : Hid (∀ (W : World), Keeps nobody w W → Calls Tryd.prog 56 #[.slice none 0 0, .int .i64 0, .int .i64 0] W fun e w' => ∃ a n c, e = .returned (.slice a n c) ∧ w'.cell? ⟨g, 2, none⟩ = some (.slice none 0 0) ∧ (∀ o, w'.frozen? ⟨g, o, none⟩ = false) ∧ Hid (Tab (w'.setCell ⟨g, 2, none⟩ (.slice a n c)) g (.slice a n c) size [] ∧ Keeps (tfoot g (.slice none 0 0)) w (w'.setCell ⟨g, 2, none⟩ (.slice a n c)) ∧ ∀ k, tfoot g (.slice a n c) k → tfoot g (.slice none 0 0) k ∨ w.heap.size ≤ k)) := fun W hK => by simpa using del_tab h hK 0 (Nat.zero_le _)
    clear h
    have hk0 : keep room [] = [] := rfl
    rw [hk0]
    clear hk0
    go_enter Tryd.func29, Tryd.ntmps29
    go_wp2
    go_loopg [1, 4, 12] 0 (fun k r c i wr => i = .int .i64 0 ∧ c = .int .i64 0 ∧ r = .int .i64 room ∧ wr = w)
    case atStart => exact ⟨rfl, rfl, rfl, rfl⟩
    case round =>
      obtain ⟨rfl, rfl, rfl, rfl⟩ := hrel
      go_wp2
      go_region_law (go_simp; go_at_call 56; refine Calls.mono (hD.out _ (by first | exact (Keeps.refl _ _).drew | exact Keeps.refl _ _)) ?_; rintro e w2 ⟨a2, n2, c2, rfl, k2', k3', H2⟩)
      all_goals
        go_wp2
        exact bodyPost_end (v := .tuple #[]) (by simp [results, Tryd.results29, go_sem]) rfl ⟨rfl, _, H2.out⟩
  · obtain ⟨h0, h1, h2, h3⟩ := h.cells
    have hlt := h.lt
    have hlen := h.length
    have hfit := h.fits
    have hrb := h.rowlt rb rfl
    have hD : Hid (∀ (W : World) (j : Nat), Keeps nobody w W → j ≤ l.length → Calls Tryd.prog 56 #[.slice (some ⟨rb, 0, none⟩) l.length cap, .int .i64 (j : Int), .int .i64 (l.length : Int)] W fun e w' => ∃ a n c, e = .returned (.slice a n c) ∧ w'.cell? ⟨g, 2, none⟩ = some (.slice (some ⟨rb, 0, none⟩) l.length cap) ∧ (∀ o, w'.frozen? ⟨g, o, none⟩ = false) ∧ Hid (Tab (w'.setCell ⟨g, 2, none⟩ (.slice a n c)) g (.slice a n c) size (l.take j) ∧ Keeps (tfoot g (.slice (some ⟨rb, 0, none⟩) l.length cap)) w (w'.setCell ⟨g, 2, none⟩ (.slice a n c)) ∧ ∀ k, tfoot g (.slice a n c) k → tfoot g (.slice (some ⟨rb, 0, none⟩) l.length cap) k ∨ w.heap.size ≤ k)) := fun W j hK hj => del_tab h hK j hj
    have HR := hid h.row
    clear h
    unfold maxLen at hcm
    generalize hkp : keep room l = L
    have HL := hid hkp
    clear hkp
    go_enter Tryd.func29, Tryd.ntmps29
    go_wp2
    go_loopg [1, 4, 12] l.length (fun k r c i wr => ∃ j : Nat, i = .int .i64 j ∧ c = .int .i64 j ∧ r = .int .i64 (room - sum (l.take j)) ∧ k + j = l.length ∧ Keeps nobody w wr ∧ Hid (Stay l room (room - sum (l.take j)) j))
    case atStart => exact ⟨0, rfl, rfl, by simp [sum], rfl, Keeps.refl _ _, by simpa [sum, Hid] using stay_zero l room⟩
    case round =>
      obtain ⟨j, rfl, rfl, rfl, hk, hK, hS⟩ := hrel
      have hle := sum_take l j
      have k2 := hK.cell (p := ⟨g, 2, none⟩) hlt id
      have k3 : ∀ o, wr.frozen? ⟨g, o, none⟩ = false := fun o => (hK.frozen (p := ⟨g, o, none⟩) hlt id).trans (h3 o)
      rw [h2] at k2
      by_cases hj : j < l.length
      · obtain ⟨c0, c1⟩ := row_cells HR.out j hj
        rw [← hK.cell (p := ⟨rb, j * 2, none⟩) hrb id] at c0
        rw [← hK.cell (p := ⟨rb, j * 2 + 1, none⟩) hrb id] at c1
        have hs : sum (l.take (j + 1)) = sum (l.take j) + cost (l[j]'hj) := by
          rw [List.take_succ_eq_append_getElem hj, sum_append]; simp [sum]
        have hle2 := sum_take l (j + 1)
        have hcl := cost_mem l j hj
        have hst := fun hn => stay_step l room _ j hj hS.out hn
        have hbr := fun hn => stay_break l room _ j hj hS.out hn
        rw [hs] at hle2
        generalize l[j]'hj = f at *
        have hC : Hid (∀ w, Calls Tryd.prog 25 #[fval f] w fun e w' => e = .returned (.int .i64 (cost f : Int)) ∧ w' = w.alloc (.cells #[.string f.1, .string f.2] 28)) := fun w => cost_ok f w (by unfold cost at hcl; omega)
        have hst' : ¬ room - (sum (l.take j) : Int) - cost f < 0 → Hid (Stay l room (room - sum (l.take (j + 1))) (j + 1) ∧ gk + j = l.length ∧ room - (sum (l.take (j + 1)) : Int) = room - (sum (l.take j) : Int) - cost f) := by
          intro hn
          have e : room - (sum (l.take (j + 1)) : Int) = room - (sum (l.take j) : Int) - cost f := by rw [hs]; omega
          exact ⟨by rw [e]; exact hst hn, hk, e⟩
        have hbr' : room - (sum (l.take j) : Int) - cost f < 0 → Hid (l.take j = L) := fun hn => (hbr hn).symm.trans HL.out
        have hjl : j ≤ l.length := by omega
        have hD1 := hid (fun W hW => hD.out W j hW hjl)
        clear hS hst hbr hk hs h0 h1 h2 h3 HR hD HL
        generalize hcc : cost f = c at *
        clear hcc
        by_cases hn : room - (sum (l.take j) : Int) - c < 0
        · obtain rfl := (hbr' hn).out
          clear hbr' hst'
          go_wp2_with fail
          refine Calls.mono (hC.out _) ?_
          rintro e w1 ⟨rfl, rfl⟩
          have hK1 : Keeps nobody w ((wr.alloc (.cells #[.string f.1, .string f.2] 28)).alloc (.cells #[.string f.1, .string f.2] 28)) := (hK.alloc _).alloc _
          have hlt1 : g < wr.heap.size := by have := hK.size; omega
          go_wp2
          go_region_law (go_simp; go_at_call 56; refine Calls.mono (hD1.out _ (by first | exact hK1.drew | exact hK1)) ?_; rintro e w2 ⟨a2, n2, c2, rfl, k2', k3', H2⟩)
          all_goals
            go_wp2
            exact bodyPost_end (v := .tuple #[]) (by simp [results, Tryd.results29, go_sem]) rfl ⟨rfl, _, H2.out⟩
        · have HS := hst' hn
          clear hbr' hst' hD1
          go_wp2_with fail
          refine Calls.mono (hC.out _) ?_
          rintro e w1 ⟨rfl, rfl⟩
          go_wp2
          obtain ⟨e1, e2, e3⟩ := HS.out
          go_roundg (gk - 1)
          case measure => omega
          case rel => exact ⟨j + 1, by simp, by simp, by rw [e3], by omega, (hK.alloc _).alloc _, e1⟩
      · obtain rfl : l.take j = L := (stay_end l room _ j hj hS.out).symm.trans HL.out
        have hjl : j ≤ l.length := by omega
        have hD1 := hid (fun W hW => hD.out W j hW hjl)
        clear hS hk h0 h1 h2 h3 HR hD HL
        go_wp2
        go_region_law (go_simp; go_at_call 56; refine Calls.mono (hD1.out _ (by first | exact hK.drew | exact hK)) ?_; rintro e w2 ⟨a2, n2, c2, rfl, k2', k3', H2⟩)
        all_goals
          go_wp2
          exact bodyPost_end (v := .tuple #[]) (by simp [results, Tryd.results29, go_sem]) rfl ⟨rfl, _, H2.out⟩
end Go.Proofs.YtlfkomdkimphnaaDoor
