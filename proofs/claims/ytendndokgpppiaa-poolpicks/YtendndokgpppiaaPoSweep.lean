/-
  Package pool: Sweep.
-/
import Derived.Test.YtendndokgpppiaaPoLoop
namespace Go.Proofs.Ytendndokgpppiaa
open Go.RowKit
attribute [local irreducible] cnT cnW

def stayL (L : List (Nat × Cn)) : List (Nat × Cn) := L.filter fun q => q.2.dead == 0
def goneL (L : List (Nat × Cn)) : List Int := numsOf (L.filter fun q => !(q.2.dead == 0))
section
variable {W w : World} {p : Po} {ts : List Thing}
theorem over_ok {s : Cn} (H : (cnT s).inv w) (k : Int) : Calls Try.prog 25 #[.agg #[.int .i64 k, .pointer (some ⟨s.g, 0, none⟩)]] w fun e w' => e = .returned (.bool (s.dead != 0)) ∧ Keeps nobody w w' := by
  have kz := keeps_alloc w (.cells #[.int .i64 k, .pointer (some ⟨s.g, 0, none⟩)] 47)
  have HD := hid (cdead_ok (cnT_quiet H kz))
  have HG := hid (cgone_ok (cnT_quiet H kz))
  have KK := hid kz
  clear H kz
  generalize s.dead = d at *
  by_cases h0 : d = 0
  · subst h0
    go_enter Try.func25, Try.ntmps25
    go_wp2_with fail
    refine Calls.mono HD.out ?_
    rintro e w1 ⟨rfl, rfl⟩
    go_wp2_with fail
    refine Calls.mono HG.out ?_
    rintro e w1 ⟨rfl, rfl⟩
    go_wp2
    go_ret
    exact ⟨rfl, KK.out⟩
  · have hd : (d != 0) = true := by simpa using h0
    rw [hd]
    go_enter Try.func25, Try.ntmps25
    go_wp2_with fail
    refine Calls.mono HD.out ?_
    rintro e w1 ⟨rfl, rfl⟩
    go_wp2
    go_ret
    exact ⟨rfl, KK.out⟩
theorem stay_snoc (L : List (Nat × Cn)) (q : Nat × Cn) : stayL (L ++ [q]) = if q.2.dead = 0 then stayL L ++ [q] else stayL L := by
  unfold stayL
  rw [List.filter_append]
  split
  · rename_i h; simp [h]
  · rename_i h; simp [h]
theorem gone_snoc (L : List (Nat × Cn)) (q : Nat × Cn) : goneL (L ++ [q]) = if q.2.dead = 0 then goneL L else goneL L ++ [(q.1 : Int)] := by
  unfold goneL numsOf
  rw [List.filter_append]
  split
  · rename_i h; simp [h]
  · rename_i h; simp [h]
theorem stay_le (L : List (Nat × Cn)) : (stayL L).length ≤ L.length := List.length_filter_le _ _
theorem gone_le (L : List (Nat × Cn)) : (goneL L).length ≤ L.length := by
  unfold goneL
  rw [numsOf_length]
  exact List.length_filter_le _ _
/-- The list that stays is written back. -/
theorem swept {W wr : World} {g ev wa mo la n c n1 c1 n2 c2 : Nat} {di : Bool} {x x1 x2 : Option Addr} {L : List (Nat × Cn)} (H : Hold W wr (numT x1 n1 c1 (goneL L) :: lineR.rowT 47 (.slice x2 n2 c2) (lsOf (stayL L)) :: poTs ⟨g, ev, wa, mo, la, di, x, n, c, L⟩ ts)) :
    Hold W (wr.setCell ⟨g, 7, none⟩ (.slice x2 n2 c2)) (numT x1 n1 c1 (goneL L) :: poTs ⟨g, ev, wa, mo, la, di, x2, n2, c2, stayL L⟩ ts) := by
  have h := Hold.recset (a := [numT x1 n1 c1 (goneL L), lineR.rowT 47 (.slice x2 n2 c2) (lsOf (stayL L))]) (g := g) (cs := poC ⟨g, ev, wa, mo, la, di, x, n, c, L⟩) (T := 45) H 7 (.slice x2 n2 c2)
  have e : (poC ⟨g, ev, wa, mo, la, di, x, n, c, L⟩).setIfInBounds 7 (.slice x2 n2 c2) = poC ⟨g, ev, wa, mo, la, di, x2, n2, c2, stayL L⟩ := by simp [poC]
  rw [e] at h
  have hs : ((stayL L).map (fun q => cnT q.2) ++ ts).Sublist (L.map (fun q => cnT q.2) ++ ts) := List.Sublist.append (List.Sublist.map _ List.filter_sublist) (List.Sublist.refl _)
  have h2 := h.sub (a := numT x1 n1 c1 (goneL L) :: lineR.rowT 47 (.slice x2 n2 c2) (lsOf (stayL L)) :: recT g (poC ⟨g, ev, wa, mo, la, di, x2, n2, c2, stayL L⟩) 45 :: ((stayL L).map (fun q => cnT q.2) ++ ts)) (.cons_cons _ (.cons_cons _ (.cons_cons _ (.cons _ hs))))
  exact h2.perm (List.Perm.cons _ (List.Perm.swap _ _ _))
set_option maxRecDepth 100000 in
set_option maxHeartbeats 2000000 in
theorem sweep_ok (H : Hold W w (poTs p ts)) (F : PFit p) : Calls Try.prog 14 #[.pointer (some ⟨p.g, 0, none⟩)] w fun e w' => ∃ x c, e = .returned (.slice x (goneL p.L).length c) ∧ ∃ x2 n2 c2, Hid (Hold W w' (numT x (goneL p.L).length c (goneL p.L) :: poTs { p with x := x2, n := n2, c := c2, L := stayL p.L } ts)) := by
  have HM := hid (pmade_ok H F)
  have HH := hid H
  have hlen := H.len
  have hmax := F.len
  obtain ⟨_, _, _, _, _, _, _, c7, _, _⟩ := H.po
  clear H F
  obtain ⟨g, ev, wa, mo, la, di, x, n, c, L⟩ := p
  simp only at hlen HM hmax c7 ⊢
  subst hlen
  go_enter Try.func14, Try.ntmps14
  go_wp2_with fail
  refine Calls.mono HM.out ?_
  rintro e w1 ⟨rfl, rfl⟩
  go_wp2
  go_loopg [3, 4, 15] L.length (fun k v u i wr => ∃ (j : Nat) (x1 : Option Addr) (n1 c1 : Nat) (x2 : Option Addr) (n2 c2 : Nat), v = .slice x1 n1 c1 ∧ u = .slice x2 n2 c2 ∧ i = .int .i64 (j : Int) ∧ k + j = L.length ∧ Hid (n1 = (goneL (L.take j)).length ∧ Hold W wr (numT x1 n1 c1 (goneL (L.take j)) :: lineR.rowT 47 (.slice x2 n2 c2) (lsOf (stayL (L.take j))) :: poTs ⟨g, ev, wa, mo, la, di, x, L.length, c, L⟩ ts)))
  case atStart => exact ⟨0, _, _, _, _, _, _, rfl, rfl, rfl, rfl, rfl, Recs.newrow (Recs.newrow HH.out 47) 3⟩
  case round =>
    obtain ⟨j, x1, n1, c1, x2, n2, c2, rfl, rfl, rfl, hk, HI⟩ := hrel
    by_cases hj : j < L.length
    · obtain ⟨⟨k, s⟩, hq⟩ := getsome hj
      have HW := HI.out.2.tail.tail
      obtain ⟨rb, hx, hrb, hlc, hcm, d0, d1⟩ := HW.at j k s hq
      simp only at hx hlc hcm
      subst hx
      have kz := keeps_alloc wr (.cells #[.int .i64 (k : Int), .pointer (some ⟨s.g, 0, none⟩)] 47)
      have HO := hid (over_ok (cnT_quiet (HW.cn (List.mem_of_getElem? hq)) kz) (k : Int))
      have hb0 := heap_alloc_new wr (.cells #[.int .i64 (k : Int), .pointer (some ⟨s.g, 0, none⟩)] 47)
      have hs1 := stay_snoc (L.take j) (k, s)
      have hs2 := gone_snoc (L.take j) (k, s)
      rw [← take_snoc hq] at hs1 hs2
      simp only at hs1 hs2
      have hle1 := stay_le (L.take j)
      have hle2 := gone_le (L.take j)
      rw [List.length_take] at hle1 hle2
      have HX : Hid (∀ W', Keeps nobody (wr.alloc (.cells #[.int .i64 (k : Int), .pointer (some ⟨s.g, 0, none⟩)] 47)) W' → (W'.cell? ⟨wr.heap.size, 0, none⟩ = some (.int .i64 (k : Int)) ∧ W'.cell? ⟨wr.heap.size, 1, none⟩ = some (.pointer (some ⟨s.g, 0, none⟩))) ∧ Hid (n1 = (goneL (L.take j)).length ∧ Hold W W' (numT x1 n1 c1 (goneL (L.take j)) :: lineR.rowT 47 (.slice x2 n2 c2) (lsOf (stayL (L.take j))) :: poTs ⟨g, ev, wa, mo, la, di, some ⟨rb, 0, none⟩, L.length, c, L⟩ ts))) := fun W' hk2 => by
        refine ⟨⟨(hk2.cell (p := ⟨wr.heap.size, 0, none⟩) (by simp) id).trans ?_, (hk2.cell (p := ⟨wr.heap.size, 1, none⟩) (by simp) id).trans ?_⟩, HI.out.1, HI.out.2.quiet (kz.then hk2)⟩
        · unfold World.cell?
          simp only [hb0]
          rfl
        · unfold World.cell?
          simp only [hb0]
          rfl
      have HK := hid hk
      clear hk HW kz hb0 HI
      unfold maxLen at hcm
      by_cases hd : s.dead = 0
      · rw [if_pos hd] at hs1 hs2
        have hc : (s.dead != 0) = false := by simp [hd]
        rw [hc] at HO
        have HS := hid (And.intro hs1 hs2)
        clear hc hs1 hs2 hd
        go_wp2_with fail
        refine Calls.mono HO.out ?_
        rintro e w2 ⟨rfl, k2⟩
        obtain ⟨⟨e0, e1⟩, HY⟩ := HX.out w2 k2
        clear HO HX k2
        obtain ⟨x3, n3, c3, w3, r3, H3⟩ := Recs.app_lit (P := Try.prog) (R := lineR) (ts := [numT x1 n1 c1 (goneL (L.take j))]) (us := poTs ⟨g, ev, wa, mo, la, di, some ⟨rb, 0, none⟩, L.length, c, L⟩ ts) 43 43 47 _ 16 Try.underlying43 infoLine rfl HY.out.2 (k, s.g) #[.int .i64 (k : Int), .pointer (some ⟨s.g, 0, none⟩)] rfl (by rw [lsOf_length]; omega) (by decide)
        have HR := hid r3
        have HG := hid HY.out.1
        clear r3 HY
        go_wp2_with (at_builtin; refine wpList_append_run rfl _ _ 43 43 rfl _ _ rfl rfl HR.out ?_)
        have hk := HK.out
        go_roundg (gk - 1)
        case measure => omega
        case rel =>
          refine ⟨j + 1, x1, n1, c1, x3, n3, c3, rfl, rfl, by simp, by omega, ?_⟩
          rw [HS.out.1, HS.out.2]
          have e : lsOf (stayL (L.take j) ++ [(k, s)]) = lsOf (stayL (L.take j)) ++ [(k, s.g)] := by simp [lsOf]
          rw [e]
          exact ⟨HG.out, H3.out.2⟩
      · rw [if_neg hd] at hs1 hs2
        have hc : (s.dead != 0) = true := by simp [hd]
        rw [hc] at HO
        have HS := hid (And.intro hs1 hs2)
        clear hc hs1 hs2 hd
        go_wp2_with fail
        refine Calls.mono HO.out ?_
        rintro e w2 ⟨rfl, k2⟩
        obtain ⟨⟨e0, e1⟩, HY⟩ := HX.out w2 k2
        clear HO HX k2
        obtain ⟨x3, n3, c3, w3, r3, H3⟩ := Recs.app_lit (P := Try.prog) (R := numR) (ts := []) 30 30 3 _ 8 Try.underlying30 infoInt rfl HY.out.2 (k : Int) #[.int .i64 (k : Int)] rfl (by omega) (by decide)
        have HR := hid r3
        clear r3 HY
        go_wp2_with (at_builtin; refine wpList_append_run rfl _ _ 30 30 rfl _ _ rfl rfl HR.out ?_)
        have hk := HK.out
        go_roundg (gk - 1)
        case measure => omega
        case rel =>
          refine ⟨j + 1, x3, n3, c3, x2, n2, c2, rfl, rfl, by simp, by omega, ?_⟩
          rw [HS.out.1, HS.out.2]
          exact H3.out
    · have hjl : j = L.length := by omega
      subst hjl
      obtain ⟨h1, h2⟩ := HI.out
      rw [List.take_of_length_le (Nat.le_refl _)] at h1 h2
      have HW := h2.tail.tail
      obtain ⟨_, _, _, _, _, _, _, e7, ef, _⟩ := HW.po
      have f7 := ef 7
      simp only at e7 f7
      have HZ := hid (swept h2)
      have HN := hid h1
      clear HI h1 h2 hk hj HW ef
      go_wp2
      go_ret
      refine ⟨x1, c1, ?_, x2, n2, c2, ?_⟩
      · rw [← HN.out]; rfl
      · rw [← HN.out]; exact HZ
end
end Go.Proofs.Ytendndokgpppiaa
