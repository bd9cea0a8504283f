/-
  Package pool: something done to one connection; Tick of connections that are alike.
-/
import Derived.Test.YtendndokgpppiaaPoLoop
namespace Go.Proofs.Ytendndokgpppiaa
open Go.RowKit
attribute [local irreducible] cnT cnW

/-- So broken, with such a health; not too much was said. -/
def Alike (L : List (Nat × Cn)) (h : Pi.He) (d : Int) (M : Nat) : Prop := ∀ q ∈ L, q.2.h = h ∧ q.2.dead = d ∧ q.2.B.size ≤ M ∧ q.2.sent ≤ M
/-- Something was done to one of the connections. -/
theorem Hold.cnact {W w w' : World} {p : Po} {us ts : List Thing} {A B : List (Nat × Cn)} {k : Nat} {s s' : Cn} (H : Hold W w (us ++ poTs p ts)) (hL : p.L = A ++ (k, s) :: B) (hd : Did (cnT s) (cnT s') w w') (hg : s'.g = s.g) : Hold W w' (us ++ poTs { p with L := A ++ (k, s') :: B } ts) := by
  obtain ⟨g, ev, wa, mo, la, di, x, n, c, L⟩ := p
  simp only at hL
  subst hL
  have e1 : us ++ poTs ⟨g, ev, wa, mo, la, di, x, n, c, A ++ (k, s) :: B⟩ ts = (us ++ (poT ⟨g, ev, wa, mo, la, di, x, n, c, A ++ (k, s) :: B⟩ :: lnT ⟨g, ev, wa, mo, la, di, x, n, c, A ++ (k, s) :: B⟩ :: A.map fun q => cnT q.2)) ++ cnT s :: ((B.map fun q => cnT q.2) ++ ts) := by simp [poTs]
  rw [e1] at H
  have h2 := H.act hd
  have e2 : lsOf (A ++ (k, s) :: B) = lsOf (A ++ (k, s') :: B) := by simp [lsOf, hg]
  have e3 : us ++ poTs ⟨g, ev, wa, mo, la, di, x, n, c, A ++ (k, s') :: B⟩ ts = (us ++ (poT ⟨g, ev, wa, mo, la, di, x, n, c, A ++ (k, s) :: B⟩ :: lnT ⟨g, ev, wa, mo, la, di, x, n, c, A ++ (k, s) :: B⟩ :: A.map fun q => cnT q.2)) ++ cnT s' :: ((B.map fun q => cnT q.2) ++ ts) := by
    simp only [poTs, lnT, poT, poC, e2]
    simp
  show Hold W w' (us ++ poTs ⟨g, ev, wa, mo, la, di, x, n, c, A ++ (k, s') :: B⟩ ts)
  rw [e3]
  exact h2
/-- What a tick of all tells. -/
def brokeL (L : List (Nat × Cn)) (h : Pi.He) : List Int := if lateE h = 0 then [] else numsOf L
theorem late_or (h : Pi.He) : lateE h = 0 ∨ lateE h = 18 := by
  unfold lateE
  split
  · exact .inr rfl
  · exact .inl rfl
section
variable {W w : World} {p : Po} {ts : List Thing}
set_option maxRecDepth 100000 in
set_option maxHeartbeats 1000000 in
/-- Of those that are broken nothing is told. -/
theorem ptick_dead (H : Hold W w (poTs p ts)) (F : PFit p) (hd : ∀ q ∈ p.L, q.2.dead ≠ 0) : Calls Try.prog 17 #[.pointer (some ⟨p.g, 0, none⟩)] w fun e w' => e = .returned (.slice none 0 0) ∧ Keeps nobody w w' := by
  have HL := hid (plines_ok H)
  have HH := hid H
  have hlen := H.len
  have hmax := F.len
  clear H
  obtain ⟨g, ev, wa, mo, la, di, x, n, c, L⟩ := p
  simp only at hlen HL hmax hd ⊢
  subst hlen
  have HD := hid hd
  clear hd
  go_enter Try.func17, Try.ntmps17
  go_wp2_with fail
  refine Calls.mono HL.out ?_
  rintro e w1 ⟨rfl, rfl⟩
  go_wp2
  go_loopg [3, 9] L.length (fun k v i wr => ∃ (j : Nat), v = .slice none 0 0 ∧ i = .int .i64 (j : Int) ∧ k + j = L.length ∧ Hid (Keeps nobody w wr))
  case atStart => exact ⟨0, rfl, rfl, rfl, Keeps.refl _ _⟩
  case round =>
    obtain ⟨j, rfl, rfl, hk, HI⟩ := hrel
    by_cases hj : j < L.length
    · obtain ⟨⟨k, s⟩, hq⟩ := getsome hj
      have HW := HH.out.quiet HI.out
      obtain ⟨rb, hx, hrb, hlc, hcm, d0, d1⟩ := HW.at j k s hq
      simp only at hx hlc hcm
      subst hx
      have hmem := List.mem_of_getElem? hq
      have kz := keeps_alloc wr (.cells #[.int .i64 (k : Int), .pointer (some ⟨s.g, 0, none⟩)] 47)
      have HC := hid (cdead_ok (cnT_quiet (HW.cn hmem) kz))
      have hne : (s.dead == 0) = false := by simpa using HD.out _ hmem
      have HKz := hid (HI.out.then kz)
      have HK := hid hk
      clear hk hq HW kz hmem HI
      unfold maxLen at hcm
      generalize s.dead = dd at *
      go_wp2_with fail
      refine Calls.mono HC.out ?_
      rintro e w2 ⟨rfl, rfl⟩
      clear HC
      go_wp2
      have hk := HK.out
      go_roundg (gk - 1)
      case measure => omega
      case rel => exact ⟨j + 1, rfl, by simp, by omega, HKz⟩
    · clear hk
      go_wp2
      go_ret
      exact ⟨rfl, HI.out⟩
set_option maxRecDepth 100000 in
set_option maxHeartbeats 2000000 in
/-- A tick goes by for all: those that break by it are told. -/
theorem ptick_live (H : Hold W w (poTs p ts)) (F : PFit p) {h : Pi.He} {M : Nat} (hU : Alike p.L h 0 M) (hF : Pi.Fit h) (hM : M ≤ 900000) : Calls Try.prog 17 #[.pointer (some ⟨p.g, 0, none⟩)] w fun e w' => ∃ x c, e = .returned (.slice x (brokeL p.L h).length c) ∧ ∃ L2, Hid (lsOf L2 = lsOf p.L ∧ Alike L2 (Pi.tickH h).1 (lateE h) (M + 20) ∧ Hold W w' (numT x (brokeL p.L h).length c (brokeL p.L h) :: poTs { p with L := L2 } ts)) := by
  have HL := hid (plines_ok H)
  have HH := hid H
  have hlen := H.len
  have hmax := F.len
  clear H
  obtain ⟨g, ev, wa, mo, la, di, x, n, c, L⟩ := p
  simp only at hlen HL hmax hU ⊢
  subst hlen
  have HU := hid hU
  have HT : Hid (∀ s W', (cnT s).inv W' → s.h = h ∧ s.dead = 0 ∧ s.B.size ≤ M ∧ s.sent ≤ M → Calls Try.prog 26 #[.pointer (some ⟨s.g, 0, none⟩)] W' fun e w' => e = .returned (.int .i64 (lateE h)) ∧ ∃ s', Hid (Did (cnT s) (cnT s') W' w' ∧ s'.g = s.g ∧ s'.h = (Pi.tickH h).1 ∧ s'.dead = lateE h ∧ s'.B.size ≤ M + 20 ∧ s'.sent ≤ M + 20)) := fun s W' hi hs => by
    obtain ⟨e1, e2, e3, e4⟩ := hs
    refine (ctick_ok hi e2 (by rw [e1]; exact hF) (by omega) (by omega)).mono ?_
    rintro e w' ⟨he, s', hd, ht⟩
    rw [e1] at he ht
    exact ⟨he, s', hd, ht.g, ht.h, ht.dead, by have := ht.size; omega, by have := ht.sent; omega⟩
  have HZ := late_or h
  have HB0 : Hid (lateE h = 0 → brokeL L h = []) := fun e => if_pos e
  have HB1 : Hid (lateE h = 18 → brokeL L h = numsOf L) := fun e => if_neg (by rw [e]; decide)
  clear hU hF hM
  generalize lateE h = z at *
  generalize (Pi.tickH h).1 = h' at *
  generalize brokeL L h = R at *
  rcases HZ with rfl | rfl
  · obtain rfl := HB0.out rfl
    clear HB0 HB1
    go_enter Try.func17, Try.ntmps17
    go_wp2_with fail
    refine Calls.mono HL.out ?_
    rintro e w1 ⟨rfl, rfl⟩
    go_wp2
    go_loopg [3, 9] L.length (fun k v i wr => ∃ (j : Nat), v = .slice none 0 0 ∧ i = .int .i64 (j : Int) ∧ k + j = L.length ∧ Hid (∃ A, A.length = j ∧ lsOf A = lsOf (L.take j) ∧ Alike A h' 0 (M + 20) ∧ Hold W wr (poTs ⟨g, ev, wa, mo, la, di, x, L.length, c, A ++ L.drop j⟩ ts)))
    case atStart => exact ⟨0, rfl, rfl, rfl, [], rfl, rfl, (fun q hq => by cases hq), HH.out⟩
    case round =>
      obtain ⟨j, rfl, rfl, hk, HI⟩ := hrel
      obtain ⟨A, hA, hA2, hA3, HW⟩ := HI.out
      by_cases hj : j < L.length
      · obtain ⟨⟨k, s⟩, hq⟩ := getsome hj
        have hdrop : L.drop j = (k, s) :: L.drop (j + 1) := by
          obtain ⟨hlt, he⟩ := List.getElem?_eq_some_iff.1 hq
          rw [List.drop_eq_getElem_cons hlt, he]
        have hat : (A ++ L.drop j)[j]? = some (k, s) := by
          rw [hdrop, List.getElem?_append_right (by omega)]
          simp [hA]
        obtain ⟨rb, hx, hrb, hlc, hcm, d0, d1⟩ := HW.at j k s hat
        simp only at hx hlc hcm
        subst hx
        rw [List.length_append, List.length_drop] at hlc
        have hlc : L.length ≤ c := by omega
        have hs := HU.out (k, s) (List.mem_of_getElem? hq)
        have kz := keeps_alloc wr (.cells #[.int .i64 (k : Int), .pointer (some ⟨s.g, 0, none⟩)] 47)
        have hinv := cnT_quiet (HW.cn (List.mem_of_getElem? hat)) kz
        have HC := hid (cdead_ok hinv)
        have HCt := hid (HT.out s _ hinv hs)
        have hlt2 := cnT_lt (HW.cn (List.mem_of_getElem? hat))
        have HX : Hid (∀ s' W', (Did (cnT s) (cnT s') (wr.alloc (.cells #[.int .i64 (k : Int), .pointer (some ⟨s.g, 0, none⟩)] 47)) W' ∧ s'.g = s.g ∧ s'.h = h' ∧ s'.dead = 0 ∧ s'.B.size ≤ M + 20 ∧ s'.sent ≤ M + 20) → ∃ A, A.length = j + 1 ∧ lsOf A = lsOf (L.take (j + 1)) ∧ Alike A h' 0 (M + 20) ∧ Hold W W' (poTs ⟨g, ev, wa, mo, la, di, some ⟨rb, 0, none⟩, L.length, c, A ++ L.drop (j + 1)⟩ ts)) := fun s' W' ⟨hd, hg, t1, t2, t3, t4⟩ => by
          refine ⟨A ++ [(k, s')], by simp [hA], ?_, ?_, ?_⟩
          · rw [take_snoc hq]
            have : lsOf (A ++ [(k, s')]) = lsOf A ++ [(k, s'.g)] := by simp [lsOf]
            rw [this, hA2, hg]
            simp [lsOf]
          · intro q hm
            rcases List.mem_append.1 hm with hm | hm
            · exact hA3 q hm
            · simp at hm
              rw [hm]
              exact ⟨t1, t2, t3, t4⟩
          · have h1 := Hold.cnact (us := []) (p := ⟨g, ev, wa, mo, la, di, some ⟨rb, 0, none⟩, L.length, c, A ++ L.drop j⟩) (A := A) (B := L.drop (j + 1)) (k := k) (HW.quiet kz) (by simp only [hdrop]) hd hg
            have e : A ++ (k, s') :: L.drop (j + 1) = A ++ [(k, s')] ++ L.drop (j + 1) := by simp
            rw [e] at h1
            exact h1
        rw [hs.2.1] at HC
        have HK := hid hk
        clear hk hq HW kz hinv hat hdrop hs HI hA hA2 hA3
        unfold maxLen at hcm
        go_wp2_with fail
        refine Calls.mono HC.out ?_
        rintro e w2 ⟨rfl, rfl⟩
        clear HC
        go_wp2_with fail
        refine Calls.mono HCt.out ?_
        rintro e w3 ⟨rfl, s', HS⟩
        have HY := hid (HX.out s' w3 HS.out)
        clear HCt HX HS
        go_wp2
        have hk := HK.out
        go_roundg (gk - 1)
        case measure => omega
        case rel => exact ⟨j + 1, rfl, by simp, by omega, HY⟩
      · have hjl : j = L.length := by omega
        subst hjl
        rw [List.take_of_length_le (Nat.le_refl _)] at hA2
        rw [List.drop_length, List.append_nil] at HW
        have HF := hid (And.intro hA2 (And.intro hA3 (Recs.newrow (R := numR) HW 3)))
        clear HI hA hA2 hA3 HW hk hj
        go_wp2
        go_ret
        exact ⟨none, 0, rfl, A, HF⟩
  · obtain rfl := HB1.out rfl
    clear HB0 HB1
    go_enter Try.func17, Try.ntmps17
    go_wp2_with fail
    refine Calls.mono HL.out ?_
    rintro e w1 ⟨rfl, rfl⟩
    go_wp2
    go_loopg [3, 9] L.length (fun k v i wr => ∃ (j : Nat) (x1 : Option Addr) (n1 c1 : Nat), v = .slice x1 n1 c1 ∧ i = .int .i64 (j : Int) ∧ k + j = L.length ∧ Hid (n1 = j ∧ ∃ A, A.length = j ∧ lsOf A = lsOf (L.take j) ∧ Alike A h' 18 (M + 20) ∧ Hold W wr (numT x1 n1 c1 (numsOf (L.take j)) :: poTs ⟨g, ev, wa, mo, la, di, x, L.length, c, A ++ L.drop j⟩ ts)))
    case atStart => exact ⟨0, none, 0, 0, rfl, rfl, rfl, rfl, [], rfl, rfl, (fun q hq => by cases hq), Recs.newrow HH.out 3⟩
    case round =>
      obtain ⟨j, x1, n1, c1, rfl, rfl, hk, HI⟩ := hrel
      obtain ⟨hn1, A, hA, hA2, hA3, HW0⟩ := HI.out
      have HW := HW0.tail
      by_cases hj : j < L.length
      · obtain ⟨⟨k, s⟩, hq⟩ := getsome hj
        have hdrop : L.drop j = (k, s) :: L.drop (j + 1) := by
          obtain ⟨hlt, he⟩ := List.getElem?_eq_some_iff.1 hq
          rw [List.drop_eq_getElem_cons hlt, he]
        have hat : (A ++ L.drop j)[j]? = some (k, s) := by
          rw [hdrop, List.getElem?_append_right (by omega)]
          simp [hA]
        obtain ⟨rb, hx, hrb, hlc, hcm, d0, d1⟩ := HW.at j k s hat
        simp only at hx hlc hcm
        subst hx
        rw [List.length_append, List.length_drop] at hlc
        have hlc : L.length ≤ c := by omega
        have hs := HU.out (k, s) (List.mem_of_getElem? hq)
        have kz := keeps_alloc wr (.cells #[.int .i64 (k : Int), .pointer (some ⟨s.g, 0, none⟩)] 47)
        have hinv := cnT_quiet (HW.cn (List.mem_of_getElem? hat)) kz
        have HC := hid (cdead_ok hinv)
        have HCt := hid (HT.out s _ hinv hs)
        have hfo := cnT_ok.lt (HW.cn (List.mem_of_getElem? hat))
        have hb0 := heap_alloc_new wr (.cells #[.int .i64 (k : Int), .pointer (some ⟨s.g, 0, none⟩)] 47)
        have HN : Hid (numsOf (L.take (j + 1)) = numsOf (L.take j) ++ [(k : Int)] ∧ (numsOf (L.take j)).length = j) := by
          refine ⟨?_, by rw [numsOf_length, List.length_take]; omega⟩
          rw [take_snoc hq]
          simp [numsOf]
        have HX : Hid (∀ s' W', (Did (cnT s) (cnT s') (wr.alloc (.cells #[.int .i64 (k : Int), .pointer (some ⟨s.g, 0, none⟩)] 47)) W' ∧ s'.g = s.g ∧ s'.h = h' ∧ s'.dead = 18 ∧ s'.B.size ≤ M + 20 ∧ s'.sent ≤ M + 20) → W'.cell? ⟨wr.heap.size, 0, none⟩ = some (.int .i64 (k : Int)) ∧ Hid (∃ A, A.length = j + 1 ∧ lsOf A = lsOf (L.take (j + 1)) ∧ Alike A h' 18 (M + 20) ∧ Hold W W' (numT x1 n1 c1 (numsOf (L.take j)) :: poTs ⟨g, ev, wa, mo, la, di, some ⟨rb, 0, none⟩, L.length, c, A ++ L.drop (j + 1)⟩ ts))) := fun s' W' ⟨hd, hg, t1, t2, t3, t4⟩ => by
          refine ⟨?_, A ++ [(k, s')], by simp [hA], ?_, ?_, ?_⟩
          · refine (hd.keeps.cell (p := ⟨wr.heap.size, 0, none⟩) (by simp) (fun e => by have := hfo _ e; exact Nat.lt_irrefl _ this)).trans ?_
            unfold World.cell?
            simp only [hb0]
            rfl
          · rw [take_snoc hq]
            have : lsOf (A ++ [(k, s')]) = lsOf A ++ [(k, s'.g)] := by simp [lsOf]
            rw [this, hA2, hg]
            simp [lsOf]
          · intro q hm
            rcases List.mem_append.1 hm with hm | hm
            · exact hA3 q hm
            · simp at hm
              rw [hm]
              exact ⟨t1, t2, t3, t4⟩
          · have h1 := Hold.cnact (us := [numT x1 n1 c1 (numsOf (L.take j))]) (p := ⟨g, ev, wa, mo, la, di, some ⟨rb, 0, none⟩, L.length, c, A ++ L.drop j⟩) (A := A) (B := L.drop (j + 1)) (k := k) (HW0.quiet kz) (by simp only [hdrop]) hd hg
            have e : A ++ (k, s') :: L.drop (j + 1) = A ++ [(k, s')] ++ L.drop (j + 1) := by simp
            rw [e] at h1
            exact h1
        rw [hs.2.1] at HC
        have HK := hid (And.intro hk hn1)
        clear hk hq HW kz hinv hat hdrop hs HI hA hA2 hA3 HW0 hn1 hfo hb0
        unfold maxLen at hcm
        go_wp2_with fail
        refine Calls.mono HC.out ?_
        rintro e w2 ⟨rfl, rfl⟩
        clear HC
        go_wp2_with fail
        refine Calls.mono HCt.out ?_
        rintro e w3 ⟨rfl, s', HS⟩
        obtain ⟨e0, HY⟩ := HX.out s' w3 HS.out
        clear HCt HX HS
        obtain ⟨A2, a1, a2, a3, a4⟩ := HY.out
        have hl := HN.out.2
        obtain ⟨x3, n3, c3, w4, r3, H3⟩ := Recs.app_lit (P := Try.prog) (R := numR) (ts := []) 30 30 3 _ 8 Try.underlying30 infoInt rfl a4 (k : Int) #[.int .i64 (k : Int)] rfl (by omega) (by decide)
        have HR := hid r3
        have HA := hid (And.intro a1 (And.intro a2 a3))
        clear r3 HY a1 a2 a3 a4 hl
        go_wp2_with (at_builtin; refine wpList_append_run rfl _ _ 30 30 rfl _ _ rfl rfl HR.out ?_)
        have hk := HK.out.1
        go_roundg (gk - 1)
        case measure => omega
        case rel =>
          refine ⟨j + 1, x3, n3, c3, rfl, by simp, by omega, ?_, A2, HA.out.1, HA.out.2.1, HA.out.2.2, ?_⟩
          · have e1 := H3.out.1
            rw [List.length_append, HN.out.2] at e1
            exact e1
          · rw [HN.out.1]
            exact H3.out.2
      · have hjl : j = L.length := by omega
        subst hjl
        rw [List.take_of_length_le (Nat.le_refl _)] at hA2 HW0
        rw [List.drop_length, List.append_nil] at HW0
        subst hn1
        have HF := hid (And.intro hA2 (And.intro hA3 HW0))
        have HN := hid (numsOf_length L)
        clear HI hA hA2 hA3 HW HW0 hk hj
        go_wp2
        go_ret
        refine ⟨x1, c1, by rw [HN.out]; rfl, A, ?_⟩
        rw [HN.out]
        exact HF
end
end Go.Proofs.Ytendndokgpppiaa
