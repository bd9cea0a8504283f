/-
  Package pool: All, Pick, At, live: the loops that only look.
-/
import Derived.Test.YtendndokgpppiaaPoCode
namespace Go.Proofs.Ytendndokgpppiaa
open Go.RowKit
attribute [local irreducible] cnT cnW

/-- The numbers of those that are there. -/
def numsOf (L : List (Nat × Cn)) : List Int := L.map fun q => (q.1 : Int)
/-- The first one that can. -/
def pickL (L : List (Nat × Cn)) : Int × Bool := match L.find? (fun q => q.2.dead == 0) with
  | some q => ((q.1 : Int), true)
  | none => (0, false)
def liveN (L : List (Nat × Cn)) : Nat := (L.filter fun q => q.2.dead == 0).length
theorem numsOf_length (L : List (Nat × Cn)) : (numsOf L).length = L.length := by simp [numsOf]
theorem pick_here {L : List (Nat × Cn)} {j k : Nat} {s : Cn} (hj : L[j]? = some (k, s)) (hd : s.dead = 0) (hn : ∀ q ∈ L.take j, q.2.dead ≠ 0) : pickL L = ((k : Int), true) := by
  obtain ⟨hlt, he⟩ := List.getElem?_eq_some_iff.1 hj
  have e : L.find? (fun q => q.2.dead == 0) = some (k, s) := by
    rw [← List.take_append_drop j L, List.find?_append, List.find?_eq_none.2 (fun q hq => by simpa using hn q hq), List.drop_eq_getElem_cons hlt, he]
    simp [hd]
  rw [pickL, e]
theorem pick_none {L : List (Nat × Cn)} (hn : ∀ q ∈ L, q.2.dead ≠ 0) : pickL L = (0, false) := by
  have e : L.find? (fun q => q.2.dead == 0) = none := List.find?_eq_none.2 fun q hq => by simpa using hn q hq
  rw [pickL, e]
theorem take_snoc {α : Type} {L : List α} {j : Nat} {x : α} (hj : L[j]? = some x) : L.take (j + 1) = L.take j ++ [x] := by
  rw [List.take_add_one, hj]
  rfl
theorem getsome {α : Type} {L : List α} {j : Nat} (h : j < L.length) : ∃ x, L[j]? = some x := ⟨_, List.getElem?_eq_getElem h⟩
section
variable {W w : World} {p : Po} {ts : List Thing}
set_option maxRecDepth 100000 in
set_option maxHeartbeats 1000000 in
theorem all_ok (H : Hold W w (poTs p ts)) (F : PFit p) : Calls Try.prog 15 #[.pointer (some ⟨p.g, 0, none⟩)] w fun e w' => ∃ x c, e = .returned (.slice x p.L.length c) ∧ Hid (Hold W w' (numT x p.L.length c (numsOf p.L) :: poTs p ts)) := by
  have HL := hid (plines_ok H)
  have HH := hid H
  have hlen := H.len
  have hmax := F.len
  clear H
  obtain ⟨g, ev, wa, mo, la, di, x, n, c, L⟩ := p
  simp only at hlen HL hmax ⊢
  subst hlen
  go_enter Try.func15, Try.ntmps15
  go_wp2_with fail
  refine Calls.mono HL.out ?_
  rintro e w1 ⟨rfl, rfl⟩
  go_wp2
  go_loopg [3, 9] L.length (fun k v i wr => ∃ (j : Nat) (x1 : Option Addr) (n1 c1 : Nat), v = .slice x1 n1 c1 ∧ i = .int .i64 (j : Int) ∧ k + j = L.length ∧ Hid (n1 = j ∧ Hold W wr (numT x1 n1 c1 (numsOf (L.take j)) :: poTs ⟨g, ev, wa, mo, la, di, x, L.length, c, L⟩ ts)))
  case atStart => exact ⟨0, _, _, _, rfl, rfl, rfl, rfl, Recs.newrow HH.out 3⟩
  case round =>
    obtain ⟨j, x1, n1, c1, rfl, rfl, hk, HI⟩ := hrel
    by_cases hj : j < L.length
    · obtain ⟨⟨k, s⟩, hq⟩ := getsome hj
      obtain ⟨rb, hx, hrb, hlc, hcm, d0, d1⟩ := (Hold.tail HI.out.2).at j k s hq
      simp only at hx hlc hcm
      subst hx
      have hq2 := (HI.out.2).quiet (keeps_alloc wr (.cells #[.int .i64 (k : Int), .pointer (some ⟨s.g, 0, none⟩)] 47))
      obtain ⟨x2, n2, c2, w2, r2, H2⟩ := Recs.app_lit (P := Try.prog) (R := numR) (ts := []) 30 30 3 _ 8 Try.underlying30 infoInt rfl hq2 (k : Int) #[.int .i64 (k : Int)] rfl (by rw [numsOf_length, List.length_take]; omega) (by decide)
      have hz : (wr.alloc (.cells #[.int .i64 (k : Int), .pointer (some ⟨s.g, 0, none⟩)] 47)).heap.size = wr.heap.size + 1 := by simp
      rw [hz] at r2
      have HR := hid r2
      have HT : Hid (numsOf (L.take (j + 1)) = numsOf (L.take j) ++ [(k : Int)]) := by
        show _ = _
        rw [take_snoc hq]
        simp [numsOf]
      have HK := hid hk
      clear hk r2 hz hq2 hq
      unfold maxLen at hcm
      go_wp2_with (at_builtin; refine wpList_append_run rfl _ _ 30 30 rfl _ _ rfl rfl HR.out ?_)
      have hk := HK.out
      go_roundg (gk - 1)
      case measure => omega
      case rel => exact ⟨j + 1, x2, n2, c2, rfl, by simp, by omega, by
        have e2 := H2.out.1
        rw [List.length_append, numsOf_length, List.length_take] at e2
        simp only [List.length_cons, List.length_nil] at e2
        omega, by rw [HT.out]; exact H2.out.2⟩
    · have hjl : j = L.length := by omega
      subst hjl
      obtain ⟨h1, h2⟩ := HI.out
      rw [List.take_of_length_le (Nat.le_refl _)] at h2
      subst h1
      have HF := hid h2
      clear HI h2 hk hj
      go_wp2
      go_ret
      exact ⟨x1, c1, rfl, HF⟩
set_option maxRecDepth 100000 in
set_option maxHeartbeats 1000000 in
theorem pick_ok (H : Hold W w (poTs p ts)) (F : PFit p) : Calls Try.prog 19 #[.pointer (some ⟨p.g, 0, none⟩)] w fun e w' => e = .returned (.tuple #[.int .i64 (pickL p.L).1, .bool (pickL p.L).2]) ∧ Keeps nobody w w' := by
  have HL := hid (plines_ok H)
  have HH := hid H
  have hlen := H.len
  have hmax := F.len
  clear H
  obtain ⟨g, ev, wa, mo, la, di, x, n, c, L⟩ := p
  simp only at hlen HL hmax ⊢
  subst hlen
  have HP : Hid (∀ (j k : Nat) (s : Cn), L[j]? = some (k, s) → s.dead = 0 → (∀ q ∈ L.take j, q.2.dead ≠ 0) → pickL L = ((k : Int), true)) := fun j k s => pick_here
  have HN : Hid ((∀ q ∈ L, q.2.dead ≠ 0) → pickL L = (0, false)) := pick_none
  generalize pickL L = R at *
  go_enter Try.func19, Try.ntmps19
  go_wp2_with fail
  refine Calls.mono HL.out ?_
  rintro e w1 ⟨rfl, rfl⟩
  go_wp2
  go_loopg [9] L.length (fun k i wr => ∃ (j : Nat), i = .int .i64 (j : Int) ∧ k + j = L.length ∧ Hid ((∀ q ∈ L.take j, q.2.dead ≠ 0) ∧ Keeps nobody w wr))
  case atStart => exact ⟨0, rfl, rfl, by simp, Keeps.refl _ _⟩
  case round =>
    obtain ⟨j, rfl, hk, HI⟩ := hrel
    by_cases hj : j < L.length
    · obtain ⟨⟨k, s⟩, hq⟩ := getsome hj
      have HW := HH.out.quiet HI.out.2
      obtain ⟨rb, hx, hrb, hlc, hcm, d0, d1⟩ := HW.at j k s hq
      simp only at hx hlc hcm
      subst hx
      have kz := keeps_alloc wr (.cells #[.int .i64 (k : Int), .pointer (some ⟨s.g, 0, none⟩)] 47)
      have HC := hid (ccan_ok (cnT_quiet (HW.cn (List.mem_of_getElem? hq)) kz))
      have hb0 := heap_alloc_new wr (.cells #[.int .i64 (k : Int), .pointer (some ⟨s.g, 0, none⟩)] 47)
      have KE : Hid (∀ W', Keeps nobody (wr.alloc (.cells #[.int .i64 (k : Int), .pointer (some ⟨s.g, 0, none⟩)] 47)) W' → W'.cell? ⟨wr.heap.size, 0, none⟩ = some (.int .i64 (k : Int)) ∧ Keeps nobody w W') := fun W' hk => by
        refine ⟨(hk.cell (p := ⟨wr.heap.size, 0, none⟩) (by simp) id).trans (by
          unfold World.cell?
          simp only [hb0]
          rfl), (HI.out.2.then kz).then hk⟩
      have HK := hid hk
      have HP1 := hid (HP.out j k s hq)
      have HT : Hid (s.dead ≠ 0 → ∀ q ∈ L.take (j + 1), q.2.dead ≠ 0) := fun h q hm => by
        rw [take_snoc hq] at hm
        rcases List.mem_append.1 hm with hm | hm
        · exact HI.out.1 q hm
        · simp at hm
          rw [hm]
          exact h
      clear hk hq HW kz hb0
      unfold maxLen at hcm
      by_cases hd : s.dead = 0
      · have e := HP1.out hd HI.out.1
        subst e
        have hc : (s.dead == 0) = true := by simp [hd]
        rw [hc] at HC
        clear hd HT HI HP1 hc HP HN
        go_wp2_with fail
        refine Calls.mono HC.out ?_
        rintro e w2 ⟨rfl, k2⟩
        obtain ⟨e0, kk⟩ := KE.out _ k2
        have KK := hid kk
        clear KE k2 HC kk
        go_wp2
        exact bodyPost_ret (v := .tuple #[.int .i64 (k : Int), .bool true]) (by simp [results, Try.results19, go_sem]) rfl ⟨rfl, KK.out⟩
      · have hc : (s.dead == 0) = false := by simp [hd]
        rw [hc] at HC
        have HT2 := hid (HT.out hd)
        clear hd HT HI HP1 hc
        go_wp2_with fail
        refine Calls.mono HC.out ?_
        rintro e w2 ⟨rfl, k2⟩
        obtain ⟨e0, kk⟩ := KE.out _ k2
        have KK := hid kk
        clear KE k2 HC kk
        go_wp2
        have hk := HK.out
        go_roundg (gk - 1)
        case measure => omega
        case rel => exact ⟨j + 1, by simp, by omega, HT2.out, KK.out⟩
    · have hjl : j = L.length := by omega
      subst hjl
      obtain ⟨h1, h2⟩ := HI.out
      rw [List.take_of_length_le (Nat.le_refl _)] at h1
      have e := HN.out h1
      subst e
      have HF := hid h2
      clear HI h1 h2 hk hj HP HN
      go_wp2
      exact bodyPost_ret (v := .tuple #[.int .i64 0, .bool false]) (by simp [results, Try.results19, go_sem]) rfl ⟨rfl, HF.out⟩
theorem picked_ok (H : Hold W w (poTs p ts)) (F : PFit p) : Calls Try.prog 12 #[.pointer (some ⟨p.g, 0, none⟩)] w fun e w' => e = .returned (.int .i64 (pickL p.L).1) ∧ Keeps nobody w w' := by
  have HP := hid (pick_ok H F)
  have hz : (pickL p.L).2 = false → (pickL p.L).1 = 0 := by
    unfold pickL
    split <;> simp
  clear H F
  generalize pickL p.L = R at *
  obtain ⟨k, b⟩ := R
  simp only at hz HP ⊢
  cases b with
  | true =>
    clear hz
    go_enter Try.func12, Try.ntmps12
    go_wp2_with fail
    refine Calls.mono HP.out ?_
    rintro e w1 ⟨rfl, k1⟩
    go_wp2
    go_ret
    exact ⟨rfl, k1⟩
  | false =>
    obtain rfl := hz rfl
    clear hz
    go_enter Try.func12, Try.ntmps12
    go_wp2_with fail
    refine Calls.mono HP.out ?_
    rintro e w1 ⟨rfl, k1⟩
    go_wp2
    go_ret
    exact ⟨rfl, k1⟩
/-- Where a number is: the first line that has it. -/
def atV (L : List (Nat × Cn)) (k : Int) : Value := .pointer ((L.find? fun q => ((q.1 : Int) == k)).map fun q => ⟨q.2.g, 0, none⟩)
theorem at_here {L : List (Nat × Cn)} {j k : Nat} {s : Cn} (hj : L[j]? = some (k, s)) (hn : ∀ q ∈ L.take j, (q.1 : Int) ≠ k) : atV L k = .pointer (some ⟨s.g, 0, none⟩) := by
  obtain ⟨hlt, he⟩ := List.getElem?_eq_some_iff.1 hj
  have e : L.find? (fun q => ((q.1 : Int) == k)) = some (k, s) := by
    rw [← List.take_append_drop j L, List.find?_append, List.find?_eq_none.2 (fun q hq => by simpa using hn q hq), List.drop_eq_getElem_cons hlt, he]
    simp
  rw [atV, e]
  rfl
theorem at_none {L : List (Nat × Cn)} {k : Int} (hn : ∀ q ∈ L, (q.1 : Int) ≠ k) : atV L k = .pointer none := by
  have e : L.find? (fun q => ((q.1 : Int) == k)) = none := List.find?_eq_none.2 fun q hq => by simpa using hn q hq
  rw [atV, e]
  rfl
set_option maxRecDepth 100000 in
set_option maxHeartbeats 1000000 in
theorem at_ok (H : Hold W w (poTs p ts)) (F : PFit p) (m : Int) : Calls Try.prog 10 #[.pointer (some ⟨p.g, 0, none⟩), .int .i64 m] w fun e w' => e = .returned (atV p.L m) ∧ Keeps nobody w w' := by
  have HL := hid (plines_ok H)
  have HH := hid H
  have hlen := H.len
  have hmax := F.len
  clear H
  obtain ⟨g, ev, wa, mo, la, di, x, n, c, L⟩ := p
  simp only at hlen HL hmax ⊢
  subst hlen
  have HP : Hid (∀ (j k : Nat) (s : Cn), L[j]? = some (k, s) → (k : Int) = m → (∀ q ∈ L.take j, (q.1 : Int) ≠ m) → atV L m = .pointer (some ⟨s.g, 0, none⟩)) := fun j k s hj hk hn => by
    subst hk
    exact at_here hj hn
  have HN : Hid ((∀ q ∈ L, (q.1 : Int) ≠ m) → atV L m = .pointer none) := at_none
  generalize atV L m = R at *
  go_enter Try.func10, Try.ntmps10
  go_wp2_with fail
  refine Calls.mono HL.out ?_
  rintro e w1 ⟨rfl, rfl⟩
  go_wp2
  go_loopg [10] L.length (fun k i wr => ∃ (j : Nat), i = .int .i64 (j : Int) ∧ k + j = L.length ∧ Hid ((∀ q ∈ L.take j, (q.1 : Int) ≠ m) ∧ Keeps nobody w wr))
  case atStart => exact ⟨0, rfl, rfl, by simp, Keeps.refl _ _⟩
  case round =>
    obtain ⟨j, rfl, hk, HI⟩ := hrel
    by_cases hj : j < L.length
    · obtain ⟨⟨k, s⟩, hq⟩ := getsome hj
      have HW := HH.out.quiet HI.out.2
      obtain ⟨rb, hx, hrb, hlc, hcm, d0, d1⟩ := HW.at j k s hq
      simp only at hx hlc hcm
      subst hx
      have HKz := hid (HI.out.2.then (keeps_alloc wr (.cells #[.int .i64 (k : Int), .pointer (some ⟨s.g, 0, none⟩)] 47)))
      have HK := hid hk
      have HP1 := hid (HP.out j k s hq)
      have HT : Hid ((k : Int) ≠ m → ∀ q ∈ L.take (j + 1), (q.1 : Int) ≠ m) := fun h q hm => by
        rw [take_snoc hq] at hm
        rcases List.mem_append.1 hm with hm | hm
        · exact HI.out.1 q hm
        · simp at hm
          rw [hm]
          exact h
      clear hk hq HW
      unfold maxLen at hcm
      by_cases hd : (k : Int) = m
      · have e := HP1.out hd HI.out.1
        subst e
        have hc : ((k : Int) == m) = true := by simp [hd]
        clear hd HT HI HP1 HP HN
        go_wp2
        go_ret
        exact ⟨rfl, HKz.out⟩
      · have hc : ((k : Int) == m) = false := by simp [hd]
        have HT2 := hid (HT.out hd)
        clear hd HT HI HP1
        go_wp2
        have hk := HK.out
        go_roundg (gk - 1)
        case measure => omega
        case rel => exact ⟨j + 1, by simp, by omega, HT2.out, HKz.out⟩
    · have hjl : j = L.length := by omega
      subst hjl
      obtain ⟨h1, h2⟩ := HI.out
      rw [List.take_of_length_le (Nat.le_refl _)] at h1
      have e := HN.out h1
      subst e
      have HF := hid h2
      clear HI h1 h2 hk hj HP HN
      go_wp2
      go_ret
      exact ⟨rfl, HF.out⟩
end
end Go.Proofs.Ytendndokgpppiaa
