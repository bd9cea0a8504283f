/-
  The law QueuePlays, walked.
-/
import Derived.Test.YtkodpoijdaoihaaNPlay
import Derived.Test.YtkodpoijdaoihaaGStr
import Derived.Deep.DeepCutAuto
import Derived.Deep.CutBlock
import Derived.Deep.RegionHeld3
import Derived.Deep.RegionLaw
import Derived.BigQuiet
namespace Go.Proofs.Ytkodpoijdaoihaa
open Go.RowKit

set_option maxRecDepth 100000 in
theorem plays_nil (most : Int) (a : Option Addr) (cap : Nat) (l : List (Int × Int)) (w : World) (hl : l.length ≤ 120) (h : most < 1) : Calls Try.prog 3 #[.int .i64 most, .slice a l.length cap] w (Fine w) := by
  have HA : Hid (∀ W, Calls Try.prog 7 #[] W fun e w' => e = .returned (.bool true) ∧ Keeps nobody W w') := alive_ok
  have HN : Hid (∀ W, Calls Try.prog 8 #[.int .i64 most] W fun e w' => e = .returned (.pointer none) ∧ W = w') := fun W => new_no most W h
  have H1 : Hid (∀ W, Calls Try.prog 9 #[.pointer none] W fun e w' => e = .returned (.tuple #[.int .i64 0, .bool false]) ∧ W = w') := nil_first
  have H2 : Hid (∀ W, Calls Try.prog 10 #[.pointer none, .int .i64 1] W fun e w' => e = .returned (.int .i64 8) ∧ W = w') := nil_put 1
  have H3 : Hid (∀ W, Calls Try.prog 11 #[.pointer none, .int .i64 1] W fun e w' => e = .returned (.int .i64 8) ∧ W = w') := nil_back 1
  have H4 : Hid (∀ W, Calls Try.prog 12 #[.pointer none, .int .i64 1] W fun e w' => e = .returned (.bool false) ∧ W = w') := nil_cut 1
  have H5 : Hid (∀ W, Calls Try.prog 13 #[.pointer none, .int .i64 1] W fun e w' => e = .returned (.int .i64 (-1)) ∧ W = w') := nil_place 1
  have H6 : Hid (∀ W, Calls Try.prog 14 #[.pointer none] W fun e w' => e = .returned (.slice none 0 0) ∧ W = w') := nil_all
  go_enter Try.func3, Try.ntmps3
  go_wp2_with fail
  refine Calls.mono (HA.out _) ?_
  rintro e w0 ⟨rfl, k0⟩
  have K0 := hid k0
  go_wp2_with fail
  refine Calls.mono (HN.out _) ?_
  rintro e w1 ⟨rfl, rfl⟩
  go_wp2_with fail
  refine Calls.mono (H1.out _) ?_
  rintro e w2 ⟨rfl, rfl⟩
  go_wp2_with fail
  refine Calls.mono (H2.out _) ?_
  rintro e w3 ⟨rfl, rfl⟩
  go_wp2_with fail
  refine Calls.mono (H3.out _) ?_
  rintro e w4 ⟨rfl, rfl⟩
  go_wp2_with fail
  refine Calls.mono (H4.out _) ?_
  rintro e w5 ⟨rfl, rfl⟩
  go_wp2_with fail
  refine Calls.mono (H5.out _) ?_
  rintro e w6 ⟨rfl, rfl⟩
  go_wp2_with fail
  refine Calls.mono (H6.out _) ?_
  rintro e w7 ⟨rfl, rfl⟩
  go_wp2
  go_ret
  exact ⟨rfl, below_of_keeps K0.out⟩
set_option maxRecDepth 100000 in
theorem plays_bad (most : Int) (a : Option Addr) (cap : Nat) (l : List (Int × Int)) (w : World) (h : 120 < l.length) : Calls Try.prog 3 #[.int .i64 most, .slice a l.length cap] w (Fine w) := by
  have HA : Hid (∀ W, Calls Try.prog 7 #[] W fun e w' => e = .returned (.bool true) ∧ Keeps nobody W w') := alive_ok
  go_enter Try.func3, Try.ntmps3
  go_wp2_with fail
  refine Calls.mono (HA.out _) ?_
  rintro e w0 ⟨rfl, k0⟩
  go_wp2
  go_ret
  exact ⟨rfl, below_of_keeps k0⟩
theorem cut_nodup {L : List Int} {id : Int} (h : L.Nodup) : (cutQ L id).Nodup := List.Nodup.erase _ h
theorem cut_less {L : List Int} {id : Int} (h : id ∈ L) : (cutQ L id).length + 1 = L.length := by
  have := List.length_pos_of_mem h
  rw [cutQ, List.length_erase_of_mem h]
  omega
theorem cut_eq (L : List Int) (id : Int) : cutQ L id = L.erase id := rfl
theorem cut_none {L : List Int} {id : Int} (h : ¬ id ∈ L) : cutQ L id = L := List.erase_of_not_mem h
/-- One ahead of the law's own list. -/
theorem r_ahead {W w : World} {g : Nat} {most : Int} {l L : List Int} {t B : Thing} {x : Option Addr} {n c : Nat} (H : HQ W w g most l [t, numT x n c L, B]) (hn : n = L.length) (hl : n ≤ 1000) (id : Int) :
    ∃ y d v, (Builtin.append_ #[32, 32] 32 #[.slice (some ⟨w.heap.size, 0, none⟩) 1 1, .slice x n c]).run Try.prog (w.alloc (.cells #[.int .i64 id] 3)) = .ok (.slice y (n + 1) d) v ∧ Hid (HQ W v g most l [numT y (n + 1) d (id :: L), t, numT x n c L, B]) := by
  subst hn
  have H1 := num_one (hold_nil (Below.refl _ w)) id
  obtain ⟨y, d, v, r, R⟩ := num_behind H1 ((H.lies (x := x) (n := L.length) (c := c) (L := L) (by simp)).quiet (keeps_alloc _ _)) L.length c rfl (by simp; omega)
  have e : [id].length + L.length = L.length + 1 := by simp; omega
  rw [e] at r R
  exact ⟨y, d, v, r, H.join R.out⟩
attribute [local irreducible] mayQ putQ backQ cutQ placeQ atQ
set_option maxRecDepth 100000 in
set_option maxHeartbeats 8000000 in
theorem plays_main (most : Int) (a : Option Addr) (cap : Nat) (l : List (Int × Int)) (w : World) (hO : Hid (OLies w a l nobody)) (hl : l.length ≤ 120) (h1 : 1 ≤ most) : Calls Try.prog 3 #[.int .i64 most, .slice a l.length cap] w (Fine w) := by
  have HA : Hid (∀ W, Calls Try.prog 7 #[] W fun e w' => e = .returned (.bool true) ∧ Keeps nobody W w') := alive_ok
  have HN0 : Hid (∀ W, Hold w W [] → Calls Try.prog 8 #[.int .i64 most] W fun e w' => ∃ g, e = .returned (.pointer (some ⟨g, 0, none⟩)) ∧ Hid (HQ w w' g most [] [])) := fun W H => t_new H most h1
  go_enter Try.func3, Try.ntmps3
  go_wp2_with fail
  refine Calls.mono (HA.out _) ?_
  rintro e w0 ⟨rfl, k0⟩
  have H0 := hid ((hold_start w).quiet k0)
  clear HA k0
  go_wp2_with fail
  refine Calls.mono (HN0.out _ H0.out) ?_
  rintro e w1 ⟨g, rfl, H1⟩
  clear H0 HN0
  have HS := hid (t_start H1.out)
  clear H1
  go_wp2_with fail
  obtain ⟨kb, hkb⟩ : ∃ k, k = w1.heap.size := ⟨_, rfl⟩
  rw [← hkb] at HS
  rw [← hkb]
  clear hkb
  go_loopg [9, 75] l.length (fun q rv iv wr => ∃ (j : Nat) (L : List Int) (x : Option Addr) (c : Nat) (fv wv : Value) (fs ws : List PL), rv = .slice x L.length c ∧ iv = .int .i64 (j : Int) ∧ q + j = l.length ∧ Hid (L.Nodup ∧ L.length ≤ j ∧ fs.length = j ∧ HQ w wr g most L [numT x L.length c L, bkT kb fv wv fs ws]))
  case atStart => exact ⟨0, [], none, 0, _, _, [], [], rfl, rfl, rfl, List.nodup_nil, Nat.le_refl _, rfl, HS.out⟩
  case round =>
    clear HS
    obtain ⟨j, L, x, c, fv, wv, fs, ws, rfl, rfl, hk, HJ⟩ := hrel
    by_cases hj : j < l.length
    · obtain ⟨b, off, rfl, hb, _, c0, c1⟩ := (hO.out.quiet (keeps_of_below HJ.out.2.2.2.below)).at j hj
      generalize l[j]'hj = f at *
      obtain ⟨kd, id⟩ := f
      simp only at c0 c1
      obtain ⟨n, hn⟩ : ∃ n, n = L.length := ⟨_, rfl⟩
      obtain ⟨B, hB⟩ : ∃ B, B = bkT kb fv wv fs ws := ⟨_, rfl⟩
      have hn120 : n ≤ 120 := by have := HJ.out.2.1; omega
      have hnI : (n : Int) ≤ 120 := by omega
      have HD := hid HJ.out.1
      have HLj : Hid (L.length ≤ j) := HJ.out.2.1
      have HFJ : Hid (fs.length = j ∧ B = bkT kb fv wv fs ws ∧ j ≤ 120) := ⟨HJ.out.2.2.1, hB, by omega⟩
      have HN := hid hn
      have H2 : Hid (HQ w (wr.alloc (.cells #[.int .i64 kd, .int .i64 id] 43)) g most L [recT wr.heap.size #[.int .i64 kd, .int .i64 id] 43, numT x n c L, B]) := by
        rw [hn, hB]
        exact HJ.out.2.2.2.op #[.int .i64 kd, .int .i64 id] 43
      have HK : Hid (gk + j = l.length) := hk
      rw [← hn]
      clear hk HJ hB hn
      obtain ⟨gk0, rfl⟩ : ∃ g, g = gk := ⟨gk, rfl⟩
      go_wp2_with fail
      obtain ⟨ob, hob⟩ : ∃ k, k = wr.heap.size := ⟨_, rfl⟩
      rw [← hob] at H2
      rw [← hob]
      generalize wr.alloc (.cells #[.int .i64 kd, .int .i64 id] 43) = wo at *
      clear hob c0 c1 hb
      obtain ⟨o0, o1, hob⟩ := H2.out.opcells (ob := ob) (kd := kd) (id := id) (T := 43) (by simp)
      go_loopg [13, 81] n (fun q av iv wr => ∃ i : Nat, av = .int .i64 (atQ L id i) ∧ iv = .int .i64 (i : Int) ∧ q + i = n ∧ wr = wo)
      case atStart => exact ⟨0, by rw [at_zero], rfl, rfl, rfl⟩
      case round =>
        obtain ⟨i, rfl, rfl, hq, rfl⟩ := hrel
        by_cases hi : i < n
        · have hin : i < L.length := by rw [← HN.out]; exact hi
          obtain ⟨y, hy⟩ : ∃ y, L[i]? = some y := ⟨_, List.getElem?_eq_getElem hin⟩
          have ho := H2.out.own (x := x) (n := n) (c := c) (L := L) (by simp)
          have ho' := ho
          obtain ⟨rb, rfl, _, _, hcap, hmax⟩ := own_some ho (Nat.zero_lt_of_lt hin)
          unfold maxLen at hmax
          have hcell := num_cell ho' i y hy
          have hcap' : n ≤ c := by rw [HN.out]; exact hcap
          have HQ0 := hid hq
          have hiI : (i : Int) ≤ 120 := by omega
          by_cases hyd : y = id
          · subst hyd
            have HE := hid (at_hit HD.out hy)
            clear hq ho ho' hy hcap hin
            go_wp2
            have hk := HQ0.out
            go_roundg (gk - 1)
            case measure => omega
            case rel => exact ⟨i + 1, by rw [HE.out], by simp, by omega, rfl⟩
          · have HE := hid (at_miss hy hyd)
            have hyd' : (y == id) = false := by simpa using hyd
            clear hq ho ho' hy hcap hin
            go_wp2
            have hk := HQ0.out
            go_roundg (gk - 1)
            case measure => omega
            case rel => exact ⟨i + 1, by rw [HE.out], by simp, by omega, rfl⟩
        · have hpl : placeQ L id = atQ L id i := (at_end (by rw [← HN.out]; omega)).symm
          have hat : (id ∈ L ∧ ∃ i0 : Nat, atQ L id i = (i0 : Int) ∧ i0 < L.length ∧ L[i0]? = some id ∧ L.take i0 ++ L.drop (i0 + 1) = L.erase id) ∨ (¬ id ∈ L ∧ atQ L id i = -1) := by
            rw [← hpl]
            by_cases hm : id ∈ L
            · obtain ⟨i0, e1, e2⟩ := place_in hm
              exact .inl ⟨hm, i0, e1, e2⟩
            · exact .inr ⟨hm, place_out hm⟩
          generalize atQ L id i = at' at *
          go_upto_block 4 with fail
          clear hq hi
          go_cut [9] (fun rv wx => ∃ L' x' c', rv = .slice x' L'.length c' ∧ L'.Nodup ∧ L'.length ≤ j + 1 ∧ HQ w wx g most L' [numT x' L'.length c' L', B])
          case first =>
            by_cases k1 : kd = 1
            · subst k1
              have hn : n = L.length := HN.out
              rcases hat with ⟨hm, i0, rfl, hi1, hi2, hi3⟩ | ⟨hm, rfl⟩
              · have hP := hid (fun W H => t_put (W := w) (w := W) (g := g) (most := most) (l := L) (ts := [recT ob #[.int .i64 1, .int .i64 id] 43, numT x n c L, B]) H (by omega) id (may_in hm) (put_no (by rw [may_in hm]; decide)))
                have hi0 : (0 : Int) ≤ (i0 : Int) := Int.natCast_nonneg i0
                clear hi1 hi2 hi3 hm hn
                go_wp2_with fail
                refine Calls.mono (hP.out _ H2.out) ?_
                rintro e w4 ⟨rfl, H4⟩
                obtain ⟨p0, p1, _⟩ := H4.out.opcells (ob := ob) (kd := 1) (id := id) (T := 43) (by simp)
                go_wp2_with fail
                go_meet
                exact ⟨L, x, c, by rw [HN.out], HD.out, Nat.le_succ_of_le HLj.out, by rw [← HN.out]; exact H4.out.sub (List.Sublist.cons _ (List.Sublist.refl _))⟩
              · by_cases hf : most ≤ (n : Int)
                · have hP := hid (fun W H => t_put (W := w) (w := W) (g := g) (most := most) (l := L) (ts := [recT ob #[.int .i64 1, .int .i64 id] 43, numT x n c L, B]) H (by omega) id (may_full hm (by omega)) (put_no (by rw [may_full hm (by omega)]; decide)))
                  clear hm hn
                  go_wp2_with fail
                  refine Calls.mono (hP.out _ H2.out) ?_
                  rintro e w4 ⟨rfl, H4⟩
                  obtain ⟨p0, p1, _⟩ := H4.out.opcells (ob := ob) (kd := 1) (id := id) (T := 43) (by simp)
                  go_wp2_with fail
                  go_meet
                  exact ⟨L, x, c, by rw [HN.out], HD.out, Nat.le_succ_of_le HLj.out, by rw [← HN.out]; exact H4.out.sub (List.Sublist.cons _ (List.Sublist.refl _))⟩
                · have hP := hid (fun W y2 d2 H => t_put (W := w) (w := W) (g := g) (most := most) (l := L) (ts := [numT y2 (n + 1) d2 (L ++ [id]), recT ob #[.int .i64 1, .int .i64 id] 43, numT x n c L, B]) H (by omega) id (may_yes hm (by omega)) (put_yes (may_yes hm (by omega))))
                  have HL2 : Hid ((L ++ [id]).Nodup ∧ (L ++ [id]).length = n + 1) := ⟨nodup_more HD.out hm, by rw [List.length_append, hn]; rfl⟩
                  obtain ⟨o0, o1, hob⟩ := H2.out.opcells (ob := ob) (kd := 1) (id := id) (T := 43) (by simp)
                  have HW := hid (H2.out.quiet (Keeps.refl _ _).drew)
                  have LI : numR.Lies wr.drew x L nobody := HW.out.lies (x := x) (n := n) (c := c) (L := L) (by simp)
                  have hLn : L.length = n := hn.symm
                  obtain ⟨x1, d1, v1, r1, R1⟩ := num_copied LI c (by omega)
                  obtain ⟨y2, d2, v2, r2, R2⟩ := num_behind (R1.out.quiet (keeps_alloc _ _)) (num_lit (w := v1) [id] #[.int .i64 id] rfl) 1 1 rfl (by omega)
                  obtain ⟨x3, d3, v3, r3, R3⟩ := num_copied (LI.quiet (keeps_alloc wr.drew (.cells #[.int .i64 id] 3))) c (by omega)
                  have LF := (num_lit (w := wr.drew) [id] #[.int .i64 id] rfl).quiet (keeps_of_below R3.out.below)
                  obtain ⟨y4, d4, v4, r4, R4⟩ := num_behind R3.out LF 1 1 rfl (by omega)
                  rw [hLn] at r1 r2 r3 r4
                  have HX := HW.out.join R2.out
                  have HY := (HW.out.quiet (keeps_alloc _ _)).join R4.out
                  have q1 := keeps_of_below R1.out.below
                  have q2 := keeps_of_below R2.out.below
                  have q3 := (keeps_alloc wr.drew (.cells #[.int .i64 id] 3)).then (keeps_of_below R3.out.below)
                  have q4 := (keeps_alloc wr.drew (.cells #[.int .i64 id] 3)).then (keeps_of_below R4.out.below)
                  have E1 : Hid (v1.cell? ⟨ob, 1, none⟩ = some (.int .i64 id)) := (q1.cell (p := ⟨ob, 1, none⟩) hob fun e => e).trans o1
                  have E2 : Hid (v2.cell? ⟨ob, 1, none⟩ = some (.int .i64 id)) := (q2.cell (p := ⟨ob, 1, none⟩) hob fun e => e).trans o1
                  have E3 : Hid (v3.cell? ⟨ob, 1, none⟩ = some (.int .i64 id)) := (q3.cell (p := ⟨ob, 1, none⟩) hob fun e => e).trans o1
                  have E4 : Hid (v4.cell? ⟨ob, 1, none⟩ = some (.int .i64 id)) := (q4.cell (p := ⟨ob, 1, none⟩) hob fun e => e).trans o1
                  rw [hLn] at HX HY
                  have RR1 := hid r1
                  have RR2 := hid r2
                  have RR3 := hid r3
                  have RR4 := hid r4
                  have HX := hid HX
                  have HY := hid HY
                  clear r1 r2 r3 r4 LF LI R1 R2 R3 R4 q1 q2 q3 q4 HW hm hLn hn
                  go_wp2_with fail
                  go_region_held3 (fun w' => w'.cell? ⟨ob, 1, none⟩ = some (.int .i64 id)) (first | exact E1.out | exact E2.out | exact E3.out | exact E4.out | go_keep) ((first | (refine step_append_run rfl (.const (.slice none 0 0)) (.tmp 114) 32 32 rfl (.slice none 0 0) (.slice x n c) (by rfl) (by rfl) (by first | exact RR1.out | exact RR3.out) ?_) | (refine step_append_run rfl (.tmp 115) (.tmp 118) 32 32 rfl (.slice x1 n d1) (.slice (some ⟨v1.heap.size, 0, none⟩) 1 1) (by rfl) (by rfl) RR2.out ?_) | (refine step_append_run rfl (.tmp 115) (.tmp 118) 32 32 rfl (.slice x3 n d3) (.slice (some ⟨wr.heap.size, 0, none⟩) 1 1) (by rfl) (by rfl) RR4.out ?_)))
                  · obtain ⟨p0, p1, _⟩ := HX.out.opcells (ob := ob) (kd := 1) (id := id) (T := 43) (by simp)
                    go_wp2_with fail
                    refine Calls.mono (hP.out _ _ _ HX.out) ?_
                    rintro e w4 ⟨rfl, H4⟩
                    obtain ⟨p0, p1, _⟩ := H4.out.opcells (ob := ob) (kd := 1) (id := id) (T := 43) (by simp)
                    go_wp2_with fail
                    go_meet
                    exact ⟨L ++ [id], y2, d2, by rw [HL2.out.2], HL2.out.1, by rw [HL2.out.2]; have := HLj.out; have := HN.out; omega, by rw [HL2.out.2]; exact H4.out.sub (List.Sublist.cons_cons _ (List.Sublist.cons _ (List.Sublist.cons _ (List.Sublist.refl _))))⟩
                  · obtain ⟨p0, p1, _⟩ := HY.out.opcells (ob := ob) (kd := 1) (id := id) (T := 43) (by simp)
                    go_wp2_with fail
                    refine Calls.mono (hP.out _ _ _ HY.out) ?_
                    rintro e w4 ⟨rfl, H4⟩
                    obtain ⟨p0, p1, _⟩ := H4.out.opcells (ob := ob) (kd := 1) (id := id) (T := 43) (by simp)
                    go_wp2_with fail
                    go_meet
                    exact ⟨L ++ [id], y4, d4, by rw [HL2.out.2], HL2.out.1, by rw [HL2.out.2]; have := HLj.out; have := HN.out; omega, by rw [HL2.out.2]; exact H4.out.sub (List.Sublist.cons_cons _ (List.Sublist.cons _ (List.Sublist.cons _ (List.Sublist.refl _))))⟩
            · have q1 : (kd == 1) = false := by simpa using k1
              by_cases k2 : kd = 2
              · subst k2
                have hn : n = L.length := HN.out
                rcases hat with ⟨hm, i0, rfl, hi1, hi2, hi3⟩ | ⟨hm, rfl⟩
                · have hP := hid (fun W H => t_back (W := w) (w := W) (g := g) (most := most) (l := L) (ts := [recT ob #[.int .i64 2, .int .i64 id] 43, numT x n c L, B]) H (by omega) id (may_in hm) (back_no (by rw [may_in hm]; decide)))
                  have hi0 : (0 : Int) ≤ (i0 : Int) := Int.natCast_nonneg i0
                  clear hi1 hi2 hi3 hm hn
                  go_wp2_with fail
                  refine Calls.mono (hP.out _ H2.out) ?_
                  rintro e w4 ⟨rfl, H4⟩
                  obtain ⟨p0, p1, _⟩ := H4.out.opcells (ob := ob) (kd := 2) (id := id) (T := 43) (by simp)
                  go_wp2_with fail
                  go_meet
                  exact ⟨L, x, c, by rw [HN.out], HD.out, Nat.le_succ_of_le HLj.out, by rw [← HN.out]; exact H4.out.sub (List.Sublist.cons _ (List.Sublist.refl _))⟩
                · by_cases hf : most ≤ (n : Int)
                  · have hP := hid (fun W H => t_back (W := w) (w := W) (g := g) (most := most) (l := L) (ts := [recT ob #[.int .i64 2, .int .i64 id] 43, numT x n c L, B]) H (by omega) id (may_full hm (by omega)) (back_no (by rw [may_full hm (by omega)]; decide)))
                    clear hm hn
                    go_wp2_with fail
                    refine Calls.mono (hP.out _ H2.out) ?_
                    rintro e w4 ⟨rfl, H4⟩
                    obtain ⟨p0, p1, _⟩ := H4.out.opcells (ob := ob) (kd := 2) (id := id) (T := 43) (by simp)
                    go_wp2_with fail
                    go_meet
                    exact ⟨L, x, c, by rw [HN.out], HD.out, Nat.le_succ_of_le HLj.out, by rw [← HN.out]; exact H4.out.sub (List.Sublist.cons _ (List.Sublist.refl _))⟩
                  · have hP := hid (fun W y2 d2 H => t_back (W := w) (w := W) (g := g) (most := most) (l := L) (ts := [numT y2 (n + 1) d2 (id :: L), recT ob #[.int .i64 2, .int .i64 id] 43, numT x n c L, B]) H (by omega) id (may_yes hm (by omega)) (back_yes (may_yes hm (by omega))))
                    have HL2 : Hid ((id :: L).Nodup ∧ (id :: L).length = n + 1) := ⟨List.nodup_cons.2 ⟨hm, HD.out⟩, by rw [List.length_cons, hn]⟩
                    obtain ⟨o0, o1, hob⟩ := H2.out.opcells (ob := ob) (kd := 2) (id := id) (T := 43) (by simp)
                    obtain ⟨y2, d2, v2, r2, R2⟩ := r_ahead H2.out hn (by omega) id
                    obtain ⟨p0, p1, _⟩ := R2.out.opcells (ob := ob) (kd := 2) (id := id) (T := 43) (by simp)
                    have RR2 := hid r2
                    clear r2 hm hn
                    go_wp2_with (at_builtin; refine wpList_append_run rfl _ _ 32 32 rfl _ _ rfl rfl RR2.out ?_)
                    refine Calls.mono (hP.out _ _ _ R2.out) ?_
                    rintro e w4 ⟨rfl, H4⟩
                    go_wp2_with fail
                    go_meet
                    exact ⟨id :: L, y2, d2, by rw [HL2.out.2], HL2.out.1, by rw [HL2.out.2]; have := HLj.out; have := HN.out; omega, by rw [HL2.out.2]; exact H4.out.sub (List.Sublist.cons_cons _ (List.Sublist.cons _ (List.Sublist.cons _ (List.Sublist.refl _))))⟩
              · have q2 : (kd == 2) = false := by simpa using k2
                by_cases k3 : kd = 3
                · subst k3
                  have hn : n = L.length := HN.out
                  cases hL : L with
                  | nil =>
                    subst hL
                    obtain rfl : n = 0 := hn
                    have hF := hid (t_first0 H2.out)
                    clear hat
                    go_wp2_with fail
                    refine Calls.mono hF.out ?_
                    rintro e w4 ⟨rfl, rfl⟩
                    go_wp2_with fail
                    go_meet
                    exact ⟨[], x, c, rfl, HD.out, Nat.le_succ_of_le HLj.out, H2.out.sub (List.Sublist.cons _ (List.Sublist.refl _))⟩
                  | cons y t =>
                    subst hL
                    have hnt : n = t.length + 1 := hn
                    have hF := hid (t_first H2.out (by omega))
                    have HD2 : Hid (t.Nodup ∧ n = t.length + 1) := ⟨(List.nodup_cons.1 HD.out).2, hnt⟩
                    have ho := H2.out.own (x := x) (n := n) (c := c) (L := y :: t) (by simp)
                    have ho' := ho
                    obtain ⟨rb, rfl, _, _, hcap, hmax⟩ := own_some ho (by rw [← hn]; omega)
                    unfold maxLen at hmax
                    have hcap' : n ≤ c := by rw [hn]; exact hcap
                    have hn1 : 0 < (n : Int) := by omega
                    obtain ⟨m, hm⟩ : ∃ m, 1 + m = n := ⟨n - 1, by omega⟩
                    obtain ⟨d, hd⟩ : ∃ d, 1 + d = c := ⟨c - 1, by omega⟩
                    obtain ⟨off1, hs, hback⟩ := back_at rb n c 1 m d (y :: t) hm hd
                    have hback := hid hback
                    have HM := hid hm
                    clear hm hd
                    simp only [Int.natCast_one] at hs
                    clear hat ho hcap hn hnt
                    go_wp2_with fail
                    refine Calls.mono hF.out ?_
                    rintro e w4 ⟨rfl, H4⟩
                    have ho4 := H4.out.own (x := some ⟨rb, 0, none⟩) (n := n) (c := c) (L := y :: t) (by simp)
                    have hy0 := num_cell ho4 0 y rfl
                    obtain ⟨y2, d2, v2, r2, R2⟩ := num_copied (hback.out _ ho4) d (by rw [List.length_drop, List.length_cons]; have := HD2.out.2; omega)
                    have e1 : (y :: t).drop 1 = t := rfl
                    have e2 : t.length = m := by have := HD2.out.2; have := HM.out; omega
                    rw [e1, e2] at r2 R2
                    have HX := H4.out.join R2.out
                    have RR2 := hid r2
                    have HX := hid HX
                    clear r2 R2 e1 e2 ho' ho4 hF
                    go_wp2_with (at_builtin; refine wpList_append_run rfl _ _ 32 32 rfl _ _ rfl rfl RR2.out ?_)
                    go_meet
                    exact ⟨t, y2, d2, by rw [show t.length = m by have := HD2.out.2; have := HM.out; omega], HD2.out.1, by have := HD2.out.2; have := HLj.out; simp only [List.length_cons] at this; omega, by rw [show t.length = m by have := HD2.out.2; have := HM.out; omega]; exact HX.out.sub (List.Sublist.cons_cons _ (List.Sublist.cons _ (List.Sublist.cons _ (List.Sublist.refl _))))⟩
                · have q3 : (kd == 3) = false := by simpa using k3
                  by_cases k4 : kd = 4
                  · subst k4
                    have hn : n = L.length := HN.out
                    rcases hat with ⟨hm, i0, rfl, hi1, hi2, hi3⟩ | ⟨hm, rfl⟩
                    · have hC := hid (t_cut H2.out (by omega) id (decide_eq_true hm) rfl)
                      have HL2 : Hid ((cutQ L id).Nodup ∧ (cutQ L id).length + 1 = n ∧ cutQ L id = L.take i0 ++ L.drop (i0 + 1)) := ⟨cut_nodup HD.out, by rw [cut_less hm, hn], (cut_eq L id).trans hi3.symm⟩
                      have ho := H2.out.own (x := x) (n := n) (c := c) (L := L) (by simp)
                      obtain ⟨rb, rfl, _, _, hcap, hmax⟩ := own_some ho (by omega)
                      unfold maxLen at hmax
                      have hin : i0 < n := by rw [hn]; exact hi1
                      have hcap' : n ≤ c := by rw [hn]; exact hcap
                      have hi0 : (0 : Int) ≤ (i0 : Int) := Int.natCast_nonneg i0
                      have hiI : (i0 : Int) ≤ 120 := by omega
                      have hw1 : IntKind.i64.wrap ((i0 : Int) + 1) = (i0 : Int) + 1 := by
                        simp [IntKind.wrap, IntKind.bits, IntKind.signed]
                        omega
                      have hs1 := slice_front rb n c i0 (by omega)
                      obtain ⟨m, hmn⟩ : ∃ m, i0 + 1 + m = n := ⟨n - (i0 + 1), by omega⟩
                      obtain ⟨d, hd⟩ : ∃ d, i0 + 1 + d = c := ⟨c - (i0 + 1), by omega⟩
                      obtain ⟨off1, hs2, hback⟩ := back_at rb n c (i0 + 1) m d L hmn hd
                      simp only [Int.natCast_add, Int.natCast_one] at hs2
                      have hback := hid hback
                      have HM := hid hmn
                      clear hmn hd
                      clear hi1 hi2 hi3 hm ho hcap hn
                      go_wp2_with fail
                      refine Calls.mono hC.out ?_
                      rintro e w4 ⟨rfl, H4⟩
                      have HW := hid (H4.out.quiet (Keeps.refl _ _).drew)
                      have ho4 := HW.out.own (x := some ⟨rb, 0, none⟩) (n := n) (c := c) (L := L) (by simp)
                      have e1 : (L.take i0).length = i0 := by rw [List.length_take]; have := HN.out; omega
                      have e2 : (L.drop (i0 + 1)).length = m := by rw [List.length_drop, ← HN.out]; have := HM.out; omega
                      obtain ⟨x1, d1, v1, r1, R1⟩ := num_copied (front_lies (i := i0) ho4) c (by omega)
                      obtain ⟨y2, d2, v2, r2, R2⟩ := num_behind R1.out ((hback.out _ ho4).quiet (keeps_of_below R1.out.below)) m d e2 (by rw [e1]; have := HM.out; omega)
                      rw [e1] at r1 r2 R2
                      rw [← HL2.out.2.2] at R2
                      obtain ⟨o0', o1', hob'⟩ := H4.out.opcells (ob := ob) (kd := 4) (id := id) (T := 43) (by simp)
                      have E1 : Hid (v1.cell? ⟨ob, 1, none⟩ = some (.int .i64 id)) := ((keeps_of_below R1.out.below).cell (p := ⟨ob, 1, none⟩) hob' fun e => e).trans o1'
                      have E2 : Hid (v2.cell? ⟨ob, 1, none⟩ = some (.int .i64 id)) := ((keeps_of_below R2.out.below).cell (p := ⟨ob, 1, none⟩) hob' fun e => e).trans o1'
                      have HX := hid (HW.out.join R2.out)
                      have RR1 := hid r1
                      have RR2 := hid r2
                      clear r1 r2 R1 R2 e1 e2 ho4 hC HW
                      go_wp2_with fail
                      go_region_held3 (fun w' => w'.cell? ⟨ob, 1, none⟩ = some (.int .i64 id)) (first | exact E1.out | exact E2.out | go_keep) ((first | (refine step_append_run rfl (.const (.slice none 0 0)) (.tmp 191) 32 32 rfl (.slice none 0 0) (.slice (some ⟨rb, 0, none⟩) i0 c) (by rfl) (by rfl) RR1.out ?_) | (refine step_append_run rfl (.tmp 192) (.tmp 196) 32 32 rfl (.slice x1 i0 d1) (.slice (some ⟨rb, off1, none⟩) m d) (by rfl) (by rfl) RR2.out ?_)))
                      all_goals
                        go_wp2_with fail
                        go_meet
                        exact ⟨cutQ L id, y2, d2, by rw [show (cutQ L id).length = i0 + m by have := HL2.out.2.1; have := HM.out; omega], HL2.out.1, by have := HL2.out.2.1; have := HLj.out; have := HN.out; omega, by rw [show (cutQ L id).length = i0 + m by have := HL2.out.2.1; have := HM.out; omega]; exact HX.out.sub (List.Sublist.cons_cons _ (List.Sublist.cons _ (List.Sublist.cons _ (List.Sublist.refl _))))⟩
                    · have hC := hid (t_cut H2.out (by omega) id (decide_eq_false hm) (cut_none hm))
                      clear hm hn
                      go_wp2_with fail
                      refine Calls.mono hC.out ?_
                      rintro e w4 ⟨rfl, H4⟩
                      go_wp2_with fail
                      go_meet
                      exact ⟨L, x, c, by rw [HN.out], HD.out, Nat.le_succ_of_le HLj.out, by rw [← HN.out]; exact H4.out.sub (List.Sublist.cons _ (List.Sublist.refl _))⟩
                  · have q4 : (kd == 4) = false := by simpa using k4
                    by_cases k5 : kd = 5
                    · subst k5
                      have hP := hid (t_place H2.out id hpl)
                      clear hat
                      go_wp2_with fail
                      refine Calls.mono hP.out ?_
                      rintro e w4 ⟨rfl, rfl⟩
                      go_wp2_with fail
                      go_meet
                      exact ⟨L, x, c, by rw [HN.out], HD.out, Nat.le_succ_of_le HLj.out, by rw [← HN.out]; exact H2.out.sub (List.Sublist.cons _ (List.Sublist.refl _))⟩
                    · have q5 : (kd == 5) = false := by simpa using k5
                      go_wp2_with fail
                      go_meet
                      exact ⟨L, x, c, by rw [HN.out], HD.out, Nat.le_succ_of_le HLj.out, by rw [← HN.out]; exact H2.out.sub (List.Sublist.cons _ (List.Sublist.refl _))⟩
          case rest =>
            obtain ⟨L', x', c', rfl, hD', hl', HC⟩ := hcut
            have hL121 : L'.length ≤ 121 := by have := HFJ.out.2.2; omega
            have HC' := hid HC
            rw [HFJ.out.2.1] at HC'
            have hAll := hid (t_all HC'.out (by omega))
            have hKp := hid (fun W xa ca H => t_keep (W := w) (w := W) (g := g) (most := most) (l := L') (kb := kb) (fv := fv) (wv := wv) (fs := fs) (ws := ws) (x := x') (xa := xa) (n := L'.length) (c := c') (ca := ca) H (by omega) (by have := HFJ.out.1; have := HFJ.out.2.2; omega))
            have HD' : Hid (L'.Nodup ∧ L'.length ≤ j + 1) := ⟨hD', hl'⟩
            have hSm := hid (fun W xa ca fv wv ws' H => t_same (W := w) (w := W) (g := g) (most := most) (l := L') (kb := kb) (fv := fv) (wv := wv) (fs := fs) (ws' := ws') (x := x') (xa := xa) (n := L'.length) (c := c') (ca := ca) H (by omega))
            clear hat hpl HC HC' HD H2 o0 o1 hob hD' hl' HN
            go_wp2_with fail
            refine Calls.mono hAll.out ?_
            rintro e w5 ⟨xa, ca, rfl, H5⟩
            go_wp2_with fail
            refine Calls.mono (hKp.out _ _ _ H5.out) ?_
            rintro e w6 ⟨rfl, H6⟩
            obtain ⟨fv', wv', cv, H6⟩ := H6.out
            go_wp2_with fail
            refine Calls.mono (hSm.out _ _ _ _ _ _ H6) ?_
            rintro e w7 ⟨rfl, H7⟩
            go_wp2
            have hk := HK.out
            go_roundg (gk0 - 1)
            case measure => omega
            case rel => exact ⟨j + 1, L', x', c', _, _, _, _, rfl, by simp, by omega, HD'.out.1, HD'.out.2, by rw [List.length_append, HFJ.out.1]; rfl, H7.out⟩
    · have hAp := hid (t_apart HJ.out.2.2.2 (by have := HJ.out.2.2.1; omega))
      clear HJ hk
      go_wp2_with fail
      refine Calls.mono hAp.out ?_
      rintro e w4 ⟨rfl, hB⟩
      go_wp2
      go_ret
      exact ⟨rfl, hB⟩
theorem plays_walk (most : Int) (a : Option Addr) (cap : Nat) (l : List (Int × Int)) (w : World) (hO : Ops w a cap l) : Calls Try.prog 3 #[.int .i64 most, .slice a l.length cap] w (Fine w) := by
  obtain ⟨hp, _, _⟩ := hO
  by_cases hl : 120 < l.length
  · exact plays_bad most a cap l w hl
  · by_cases h : most < 1
    · exact plays_nil most a cap l w (by omega) h
    · exact plays_main most a cap l w hp (by omega) (by omega)
end Go.Proofs.Ytkodpoijdaoihaa
