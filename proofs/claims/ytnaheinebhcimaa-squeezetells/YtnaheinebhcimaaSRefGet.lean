/-
  The reference's Unsqueeze.
-/
import Derived.Test.YtnaheinebhcimaaSBitSpec
import Derived.Deep.OwnRows
import Derived.Laws.OwnMore
namespace Go.Proofs.Ytnaheinebhcimaa
open Go.RowKit
attribute [local irreducible] bitsN bitsV code nb val8 lenN byteN bitAt left top bitRow

theorem info3 : (Try.prog.info? 3).map (fun i => (i.zero, i.size, i.bytes)) = some (some (.int .i64 0), 1, 8) := by kernel_rfl
theorem and_one (d : Nat) (h : d < 256) : bits .and .i64 (d : Int) 1 = ((d % 2 : Nat) : Int) := by
  have := and_ones d 1 (by omega) (by omega)
  simpa using this

set_option maxRecDepth 100000 in
set_option maxHeartbeats 4000000 in
theorem refget_ok (b : ByteArray) (w : World) (hs : b.size ≤ 1000000) : Calls Try.prog 12 #[.string b] w fun e w' => e = .returned (got (getL (nums b))) ∧ Below w.heap.size w w' := by
  obtain ⟨i5, hi5, hz0, hz1, hz2⟩ := info_parts info5
  have hwv := val8_lt (nums b) (nums_byte b)
  have hbit := val8_bit (nums b) (nums_byte b)
  have HG : getL (nums b) = dec (8 * b.size) (val8 (nums b)) := by rw [getL, nums_length]
  rw [nums_length] at hwv hbit
  generalize val8 (nums b) = W at *
  have hT : 8 * (b.size : Int) = ((8 * b.size : Nat) : Int) := by simp
  have hTs : 8 * b.size ≤ 8000000 := by omega
  have HT : Hid (∀ j, j < 8 * b.size → j / 8 < b.size) := fun j hj => by omega
  have HB : Hid (∀ j, j < 8 * b.size → bitAt (8 * b.size) W j = (nums b).getD (j / 8) 0 / 2 ^ (7 - j % 8) % 2) := hbit
  have HF : Hid (From (getL (nums b)) (8 * b.size) W 0 []) := by rw [HG]; exact from_start _ _ hwv
  clear hwv hbit HG
  generalize getL (nums b) = g at *
  generalize 8 * b.size = T at *
  have hmk := run_make_row' (P := Try.prog) 41 3 (.int .i64 0) 8 Try.underlying41 info3 rfl .i64 .i64 T (by omega) (by omega)
  go_enter Try.func12, Try.ntmps12
  go_wp2
  have hrow0 := World.ownsRow_lit (base := w.heap.size) (e := 3) (size := 1) w (madeCells #[.int .i64 0] T) T (Nat.le_refl _) (by unfold maxLen; omega) (by rw [size_madeCells]; omega)
  rw [toList_madeCells_one, ← bitRow_zero T W] at hrow0
  have hB0 : Below w.heap.size w (w.alloc (.cells (madeCells #[.int .i64 0] T) 3)) := (Below.refl _ _).alloc (Nat.le_refl _) _
  clear hmk hT
  go_loopg [6] T (fun k i wr => ∃ j : Nat, i = .int .i64 j ∧ k + j = T ∧ wr.ownsRow w.heap.size 3 1 (.slice (some ⟨w.heap.size, 0, none⟩) T T) T (bitRow T W j) ∧ Below w.heap.size w wr)
  case atStart => exact ⟨0, rfl, rfl, hrow0, hB0⟩
  case round =>
    obtain ⟨j, rfl, hk, hrow, hB⟩ := hrel
    clear hrow0 hB0
    by_cases hj : j < T
    · have hj8 := HT.out j hj
      have hix := index_at b (j / 8) hj8
      have hyb := UInt8.toNat_lt (b[j / 8]'hj8)
      have hbj := HB.out j hj
      have hgd : (nums b).getD (j / 8) 0 = (b[j / 8]'hj8).toNat := by
        have h1 : j / 8 < (nums b).length := by rw [nums_length]; exact hj8
        rw [List.getD, List.getElem?_eq_getElem h1]
        simp [nums]
        rfl
      rw [hgd] at hbj
      clear hgd
      push_cast at hix
      obtain ⟨e, he, he7⟩ : ∃ e, 7 - j % 8 = e ∧ e ≤ 7 := ⟨_, rfl, by omega⟩
      have hr : (7 : Int) - (j : Int) % 8 = (e : Int) := by omega
      rw [he] at hbj
      generalize (b[j / 8]'hj8).toNat = y at *
      have hd : (y : Int) / 2 ^ e = ((y / 2 ^ e : Nat) : Int) := by simp
      have hdl : y / 2 ^ e < 256 := Nat.lt_of_le_of_lt (Nat.div_le_self _ _) hyb
      have hand := and_one (y / 2 ^ e) hdl
      rw [← hbj] at hand
      have hb2 := bitAt_lt T W j
      have hst := hrow.stored j (.int .i64 (bitAt T W j : Int))
      rw [bitRow_set] at hst
      have hc := hrow.cellAt j (by omega)
      obtain ⟨v0, hv0⟩ := bitRow_some T W j j hj
      rw [hv0] at hc
      have hfz := hrow.frozenAt j
      have HN : Hid ((wr.setCell ⟨w.heap.size, j, none⟩ (.int .i64 (bitAt T W j : Int))).ownsRow w.heap.size 3 1 (.slice (some ⟨w.heap.size, 0, none⟩) T T) T (bitRow T W (j + 1)) ∧ gk + j = T) := ⟨hst.1, hk⟩
      clear hst hrow hk hv0 HT HB HF hbj he
      generalize y / 2 ^ e = d at *
      generalize bitAt T W j = bt at *
      go_wp2
      obtain ⟨e1, e2⟩ := HN.out
      go_roundg (gk - 1)
      case measure => omega
      case rel => exact ⟨j + 1, by simp, by omega, e1, hB.setCell (Nat.le_refl _) _⟩
    · obtain rfl : j = T := by omega
      clear hk hj HT HB
      have hsz0 := hB.size
      go_wp2
      go_loopg [7, 8] j (fun k ov iv wr => ∃ (i : Nat) (done : List Nat), iv = .int .i64 i ∧ k + i = j ∧ wr.ownsRow w.heap.size 5 1 ov done.length (cellsOf done) ∧ wr.ownsRow w.heap.size 3 1 (.slice (some ⟨w.heap.size, 0, none⟩) j j) j (bitRow j W j) ∧ Below w.heap.size w wr ∧ 5 * done.length ≤ i ∧ Hid (From g j W i done))
      case atStart => exact ⟨0, [], rfl, rfl, World.ownsRow_nil _ _ _ _, hrow, hB, by simp, HF⟩
      case round =>
        clear hrow hB HF hsz0
        obtain ⟨i, done, rfl, hk, hown, hrow, hB, hdl, hfr⟩ := hrel
        obtain ⟨T, hT⟩ : ∃ T, T = j := ⟨_, rfl⟩
        subst hT
        obtain ⟨wo, hwo⟩ : ∃ wo : World, wo = wr := ⟨_, rfl⟩
        subst hwo
        obtain ⟨go, hgo⟩ : ∃ go : Nat, go = gk := ⟨_, rfl⟩
        subst hgo
        by_cases hi : i < T
        · have HK : Hid (go + i = T) := hk
          clear hk
          go_wp2
          go_loopg [7, 8, 9, 10, 11] 11 (fun kk ov iv vv fv kv wr =>
            (∃ k : Nat, kk + k = 12 ∧ 1 ≤ k ∧ k ≤ 11 ∧ ov = u7 ∧ iv = .int .i64 i ∧ vv = .int .i64 (top T W i (k - 1)) ∧ fv = .bool false ∧ kv = .int .i64 k ∧ wr = wo ∧ i + k ≤ T + 1 ∧
              Hid ((5 < k → lenN (T - i) (left T W i) ≠ 5) ∧ (7 < k → lenN (T - i) (left T W i) ≠ 7) ∧ (10 < k → 975 < top T W i 10)))
            ∨ (∃ (i' kx : Nat) (done' : List Nat), fv = .bool true ∧ iv = .int .i64 i' ∧ kv = .int .i64 kx ∧ kx ≤ 11 ∧ i < i' ∧ i' ≤ T ∧ wr.ownsRow w.heap.size 5 1 ov done'.length (cellsOf done') ∧ wr.ownsRow w.heap.size 3 1 (.slice (some ⟨w.heap.size, 0, none⟩) T T) T (bitRow T W T) ∧ Below w.heap.size w wr ∧ 5 * done'.length ≤ i' ∧ Hid (From g T W i' done')))
          case atStart => exact .inl ⟨1, rfl, by omega, by omega, rfl, rfl, by rw [top_zero]; rfl, rfl, rfl, rfl, by omega, by omega, by omega, by omega⟩
          case round =>
            rcases hrel with ⟨k, hkk, hk1, hk11, rfl, rfl, rfl, rfl, rfl, rfl, hik, hno⟩ | ⟨i', kx, done', rfl, rfl, rfl, hkx, hi', hiT, hown', hrow', hB', hdl', hfr'⟩
            · have hLb := lenN_ge (T - i) (left T W i)
              have hL3 : lenN (T - i) (left T W i) = 5 ∨ lenN (T - i) (left T W i) = 7 ∨ lenN (T - i) (left T W i) = 10 := by
                unfold lenN
                split
                · omega
                · split <;> omega
              by_cases hgo : k ≤ 10 ∧ i + k ≤ T
              · obtain ⟨hk10, hikT⟩ := hgo
                obtain ⟨m, hm, hmT⟩ : ∃ m, i + (k - 1) = m ∧ m < T := ⟨_, rfl, by omega⟩
                have hmi : (i : Int) + (k : Int) - 1 = (m : Int) := by omega
                have hcell := hrow.cellAt m (by omega)
                rw [bitRow_at T W T m hmT hmT] at hcell
                have htop := top_succ T W i (k - 1) (by omega)
                rw [show k - 1 + 1 = k by omega, hm] at htop
                have htl := top_lt T W i k hikT
                have hb2 := bitAt_lt T W m
                have htk : 2 ^ k ≤ 1024 := by have : 2 ^ k ≤ 2 ^ 10 := Nat.pow_le_pow_right (by decide) hk10; simpa using this
                have hvv : (top T W i (k - 1) : Int) * 2 + (bitAt T W m : Int) = (top T W i k : Int) := by omega
                have hge : ∀ g, u7.ownBlock = some g → w.heap.size ≤ g := fun g hg => (hown.lt g hg).1
                have hsz := hB.size
                have hw0 : top T W i (k - 1) ≤ 1024 := by omega
                have hw1 : top T W i k < 1024 := by omega
                -- a code ends here
                have HC : Hid (∀ v, top T W i k = v → isCode k v → From g T W (i + k) (done ++ [byteN v]) ∧ gk + k = 12) := by
                  rintro v rfl hc
                  have hlen : lenN (T - i) (left T W i) = k := by
                    rcases hc with ⟨rfl, hc⟩ | ⟨rfl, hc⟩ | ⟨rfl, hc⟩
                    · exact (len_five T W i hikT).2 hc
                    · exact (len_seven T W i hikT).2 hc
                    · have h5 := hno.out.1 (by omega)
                      have h7 := hno.out.2.1 (by omega)
                      omega
                  refine ⟨from_code _ _ _ _ _ _ hfr.out hlen hikT ?_, hkk⟩
                  unfold isCode at hc
                  omega
                have HX : Hid (∀ v, top T W i k = v → ¬ isCode k v → ((5 < k + 1 → lenN (T - i) (left T W i) ≠ 5) ∧ (7 < k + 1 → lenN (T - i) (left T W i) ≠ 7) ∧ (10 < k + 1 → 975 < top T W i 10)) ∧ gk + k = 12) := by
                  rintro v rfl hc
                  unfold isCode at hc
                  refine ⟨⟨fun h => ?_, fun h => ?_, fun h => ?_⟩, hkk⟩
                  · by_cases h5 : k = 5
                    · subst h5
                      have := len_five T W i hikT
                      omega
                    · exact hno.out.1 (by omega)
                  · by_cases h7 : k = 7
                    · subst h7
                      have := len_seven T W i hikT
                      omega
                    · exact hno.out.2.1 (by omega)
                  · obtain rfl : k = 10 := by omega
                    have h5 := hno.out.1 (by omega)
                    have h7 := hno.out.2.1 (by omega)
                    have := len_ten T W i hikT (by omega)
                    omega
                have HM : Hid (top T W i k = top T W i (k + 1 - 1)) := by show _ = _; rw [Nat.add_sub_cancel]
                generalize top T W i (k - 1) = v0 at *
                generalize hv1 : top T W i k = v1 at *
                generalize bitAt T W m = bt at *
                clear hno hkk hfr htop htl htk hL3 hLb hm
                by_cases hc : isCode k v1
                · have HA := HC.out v1 rfl hc
                  have HA : Hid (From g T W (i + k) (done ++ [byteN v1]) ∧ gk + k = 12) := HA
                  have hyb := (byte_is k v1 hc).1
                  clear HC HX HM hv1
                  rcases hc with ⟨hk5, hc⟩ | ⟨hk7, hc, hc2⟩ | ⟨hk0, hc, hc2⟩
                  · have q1 : 5 ≤ k := by omega
                    have q2 : k ≤ 5 := by omega
                    have qb : ((k : Int) == 5) = true := by simp; omega
                    have hix := five_at v1 hc
                    generalize byteN v1 = y at *
                    clear hk5
                    as_aux_lemma =>
                      go_wp2_with (at_builtin; refine wpList_append_own _ rfl _ _ 32 rfl w.heap.size 5 i5 (.int .u8 0) 1 1 Try.underlying32 hi5 hz0 hz1 hz2 rfl (by decide) _ _ _ rfl (hown.alloc _) ⟨wr.heap.size, 0, none⟩ 1 1 [.int .u8 (y : Int)] rfl rfl ?c1 ?c2 ?c3 ?c4 ?c5 ?_)
                      case c1 => exact news_one wr _
                      case c2 => exact one_cell _
                      case c3 => unfold maxLen; omega
                      case c4 => omega
                      case c5 => simp; omega
                      intro v2 w2 hown2 hgrow _
                      have hB2 : Below w.heap.size w w2 := (hB.alloc hsz _).grown hgrow (by simp; omega) (fun k hk => hge k hk)
                      have HO : Hid (w2.ownsRow w.heap.size 5 1 v2 (done ++ [y]).length (cellsOf (done ++ [y])) ∧ w2.ownsRow w.heap.size 3 1 (.slice (some ⟨w.heap.size, 0, none⟩) T T) T (bitRow T W T)) :=
                        ⟨by simpa [cellsOf] using hown2, (hrow.alloc _).kept hgrow (rows_apart hrow hown (by decide))⟩
                      clear hown2 hgrow hown hge hrow hcell
                      go_wp2
                      obtain ⟨o1, o2⟩ := HO.out
                      obtain ⟨f1, f2⟩ := HA.out
                      go_roundg (gk - 1)
                      case measure => omega
                      case rel => exact .inr ⟨i + k, k + 1, done ++ [y], rfl, by simp, by simp, by omega, by omega, by omega, o1, o2, hB2, by simp; omega, f1⟩
                  · have q1 : 7 ≤ k := by omega
                    have q2 : k ≤ 7 := by omega
                    have qa : ((k : Int) == 5) = false := by simp; omega
                    have qb : ((k : Int) == 7) = true := by simp; omega
                    have hix : ∀ w, (Instr.index 9 (.string ⟨#[32, 33, 37, 38, 40, 41, 42, 43, 44, 45, 46, 47, 58, 59, 61, 63, 64, 95, 98, 99, 100, 102, 103, 104, 108, 109, 110, 112, 114, 117, 118, 119]⟩) (.int .i64 ((v1 : Int) - 64))).run Try.prog w = .ok (.int .u8 (byteN v1 : Int)) w := by
                      intro w
                      have := seven_at (v1 - 64) (by omega) w
                      rw [show (64 : Int) + ((v1 - 64 : Nat) : Int) - 64 = (v1 : Int) - 64 by omega, show 64 + (v1 - 64) = v1 by omega] at this
                      exact this
                    generalize byteN v1 = y at *
                    clear hk7
                    as_aux_lemma =>
                      go_wp2_with (at_builtin; refine wpList_append_own _ rfl _ _ 32 rfl w.heap.size 5 i5 (.int .u8 0) 1 1 Try.underlying32 hi5 hz0 hz1 hz2 rfl (by decide) _ _ _ rfl (hown.alloc _) ⟨wr.heap.size, 0, none⟩ 1 1 [.int .u8 (y : Int)] rfl rfl ?c1 ?c2 ?c3 ?c4 ?c5 ?_)
                      case c1 => exact news_one wr _
                      case c2 => exact one_cell _
                      case c3 => unfold maxLen; omega
                      case c4 => omega
                      case c5 => simp; omega
                      intro v2 w2 hown2 hgrow _
                      have hB2 : Below w.heap.size w w2 := (hB.alloc hsz _).grown hgrow (by simp; omega) (fun k hk => hge k hk)
                      have HO : Hid (w2.ownsRow w.heap.size 5 1 v2 (done ++ [y]).length (cellsOf (done ++ [y])) ∧ w2.ownsRow w.heap.size 3 1 (.slice (some ⟨w.heap.size, 0, none⟩) T T) T (bitRow T W T)) :=
                        ⟨by simpa [cellsOf] using hown2, (hrow.alloc _).kept hgrow (rows_apart hrow hown (by decide))⟩
                      clear hown2 hgrow hown hge hrow hcell
                      go_wp2
                      obtain ⟨o1, o2⟩ := HO.out
                      obtain ⟨f1, f2⟩ := HA.out
                      go_roundg (gk - 1)
                      case measure => omega
                      case rel => exact .inr ⟨i + k, k + 1, done ++ [y], rfl, by simp, by simp, by omega, by omega, by omega, o1, o2, hB2, by simp; omega, f1⟩
                  · have q1 : 10 ≤ k := by omega
                    have q2 : k ≤ 10 := by omega
                    have qa : ((k : Int) == 5) = false := by simp; omega
                    have qb : ((k : Int) == 7) = false := by simp; omega
                    have qc : ((k : Int) == 10) = true := by simp; omega
                    have hR : Hid (∀ w, Calls Try.prog 21 #[.int .i64 (v1 : Int)] w fun e w' => e = .returned (.int .u8 (byteN v1 : Int)) ∧ w = w') := fun w => rare_ok v1 w hc hc2
                    generalize byteN v1 = y at *
                    clear hk0
                    as_aux_lemma =>
                      go_wp2_with fail
                      refine Calls.mono (hR.out _) ?_
                      rintro e w1 ⟨rfl, rfl⟩
                      go_wp2_with (at_builtin; refine wpList_append_own _ rfl _ _ 32 rfl w.heap.size 5 i5 (.int .u8 0) 1 1 Try.underlying32 hi5 hz0 hz1 hz2 rfl (by decide) _ _ _ rfl (hown.alloc _) ⟨wr.heap.size, 0, none⟩ 1 1 [.int .u8 (y : Int)] rfl rfl ?c1 ?c2 ?c3 ?c4 ?c5 ?_)
                      case c1 => exact news_one wr _
                      case c2 => exact one_cell _
                      case c3 => unfold maxLen; omega
                      case c4 => omega
                      case c5 => simp; omega
                      intro v2 w2 hown2 hgrow _
                      have hB2 : Below w.heap.size w w2 := (hB.alloc hsz _).grown hgrow (by simp; omega) (fun k hk => hge k hk)
                      have HO : Hid (w2.ownsRow w.heap.size 5 1 v2 (done ++ [y]).length (cellsOf (done ++ [y])) ∧ w2.ownsRow w.heap.size 3 1 (.slice (some ⟨w.heap.size, 0, none⟩) T T) T (bitRow T W T)) :=
                        ⟨by simpa [cellsOf] using hown2, (hrow.alloc _).kept hgrow (rows_apart hrow hown (by decide))⟩
                      clear hown2 hgrow hown hge hrow hcell
                      go_wp2
                      obtain ⟨o1, o2⟩ := HO.out
                      obtain ⟨f1, f2⟩ := HA.out
                      go_roundg (gk - 1)
                      case measure => omega
                      case rel => exact .inr ⟨i + k, k + 1, done ++ [y], rfl, by simp, by simp, by omega, by omega, by omega, o1, o2, hB2, by simp; omega, f1⟩
                · have HA : Hid (((5 < k + 1 → lenN (T - i) (left T W i) ≠ 5) ∧ (7 < k + 1 → lenN (T - i) (left T W i) ≠ 7) ∧ (10 < k + 1 → 975 < top T W i 10)) ∧ gk + k = 12) := HX.out v1 rfl hc
                  have HV : Hid (v1 = top T W i (k + 1 - 1)) := HM
                  clear HC HX HM hv1
                  unfold isCode at hc
                  have q0 : (k = 5 → 16 ≤ v1) ∧ (k = 7 → v1 < 64 ∨ 96 ≤ v1) ∧ (k = 10 → v1 < 768 ∨ 976 ≤ v1) := by omega
                  obtain ⟨r5, r7, r0⟩ := q0
                  clear hc
                  by_cases k5 : k = 5
                  · have q1 : 5 ≤ k := by omega
                    have q2 : k ≤ 5 := by omega
                    have qa : ((k : Int) == 5) = true := by simp; omega
                    have qb : ((k : Int) == 7) = false := by simp; omega
                    have qc : ((k : Int) == 10) = false := by simp; omega
                    have q3 := r5 k5
                    clear r5 r7 r0 k5
                    as_aux_lemma =>
                      go_wp2
                      obtain ⟨f1, f2⟩ := HA.out
                      go_roundg (gk - 1)
                      case measure => omega
                      case rel => exact .inl ⟨k + 1, by omega, by omega, by omega, rfl, rfl, by rw [← HV.out], rfl, by simp, rfl, by omega, f1⟩
                  · by_cases k7 : k = 7
                    · have q1 : 7 ≤ k := by omega
                      have q2 : k ≤ 7 := by omega
                      have qa : ((k : Int) == 5) = false := by simp; omega
                      have qb : ((k : Int) == 7) = true := by simp; omega
                      have qc : ((k : Int) == 10) = false := by simp; omega
                      have q3 := r7 k7
                      clear r5 r7 r0 k5 k7
                      rcases q3 with q3 | q3
                      · as_aux_lemma =>
                          go_wp2
                          obtain ⟨f1, f2⟩ := HA.out
                          go_roundg (gk - 1)
                          case measure => omega
                          case rel => exact .inl ⟨k + 1, by omega, by omega, by omega, rfl, rfl, by rw [← HV.out], rfl, by simp, rfl, by omega, f1⟩
                      · as_aux_lemma =>
                          go_wp2
                          obtain ⟨f1, f2⟩ := HA.out
                          go_roundg (gk - 1)
                          case measure => omega
                          case rel => exact .inl ⟨k + 1, by omega, by omega, by omega, rfl, rfl, by rw [← HV.out], rfl, by simp, rfl, by omega, f1⟩
                    · by_cases k0 : k = 10
                      · have q1 : 10 ≤ k := by omega
                        have q2 : k ≤ 10 := by omega
                        have qa : ((k : Int) == 5) = false := by simp; omega
                        have qb : ((k : Int) == 7) = false := by simp; omega
                        have qc : ((k : Int) == 10) = true := by simp; omega
                        have q3 := r0 k0
                        clear r5 r7 r0 k5 k7 k0
                        rcases q3 with q3 | q3
                        · as_aux_lemma =>
                            go_wp2
                            obtain ⟨f1, f2⟩ := HA.out
                            go_roundg (gk - 1)
                            case measure => omega
                            case rel => exact .inl ⟨k + 1, by omega, by omega, by omega, rfl, rfl, by rw [← HV.out], rfl, by simp, rfl, by omega, f1⟩
                        · as_aux_lemma =>
                            go_wp2
                            obtain ⟨f1, f2⟩ := HA.out
                            go_roundg (gk - 1)
                            case measure => omega
                            case rel => exact .inl ⟨k + 1, by omega, by omega, by omega, rfl, rfl, by rw [← HV.out], rfl, by simp, rfl, by omega, f1⟩
                      · have qa : ((k : Int) == 5) = false := by simp; omega
                        have qb : ((k : Int) == 7) = false := by simp; omega
                        have qc : ((k : Int) == 10) = false := by simp; omega
                        clear r5 r7 r0 k5 k7 k0
                        as_aux_lemma =>
                          go_wp2
                          obtain ⟨f1, f2⟩ := HA.out
                          go_roundg (gk - 1)
                          case measure => omega
                          case rel => exact .inl ⟨k + 1, by omega, by omega, by omega, rfl, rfl, by rw [← HV.out], rfl, by simp, rfl, by omega, f1⟩
              · have hgo' : 10 < k ∨ k ≤ 10 ∧ T < i + k := by omega
                clear hgo
                have hgT : g = if 8 ≤ T - i ∨ left T W i ≠ 2 ^ (T - i) - 1 then none else some done := by
                  rcases hgo' with h10 | ⟨h10, hTk⟩
                  · have h5 := hno.out.1 (by omega)
                    have h7 := hno.out.2.1 (by omega)
                    have h9 := hno.out.2.2 h10
                    rw [if_pos (.inl (by omega))]
                    exact from_bad _ _ _ _ 10 _ hfr.out (by omega) (by omega) h9
                  · refine from_end _ _ _ _ _ _ hfr.out rfl ?_
                    have h5 := hno.out.1
                    have h7 := hno.out.2.1
                    omega
                have hv0 : top T W i (k - 1) ≤ 1048576 := by
                  have h1 := top_lt T W i (k - 1) (by omega)
                  have h2 : 2 ^ (k - 1) ≤ 2 ^ 20 := Nat.pow_le_pow_right (by decide) (by omega)
                  simp only [Nat.reducePow] at h2
                  omega
                generalize top T W i (k - 1) = v0 at *
                clear hno hkk hfr hL3 hLb
                by_cases h8 : 8 ≤ T - i
                · rw [if_pos (.inl h8)] at hgT
                  subst hgT
                  have hq8 : i + 8 ≤ T := by omega
                  clear h8
                  rcases hgo' with h10 | ⟨h10, hTk⟩
                  · as_aux_lemma =>
                      go_wp2
                      go_ret2
                      exact ⟨rfl, hB⟩
                  · as_aux_lemma =>
                      go_wp2
                      go_ret2
                      exact ⟨rfl, hB⟩
                · have hq8 : ¬ i + 8 ≤ T := by omega
                  have HG : Hid ((left T W i = 2 ^ (T - i) - 1 → g = some done) ∧ (left T W i ≠ 2 ^ (T - i) - 1 → g = none)) := by
                    constructor
                    · intro h; rw [hgT, if_neg (by omega)]
                    · intro h; rw [hgT, if_pos (.inr h)]
                  clear hgT h8
                  obtain ⟨h10, hTk⟩ : k ≤ 10 ∧ T < i + k := by omega
                  clear hgo'
                  go_wp2
                  clear h10 hTk hk1 hk11 hv0 hik
                  go_loopg [8] (T - i) (fun kk iv wx => ∃ i' : Nat, iv = .int .i64 i' ∧ kk + i' = T ∧ wx = wr ∧ i ≤ i' ∧ Hid (left T W i = 2 ^ (T - i) - 1 ↔ left T W i' = 2 ^ (T - i') - 1))
                  case atStart => exact ⟨i, rfl, by omega, rfl, by omega, Iff.rfl⟩
                  case round =>
                    obtain ⟨i', rfl, hk4, rfl, hii, hiff⟩ := hrel
                    by_cases hiT : i' < T
                    · have hcell := hrow.cellAt i' (by omega)
                      rw [bitRow_at T W T i' hiT hiT] at hcell
                      have hb2 := bitAt_lt T W i'
                      have hob := ones_bit T W i' hiT
                      have HI : Hid ((bitAt T W i' = 1 → (left T W i = 2 ^ (T - i) - 1 ↔ left T W (i' + 1) = 2 ^ (T - (i' + 1)) - 1)) ∧ (bitAt T W i' ≠ 1 → g = none) ∧ gk + i' = T) := by
                        refine ⟨fun h => ?_, fun h => ?_, hk4⟩
                        · rw [hiff.out, hob]; exact ⟨fun x => x.2, fun x => ⟨h, x⟩⟩
                        · apply HG.out.2
                          rw [Ne, hiff.out, hob]
                          exact fun x => h x.1
                      clear hob hiff hk4 HG
                      generalize bitAt T W i' = bt at *
                      by_cases hb1 : bt = 1
                      · subst hb1
                        obtain ⟨f1, _, f3⟩ := HI.out
                        have HI2 : Hid ((left T W i = 2 ^ (T - i) - 1 ↔ left T W (i' + 1) = 2 ^ (T - (i' + 1)) - 1) ∧ gk + i' = T) := ⟨f1 rfl, f3⟩
                        clear f1 f3 HI
                        as_aux_lemma =>
                          go_wp2
                          obtain ⟨f1, f3⟩ := HI2.out
                          go_roundg (gk - 1)
                          case measure => omega
                          case rel => exact ⟨i' + 1, by simp, by omega, rfl, by omega, f1⟩
                      · obtain rfl := HI.out.2.1 hb1
                        have hbb : ((bt : Int) != 1) = true := by simp; omega
                        clear HI hb1
                        as_aux_lemma =>
                          go_wp2
                          go_ret2
                          exact ⟨rfl, hB⟩
                    · obtain rfl : i' = T := by omega
                      obtain rfl := HG.out.1 (hiff.out.2 (left_all i' W))
                      have HK2 : Hid (go + i = i') := HK
                      clear HG hiff hk4 HK
                      as_aux_lemma =>
                        go_wp2
                        have hk := HK2.out
                        go_roundg 0
                        case measure => omega
                        case rel => exact ⟨i', done, rfl, by omega, hown, hrow, hB, by omega, from_all i' W done⟩
            · obtain ⟨HK1, HFR⟩ : Hid (go + i = T) ∧ Hid (From g T W i' done') := ⟨HK, hfr'⟩
              clear hfr hfr' HK hown hrow hB
              by_cases hk10 : kx ≤ 10
              · by_cases hik : i' + kx ≤ T
                · as_aux_lemma =>
                  go_wp2
                  have hk := HK1.out
                  go_roundg (go - (i' - i))
                  case measure => omega
                  case rel => exact ⟨i', done', rfl, by omega, hown', hrow', hB', hdl', HFR⟩
                · as_aux_lemma =>
                  go_wp2
                  have hk := HK1.out
                  go_roundg (go - (i' - i))
                  case measure => omega
                  case rel => exact ⟨i', done', rfl, by omega, hown', hrow', hB', hdl', HFR⟩
              · as_aux_lemma =>
                  go_wp2
                  have hk := HK1.out
                  go_roundg (go - (i' - i))
                  case measure => omega
                  case rel => exact ⟨i', done', rfl, by omega, hown', hrow', hB', hdl', HFR⟩
        · obtain rfl : i = T := by omega
          obtain rfl := from_done _ _ _ _ hfr.out
          have hconv := conv_own wo w.heap.size _ _ done _ hown rfl
          clear hfr hk hrow
          go_wp2
          go_ret2
          exact ⟨rfl, hB⟩
end Go.Proofs.Ytnaheinebhcimaa
