/-
  The reference's Cut.
-/
import Derived.Test.YtdpbnlamdgdljaaJCut
namespace Go.Proofs.Ytdpbnlamdgdljaa
open Go.RowKit
attribute [local irreducible] nums str pieceN

theorem rcut_no (id m : Int) (b : ByteArray) (e : Bool) (w : World) (h : ¬ cuts id m) : Calls Try.prog 11 #[.int .i64 id, .string b, .bool e, .int .i64 m] w fun e w' => e = .returned (.tuple #[.slice none 0 0, .bool false]) ∧ w = w' := by
  unfold cuts at h
  by_cases h1 : id < 1
  · clear h
    go_enter Try.func11, Try.ntmps11
    go_wp2
    go_ret2
    exact ⟨rfl, rfl⟩
  · by_cases h2 : 2147483647 < id
    · have h1' : 1 ≤ id := by omega
      clear h h1
      go_enter Try.func11, Try.ntmps11
      go_wp2
      go_ret2
      exact ⟨rfl, rfl⟩
    · have h1' : 1 ≤ id := by omega
      have h2' : id ≤ 2147483647 := by omega
      by_cases h3 : m < 64
      · clear h h1 h2
        go_enter Try.func11, Try.ntmps11
        go_wp2
        go_ret2
        exact ⟨rfl, rfl⟩
      · have h3' : 64 ≤ m := by omega
        have h4 : 512 < m := by omega
        clear h h1 h2 h3
        go_enter Try.func11, Try.ntmps11
        go_wp2
        go_ret2
        exact ⟨rfl, rfl⟩
theorem min_both (a b : Nat) (ts : Array TypeId) (t : TypeId) (W : World) : (Builtin.min_ ts t #[.int .i64 (a : Int), .int .i64 (b : Int)]).run Try.prog W = .ok (.int .i64 ((min a b : Nat) : Int)) W := min_nat a b ts t W
theorem piece_end (s m : Nat) (hm : 0 < m) : s ≤ pieceN s m * m := by
  have hp := pieceN_pos s m hm
  obtain ⟨k, hk⟩ : ∃ k, pieceN s m = k + 1 := ⟨pieceN s m - 1, by omega⟩
  have := (piece_last hm (show k < pieceN s m by omega)).2 hk.symm
  rw [hk, Nat.succ_mul]
  exact this

set_option maxRecDepth 100000 in
set_option maxHeartbeats 4000000 in
theorem rcut_ok (id : Int) (m : Nat) (b : ByteArray) (e : Bool) (w : World) (h : cuts id m) (hb : b.size ≤ 3000) : Calls Try.prog 11 #[.int .i64 id, .string b, .bool e, .int .i64 (m : Int)] w fun r w' => ∃ v, r = .returned (.tuple #[v, .bool true]) ∧ Hid (w'.ownsRow w.heap.size 39 4 v (cutA id b e m).length (qcells (cutA id b e m))) ∧ Keeps nobody w w' := by
  have h1 : 64 ≤ m := by have := h.2.1; omega
  have h2 : m ≤ 512 := by have := h.2.2; omega
  have hi1 : 1 ≤ id := h.1.1
  have hi2 : id ≤ 2147483647 := h.1.2
  have hm : 0 < m := by omega
  have hend := piece_end b.size m hm
  have HJ : Hid (∀ j o, j < pieceN b.size m → j * m = o → o ≤ b.size ∧ j ≤ 47 ∧ (j = 0 ∨ o < b.size)) := fun j o hj ho => by
    have := piece_lt hm hj
    have := piece_few h1 hb
    rw [ho] at *
    omega
  have hA : cutA id b e m = cutK id b e m (pieceN b.size m) := rfl
  rw [hA]
  clear hA h
  have hp0 : 0 < pieceN b.size m := pieceN_pos _ _ hm
  generalize hn : pieceN b.size m = n at *
  clear hn
  have hor0 : bits .or .i64 0 4 = 4 := by decide +kernel
  have hor1 : bits .or .i64 1 4 = 5 := by decide +kernel
  cases e with
  | false =>
    go_enter Try.func11, Try.ntmps11
    go_wp2_with fail
    go_loopg [10, 11] n (fun k ov iv wr => ∃ (j o : Nat), iv = .int .i64 (o : Int) ∧ k + j = n ∧ Hid (j * m = o ∧ wr.ownsRow w.heap.size 39 4 ov (cutK id b false m j).length (qcells (cutK id b false m j)) ∧ Keeps nobody w wr))
    case atStart => exact ⟨0, 0, rfl, rfl, by simp, World.ownsRow_nil _ _ _ _, Keeps.refl _ _⟩
    case round =>
      obtain ⟨j, o, rfl, hk, G⟩ := hrel
      by_cases hj : j < n
      · obtain ⟨hob, hj47, hoj⟩ := HJ.out j o hj G.out.1
        obtain ⟨ho, R0, K0⟩ := G.out
        have HK := hid hk
        have hwl := K0.size
        have hge : ∀ k, u10.ownBlock = some k → w.heap.size ≤ k := fun k e0 => (R0.lt k e0).1
        have hadd : (o : Int) + (m : Int) = ((o + m : Nat) : Int) := by omega
        have hcat : ∀ K FL, cutAt id b false m j = ⟨K, FL, id, b.extract o (min (o + m) b.size)⟩ → ∃ a2 l2 c2 w2, (Builtin.append_ #[23, 23] 23 #[u10, .slice (some ⟨wr.heap.size + 1, 0, none⟩) 1 1]).run Try.prog ((wr.alloc (frobj K FL id (b.extract o (min (o + m) b.size)))).alloc (frobj K FL id (b.extract o (min (o + m) b.size)))) = .ok (.slice a2 l2 c2) w2 ∧ Hid ((j + 1) * m = o + m ∧ w2.ownsRow w.heap.size 39 4 (.slice a2 l2 c2) (cutK id b false m (j + 1)).length (qcells (cutK id b false m (j + 1))) ∧ Keeps nobody w w2) := by
          intro K FL hc
          have R1 := R0.alloc (frobj K FL id (b.extract o (min (o + m) b.size)))
          obtain ⟨a2, l2, c2, w2, hr, hR2, hK2⟩ := q_append R1 ⟨K, FL, id, b.extract o (min (o + m) b.size)⟩ (by rw [cutK_length]; omega) (by simp; omega) 23
          rw [show (wr.alloc (frobj K FL id (b.extract o (min (o + m) b.size)))).heap.size = wr.heap.size + 1 by simp] at hr
          refine ⟨a2, l2, c2, w2, hr, by rw [Nat.succ_mul, ho], ?_, ?_⟩
          · rw [cutK_succ, hc]
            exact hR2
          · refine (K0.alloc _).trans hK2 fun k hk2 e0 => ?_
            have := hge k e0
            omega
        have HCAT := hid hcat
        have hoz : j = 0 → o = 0 := fun e0 => by rw [e0, Nat.zero_mul] at ho; omega
        have hon : j ≠ 0 → 0 < o := fun e0 => by rw [← ho]; exact Nat.mul_pos (by omega) hm
        have hkd0 : j = 0 → cutAt id b false m j = ⟨1, flagsAt false (decide (b.size ≤ o + m)) 0, id, b.extract o (min (o + m) b.size)⟩ := fun e0 => by
          subst e0
          rw [← ho]
          rfl
        have hkd1 : j ≠ 0 → cutAt id b false m j = ⟨9, flagsAt false (decide (b.size ≤ o + m)) j, id, b.extract o (min (o + m) b.size)⟩ := fun e0 => by
          rw [← ho]
          show (⟨if j = 0 then 1 else 9, _, _, _⟩ : Frm) = _
          rw [if_neg e0]
        generalize hs : o + m = s at *
        clear G hcat hk
        by_cases h0 : j = 0
        · have hkd := hkd0 h0
          obtain rfl : o = 0 := hoz h0
          obtain rfl : s = m := by omega
          clear hkd0 hkd1 hoz hon hoj hadd hs
          have e00 : (0 : Int) + (s : Int) = (s : Int) := by omega
          by_cases hle : b.size ≤ s
          · rw [decide_eq_true hle] at hkd
            obtain ⟨a2, l2, c2, w2, hr, HT⟩ := HCAT.out _ _ hkd
            rw [Nat.min_eq_right hle, extract_all b _ (Nat.le_refl _)] at hr
            have HR : Hid ((Builtin.append_ #[23, 23] 23 #[u10, .slice (some ⟨wr.heap.size + 1, 0, none⟩) 1 1]).run Try.prog ((wr.alloc (frobj 1 4 id b)).alloc (frobj 1 4 id b)) = .ok (.slice a2 l2 c2) w2) := hr
            have hle' : ((b.size : Int) ≤ (s : Int)) = True := by simp; omega
            have hmin : ∀ ts t W, (Builtin.min_ ts t #[.int .i64 (s : Int), .int .i64 (b.size : Int)]).run Try.prog W = .ok (.int .i64 (b.size : Int)) W := fun ts t W => by rw [min_both s b.size ts t W, Nat.min_eq_right hle]
            clear hr HCAT hkd
            clear R0 K0 hge hle
            go_wp2_with (at_builtin; refine wpList_append_run rfl _ _ 23 23 rfl _ _ rfl rfl HR.out ?_)
            have hk := HK.out
            go_roundg (gk - 1)
            case measure => omega
            case rel => exact ⟨j + 1, s, by first | rfl | (simp; omega), by omega, HT⟩
          · rw [decide_eq_false hle] at hkd
            obtain ⟨a2, l2, c2, w2, hr, HT⟩ := HCAT.out _ _ hkd
            rw [Nat.min_eq_left (show s ≤ b.size by omega)] at hr
            have HR : Hid ((Builtin.append_ #[23, 23] 23 #[u10, .slice (some ⟨wr.heap.size + 1, 0, none⟩) 1 1]).run Try.prog ((wr.alloc (frobj 1 0 id (b.extract 0 s))).alloc (frobj 1 0 id (b.extract 0 s))) = .ok (.slice a2 l2 c2) w2) := hr
            have hle' : ((b.size : Int) ≤ (s : Int)) = False := by simp; omega
            have hmin : ∀ ts t W, (Builtin.min_ ts t #[.int .i64 (s : Int), .int .i64 (b.size : Int)]).run Try.prog W = .ok (.int .i64 (s : Int)) W := fun ts t W => by rw [min_both s b.size ts t W, Nat.min_eq_left (show s ≤ b.size by omega)]
            have hsb : s ≤ b.size := by omega
            clear hr HCAT hkd
            clear R0 K0 hge hle
            go_wp2_with (at_builtin; refine wpList_append_run rfl _ _ 23 23 rfl _ _ rfl rfl HR.out ?_)
            have hk := HK.out
            go_roundg (gk - 1)
            case measure => omega
            case rel => exact ⟨j + 1, s, by first | rfl | (simp; omega), by omega, HT⟩
        · have hkd := hkd1 h0
          have ho0 := hon h0
          have hob2 : o < b.size := by omega
          have hoz' : ((o : Int) == 0) = false := by simp; omega
          clear hkd0 hkd1 hoz hon hoj
          by_cases hle : b.size ≤ s
          · have hfl : flagsAt false (decide (b.size ≤ s)) j = 4 := by
              rw [decide_eq_true hle]
              unfold flagsAt endF
              rw [if_pos rfl, if_neg (fun g => h0 g.1)]
              rfl
            rw [hfl] at hkd
            obtain ⟨a2, l2, c2, w2, hr, HT⟩ := HCAT.out _ _ hkd
            rw [Nat.min_eq_right hle] at hr
            have HR := hid hr
            have hle' : ((b.size : Int) ≤ (s : Int)) = True := by simp; omega
            have hmin : ∀ ts t W, (Builtin.min_ ts t #[.int .i64 (s : Int), .int .i64 (b.size : Int)]).run Try.prog W = .ok (.int .i64 (b.size : Int)) W := fun ts t W => by rw [min_both s b.size ts t W, Nat.min_eq_right hle]
            clear hr HCAT hkd hfl
            clear R0 K0 hge hle
            go_wp2_with (at_builtin; refine wpList_append_run rfl _ _ 23 23 rfl _ _ rfl rfl HR.out ?_)
            have hk := HK.out
            go_roundg (gk - 1)
            case measure => omega
            case rel => exact ⟨j + 1, s, by first | rfl | (simp; omega), by omega, HT⟩
          · have hfl : flagsAt false (decide (b.size ≤ s)) j = 0 := by
              rw [decide_eq_false hle]
              unfold flagsAt endF
              rw [if_neg (by simp), if_neg (fun g => h0 g.1)]
            rw [hfl] at hkd
            obtain ⟨a2, l2, c2, w2, hr, HT⟩ := HCAT.out _ _ hkd
            rw [Nat.min_eq_left (show s ≤ b.size by omega)] at hr
            have HR := hid hr
            have hle' : ((b.size : Int) ≤ (s : Int)) = False := by simp; omega
            have hmin : ∀ ts t W, (Builtin.min_ ts t #[.int .i64 (s : Int), .int .i64 (b.size : Int)]).run Try.prog W = .ok (.int .i64 (s : Int)) W := fun ts t W => by rw [min_both s b.size ts t W, Nat.min_eq_left (show s ≤ b.size by omega)]
            have hsb : s ≤ b.size := by omega
            clear hr HCAT hkd hfl
            clear R0 K0 hge hle
            go_wp2_with (at_builtin; refine wpList_append_run rfl _ _ 23 23 rfl _ _ rfl rfl HR.out ?_)
            have hk := HK.out
            go_roundg (gk - 1)
            case measure => omega
            case rel => exact ⟨j + 1, s, by first | rfl | (simp; omega), by omega, HT⟩
      · obtain rfl : j = n := by omega
        obtain ⟨ho, R0, K0⟩ := G.out
        have HR : Hid (wr.ownsRow w.heap.size 39 4 u10 (cutK id b false m j).length (qcells (cutK id b false m j)) ∧ Keeps nobody w wr) := ⟨R0, K0⟩
        rw [ho] at hend
        have ho0 : 0 < o := by rw [← ho]; exact Nat.mul_pos hp0 hm
        have hoz' : ((o : Int) == 0) = false := by simp; omega
        clear hk G R0 K0 ho HJ
        go_wp2
        go_ret2
        exact ⟨_, rfl, HR.out⟩
  | true =>
    go_enter Try.func11, Try.ntmps11
    go_wp2_with fail
    go_loopg [10, 11] n (fun k ov iv wr => ∃ (j o : Nat), iv = .int .i64 (o : Int) ∧ k + j = n ∧ Hid (j * m = o ∧ wr.ownsRow w.heap.size 39 4 ov (cutK id b true m j).length (qcells (cutK id b true m j)) ∧ Keeps nobody w wr))
    case atStart => exact ⟨0, 0, rfl, rfl, by simp, World.ownsRow_nil _ _ _ _, Keeps.refl _ _⟩
    case round =>
      obtain ⟨j, o, rfl, hk, G⟩ := hrel
      by_cases hj : j < n
      · obtain ⟨hob, hj47, hoj⟩ := HJ.out j o hj G.out.1
        obtain ⟨ho, R0, K0⟩ := G.out
        have HK := hid hk
        have hwl := K0.size
        have hge : ∀ k, u10.ownBlock = some k → w.heap.size ≤ k := fun k e0 => (R0.lt k e0).1
        have hadd : (o : Int) + (m : Int) = ((o + m : Nat) : Int) := by omega
        have hcat : ∀ K FL, cutAt id b true m j = ⟨K, FL, id, b.extract o (min (o + m) b.size)⟩ → ∃ a2 l2 c2 w2, (Builtin.append_ #[23, 23] 23 #[u10, .slice (some ⟨wr.heap.size + 1, 0, none⟩) 1 1]).run Try.prog ((wr.alloc (frobj K FL id (b.extract o (min (o + m) b.size)))).alloc (frobj K FL id (b.extract o (min (o + m) b.size)))) = .ok (.slice a2 l2 c2) w2 ∧ Hid ((j + 1) * m = o + m ∧ w2.ownsRow w.heap.size 39 4 (.slice a2 l2 c2) (cutK id b true m (j + 1)).length (qcells (cutK id b true m (j + 1))) ∧ Keeps nobody w w2) := by
          intro K FL hc
          have R1 := R0.alloc (frobj K FL id (b.extract o (min (o + m) b.size)))
          obtain ⟨a2, l2, c2, w2, hr, hR2, hK2⟩ := q_append R1 ⟨K, FL, id, b.extract o (min (o + m) b.size)⟩ (by rw [cutK_length]; omega) (by simp; omega) 23
          rw [show (wr.alloc (frobj K FL id (b.extract o (min (o + m) b.size)))).heap.size = wr.heap.size + 1 by simp] at hr
          refine ⟨a2, l2, c2, w2, hr, by rw [Nat.succ_mul, ho], ?_, ?_⟩
          · rw [cutK_succ, hc]
            exact hR2
          · refine (K0.alloc _).trans hK2 fun k hk2 e0 => ?_
            have := hge k e0
            omega
        have HCAT := hid hcat
        have hoz : j = 0 → o = 0 := fun e0 => by rw [e0, Nat.zero_mul] at ho; omega
        have hon : j ≠ 0 → 0 < o := fun e0 => by rw [← ho]; exact Nat.mul_pos (by omega) hm
        have hkd0 : j = 0 → cutAt id b true m j = ⟨1, flagsAt true (decide (b.size ≤ o + m)) 0, id, b.extract o (min (o + m) b.size)⟩ := fun e0 => by
          subst e0
          rw [← ho]
          rfl
        have hkd1 : j ≠ 0 → cutAt id b true m j = ⟨9, flagsAt true (decide (b.size ≤ o + m)) j, id, b.extract o (min (o + m) b.size)⟩ := fun e0 => by
          rw [← ho]
          show (⟨if j = 0 then 1 else 9, _, _, _⟩ : Frm) = _
          rw [if_neg e0]
        generalize hs : o + m = s at *
        clear G hcat hk
        by_cases h0 : j = 0
        · have hkd := hkd0 h0
          obtain rfl : o = 0 := hoz h0
          obtain rfl : s = m := by omega
          clear hkd0 hkd1 hoz hon hoj hadd hs
          have e00 : (0 : Int) + (s : Int) = (s : Int) := by omega
          by_cases hle : b.size ≤ s
          · rw [decide_eq_true hle] at hkd
            obtain ⟨a2, l2, c2, w2, hr, HT⟩ := HCAT.out _ _ hkd
            rw [Nat.min_eq_right hle, extract_all b _ (Nat.le_refl _)] at hr
            have HR : Hid ((Builtin.append_ #[23, 23] 23 #[u10, .slice (some ⟨wr.heap.size + 1, 0, none⟩) 1 1]).run Try.prog ((wr.alloc (frobj 1 5 id b)).alloc (frobj 1 5 id b)) = .ok (.slice a2 l2 c2) w2) := hr
            have hle' : ((b.size : Int) ≤ (s : Int)) = True := by simp; omega
            have hmin : ∀ ts t W, (Builtin.min_ ts t #[.int .i64 (s : Int), .int .i64 (b.size : Int)]).run Try.prog W = .ok (.int .i64 (b.size : Int)) W := fun ts t W => by rw [min_both s b.size ts t W, Nat.min_eq_right hle]
            clear hr HCAT hkd
            clear R0 K0 hge hle
            go_wp2_with (at_builtin; refine wpList_append_run rfl _ _ 23 23 rfl _ _ rfl rfl HR.out ?_)
            have hk := HK.out
            go_roundg (gk - 1)
            case measure => omega
            case rel => exact ⟨j + 1, s, by first | rfl | (simp; omega), by omega, HT⟩
          · rw [decide_eq_false hle] at hkd
            obtain ⟨a2, l2, c2, w2, hr, HT⟩ := HCAT.out _ _ hkd
            rw [Nat.min_eq_left (show s ≤ b.size by omega)] at hr
            have HR : Hid ((Builtin.append_ #[23, 23] 23 #[u10, .slice (some ⟨wr.heap.size + 1, 0, none⟩) 1 1]).run Try.prog ((wr.alloc (frobj 1 1 id (b.extract 0 s))).alloc (frobj 1 1 id (b.extract 0 s))) = .ok (.slice a2 l2 c2) w2) := hr
            have hle' : ((b.size : Int) ≤ (s : Int)) = False := by simp; omega
            have hmin : ∀ ts t W, (Builtin.min_ ts t #[.int .i64 (s : Int), .int .i64 (b.size : Int)]).run Try.prog W = .ok (.int .i64 (s : Int)) W := fun ts t W => by rw [min_both s b.size ts t W, Nat.min_eq_left (show s ≤ b.size by omega)]
            have hsb : s ≤ b.size := by omega
            clear hr HCAT hkd
            clear R0 K0 hge hle
            go_wp2_with (at_builtin; refine wpList_append_run rfl _ _ 23 23 rfl _ _ rfl rfl HR.out ?_)
            have hk := HK.out
            go_roundg (gk - 1)
            case measure => omega
            case rel => exact ⟨j + 1, s, by first | rfl | (simp; omega), by omega, HT⟩
        · have hkd := hkd1 h0
          have ho0 := hon h0
          have hob2 : o < b.size := by omega
          have hoz' : ((o : Int) == 0) = false := by simp; omega
          clear hkd0 hkd1 hoz hon hoj
          by_cases hle : b.size ≤ s
          · have hfl : flagsAt true (decide (b.size ≤ s)) j = 4 := by
              rw [decide_eq_true hle]
              unfold flagsAt endF
              rw [if_pos rfl, if_neg (fun g => h0 g.1)]
              rfl
            rw [hfl] at hkd
            obtain ⟨a2, l2, c2, w2, hr, HT⟩ := HCAT.out _ _ hkd
            rw [Nat.min_eq_right hle] at hr
            have HR := hid hr
            have hle' : ((b.size : Int) ≤ (s : Int)) = True := by simp; omega
            have hmin : ∀ ts t W, (Builtin.min_ ts t #[.int .i64 (s : Int), .int .i64 (b.size : Int)]).run Try.prog W = .ok (.int .i64 (b.size : Int)) W := fun ts t W => by rw [min_both s b.size ts t W, Nat.min_eq_right hle]
            clear hr HCAT hkd hfl
            clear R0 K0 hge hle
            go_wp2_with (at_builtin; refine wpList_append_run rfl _ _ 23 23 rfl _ _ rfl rfl HR.out ?_)
            have hk := HK.out
            go_roundg (gk - 1)
            case measure => omega
            case rel => exact ⟨j + 1, s, by first | rfl | (simp; omega), by omega, HT⟩
          · have hfl : flagsAt true (decide (b.size ≤ s)) j = 0 := by
              rw [decide_eq_false hle]
              unfold flagsAt endF
              rw [if_neg (by simp), if_neg (fun g => h0 g.1)]
            rw [hfl] at hkd
            obtain ⟨a2, l2, c2, w2, hr, HT⟩ := HCAT.out _ _ hkd
            rw [Nat.min_eq_left (show s ≤ b.size by omega)] at hr
            have HR := hid hr
            have hle' : ((b.size : Int) ≤ (s : Int)) = False := by simp; omega
            have hmin : ∀ ts t W, (Builtin.min_ ts t #[.int .i64 (s : Int), .int .i64 (b.size : Int)]).run Try.prog W = .ok (.int .i64 (s : Int)) W := fun ts t W => by rw [min_both s b.size ts t W, Nat.min_eq_left (show s ≤ b.size by omega)]
            have hsb : s ≤ b.size := by omega
            clear hr HCAT hkd hfl
            clear R0 K0 hge hle
            go_wp2_with (at_builtin; refine wpList_append_run rfl _ _ 23 23 rfl _ _ rfl rfl HR.out ?_)
            have hk := HK.out
            go_roundg (gk - 1)
            case measure => omega
            case rel => exact ⟨j + 1, s, by first | rfl | (simp; omega), by omega, HT⟩
      · obtain rfl : j = n := by omega
        obtain ⟨ho, R0, K0⟩ := G.out
        have HR : Hid (wr.ownsRow w.heap.size 39 4 u10 (cutK id b true m j).length (qcells (cutK id b true m j)) ∧ Keeps nobody w wr) := ⟨R0, K0⟩
        rw [ho] at hend
        have ho0 : 0 < o := by rw [← ho]; exact Nat.mul_pos hp0 hm
        have hoz' : ((o : Int) == 0) = false := by simp; omega
        clear hk G R0 K0 ho HJ
        go_wp2
        go_ret2
        exact ⟨_, rfl, HR.out⟩
end Go.Proofs.Ytdpbnlamdgdljaa
