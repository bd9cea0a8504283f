/-
  Package block: Cut.
-/
import Derived.Test.YtdpbnlamdgdljaaJSpec
import Derived.Test.YtdpbnlamdgdljaaDSpec
import Derived.Test.YtdpbnlamdgdljaaGHeld
namespace Go.Proofs.Ytdpbnlamdgdljaa
open Go.RowKit
attribute [local irreducible] nums str pieceN

def kindAt (k : Nat) : Int := if k = 0 then 1 else 9
theorem cut_mid (id : Int) (b : ByteArray) (e : Bool) (m k o : Nat) (ho : k * m = o) (h : o + m < b.size) : cutAt id b e m k = ⟨kindAt k, endF e k, id, b.extract o (o + m)⟩ := by
  subst ho
  show (⟨kindAt k, flagsAt e (decide (b.size ≤ k * m + m)) k, id, b.extract (k * m) (min (k * m + m) b.size)⟩ : Frm) = _
  rw [decide_eq_false (by omega), Nat.min_eq_left (by omega)]
  rfl
theorem cut_end (id : Int) (b : ByteArray) (e : Bool) (m k o : Nat) (ho : k * m = o) (h : b.size ≤ o + m) : cutAt id b e m k = ⟨kindAt k, endF e k + 4, id, b.extract o b.size⟩ := by
  subst ho
  show (⟨kindAt k, flagsAt e (decide (b.size ≤ k * m + m)) k, id, b.extract (k * m) (min (k * m + m) b.size)⟩ : Frm) = _
  rw [decide_eq_true h, Nat.min_eq_right h]
  rfl
theorem kindAt_succ (k : Nat) : kindAt (k + 1) = 9 := by simp [kindAt]
theorem endF_succ (e : Bool) (k : Nat) : endF e (k + 1) = 0 := by simp [endF]
theorem endF_or (e : Bool) (k : Nat) : bits .or .i64 (endF e k) 4 = endF e k + 4 := by
  unfold endF
  split <;> decide +kernel
theorem drop_drop (b : ByteArray) (o m : Nat) : (b.extract o b.size).extract m (b.size - o) = b.extract (o + m) b.size := by
  apply nums_inj
  simp only [nums_extract]
  rw [List.take_of_length_le (l := (List.take b.size (nums b)).drop o) (by simp [nums_length]), List.drop_drop]
theorem take_drop (b : ByteArray) (o m : Nat) : (b.extract o b.size).extract 0 m = b.extract o (o + m) := by
  apply nums_inj
  simp only [nums_extract, List.drop_zero]
  rw [List.take_of_length_le (l := nums b) (by simp [nums_length]), List.take_drop]
theorem bwithin_ok (n a m : Int) (w : World) : Calls Try.prog 20 #[.int .i64 n, .int .i64 a, .int .i64 m] w fun e w' => e = .returned (.bool (decide (a ≤ n ∧ n ≤ m))) ∧ w = w' := by
  by_cases h : a ≤ n
  · have e : decide (a ≤ n ∧ n ≤ m) = decide (n ≤ m) := by simp [h]
    rw [e]
    go_enter Try.func20, Try.ntmps20
    go_wp2
    go_ret
    exact ⟨by simp, rfl⟩
  · have e : decide (a ≤ n ∧ n ≤ m) = false := by simp [h]
    rw [e]
    go_enter Try.func20, Try.ntmps20
    go_wp2
    go_ret
    exact ⟨rfl, rfl⟩
theorem cut_no (id m : Int) (b : ByteArray) (e : Bool) (w : World) (h : ¬ cuts id m) : Calls Try.prog 10 #[.int .i64 id, .string b, .bool e, .int .i64 m] w fun e w' => e = .returned (.tuple #[.slice none 0 0, .bool false]) ∧ w = w' := by
  have HI : Hid (∀ w, Calls Try.prog 20 #[.int .i64 id, .int .i64 1, .int .i64 2147483647] w fun e w' => e = .returned (.bool (decide (1 ≤ id ∧ id ≤ 2147483647))) ∧ w = w') := bwithin_ok id 1 2147483647
  have HM : Hid (∀ w, Calls Try.prog 20 #[.int .i64 m, .int .i64 64, .int .i64 512] w fun e w' => e = .returned (.bool (decide (64 ≤ m ∧ m ≤ 512))) ∧ w = w') := bwithin_ok m 64 512
  by_cases h1 : 1 ≤ id ∧ id ≤ 2147483647
  · have h2 : ¬ (64 ≤ m ∧ m ≤ 512) := fun h2 => h ⟨h1, h2⟩
    rw [decide_eq_true h1] at HI
    rw [decide_eq_false h2] at HM
    clear h h1 h2
    go_enter Try.func10, Try.ntmps10
    go_wp2_with fail
    refine Calls.mono (HI.out _) ?_
    rintro e w1 ⟨rfl, rfl⟩
    go_wp2_with fail
    refine Calls.mono (HM.out _) ?_
    rintro e w1 ⟨rfl, rfl⟩
    go_wp2
    go_ret2
    exact ⟨rfl, rfl⟩
  · rw [decide_eq_false h1] at HI
    clear h h1
    go_enter Try.func10, Try.ntmps10
    go_wp2_with fail
    refine Calls.mono (HI.out _) ?_
    rintro e w1 ⟨rfl, rfl⟩
    go_wp2
    go_ret2
    exact ⟨rfl, rfl⟩

/-- A frame is put behind a list of them. -/
theorem q_append {w : World} {base : Nat} {v : Value} {l : List Frm} (h : w.ownsRow base 39 4 v l.length (qcells l)) (f : Frm) (hl : l.length ≤ 100000) (hb : base ≤ w.heap.size) (ty : TypeId) :
    ∃ a n c w', (Builtin.append_ #[23, 23] ty #[v, .slice (some ⟨w.heap.size, 0, none⟩) 1 1]).run Try.prog (w.alloc (frobj f.kind f.flags f.id f.body)) = .ok (.slice a n c) w' ∧ w'.ownsRow base 39 4 (.slice a n c) (l ++ [f]).length (qcells (l ++ [f])) ∧ Keeps (fun k => v.ownBlock = some k) w w' := by
  obtain ⟨i5, hi5, hz0, hz1, hz2⟩ := info_parts infoQ
  have h2 : (w.alloc (frobj f.kind f.flags f.id f.body)).ownsRow base 39 4 v l.length (qcells l) := h.alloc _
  obtain ⟨v', w', h3, h4, h5, _⟩ := run_append_new (P := Try.prog) 23 ty 39 i5 _ 4 40 Try.underlying23 hi5 hz0 hz1 hz2 rfl (by decide) h2 ⟨w.heap.size, 0, none⟩ 1 1 (qcells [f]) rfl (fun j u hj => by
    rw [Addr.add_mid, Nat.zero_add]
    match j, hj with
    | 0, hj => simp [qcells, qpair] at hj; subst hj; simp
    | 1, hj => simp [qcells, qpair] at hj; subst hj; simp
    | 2, hj => simp [qcells, qpair] at hj; subst hj; simp
    | 3, hj => simp [qcells, qpair] at hj; subst hj; simp) (qcells_one _) (by unfold maxLen; omega) (by omega) (by simp; omega)
  obtain ⟨a, n, c, rfl⟩ := row_slice h4
  refine ⟨a, n, c, w', h3, ?_, ?_⟩
  · rw [← qcells_append] at h4
    simpa using h4
  · exact ((keeps_alloc w _).mono fun _ _ e => e.elim).grown h5 fun k hk => .inl hk

/-- A frame's box, as a block of its own. -/
def FB (w : World) (g : Nat) (f : Frm) : Prop := w.heap[g]? = some (.cells #[.int .i64 f.kind, .int .i64 f.flags, .int .i64 f.id, .string f.body] 39 (0, 0))
theorem FB.bx {w : World} {g : Nat} {f : Frm} (h : FB w g f) : Bx w g f := by
  unfold FB at h
  refine ⟨?_, ?_, ?_, ?_, fun n => ?_⟩ <;> simp [World.cell?, World.frozen?, h]
theorem FB.keeps {S : Nat → Prop} {w w' : World} {g : Nat} {f : Frm} (h : FB w g f) (k : Keeps S w w') (hS : ¬ S g) : FB w' g f := (k.block g h.bx.lt hS).trans h
theorem FB.body {w : World} {g : Nat} {f : Frm} (h : FB w g f) (b : ByteArray) : FB (w.setCell ⟨g, 3, none⟩ (.string b)) g ⟨f.kind, f.flags, f.id, b⟩ := by
  unfold FB at h ⊢
  simp [World.setCell, h, Array.getElem?_modify]
theorem FB.flagged {w : World} {g : Nat} {f : Frm} (h : FB w g f) (fl : Int) : FB (w.setCell ⟨g, 1, none⟩ (.int .i64 fl)) g ⟨f.kind, fl, f.id, f.body⟩ := by
  unfold FB at h ⊢
  simp [World.setCell, h, Array.getElem?_modify]
theorem FB.anew {w : World} {g : Nat} {f : Frm} (h : FB w g f) (k fl id : Int) (b : ByteArray) : FB ((((w.setCell ⟨g, 0, none⟩ (.int .i64 k)).setCell ⟨g, 1, none⟩ (.int .i64 fl)).setCell ⟨g, 2, none⟩ (.int .i64 id)).setCell ⟨g, 3, none⟩ (.string b)) g ⟨k, fl, id, b⟩ := by
  unfold FB at h ⊢
  simp [World.setCell, h, Array.getElem?_modify]
theorem four_anew (w : World) (g : Nat) (k fl id : Int) (b : ByteArray) : Keeps (fun n => n = g) w ((((w.setCell ⟨g, 0, none⟩ (.int .i64 k)).setCell ⟨g, 1, none⟩ (.int .i64 fl)).setCell ⟨g, 2, none⟩ (.int .i64 id)).setCell ⟨g, 3, none⟩ (.string b)) :=
  ((((Keeps.refl (fun n => n = g) w).setCell (p := ⟨g, 0, none⟩) (.inl rfl) _).setCell (p := ⟨g, 1, none⟩) (.inl rfl) _).setCell (p := ⟨g, 2, none⟩) (.inl rfl) _).setCell (p := ⟨g, 3, none⟩) (.inl rfl) _

set_option maxRecDepth 100000 in
set_option maxHeartbeats 2000000 in
theorem cut_ok (id : Int) (m : Nat) (b : ByteArray) (e : Bool) (w : World) (h : cuts id m) (hb : b.size ≤ 3000) : Calls Try.prog 10 #[.int .i64 id, .string b, .bool e, .int .i64 (m : Int)] w fun r w' => ∃ v, r = .returned (.tuple #[v, .bool true]) ∧ Hid (w'.ownsRow w.heap.size 39 4 v (cutA id b e m).length (qcells (cutA id b e m))) ∧ Keeps nobody w w' := by
  have HI : Hid (∀ w, Calls Try.prog 20 #[.int .i64 id, .int .i64 1, .int .i64 2147483647] w fun e w' => e = .returned (.bool true) ∧ w = w') := fun w => by
    have := bwithin_ok id 1 2147483647 w
    rwa [decide_eq_true h.1] at this
  have HM : Hid (∀ w, Calls Try.prog 20 #[.int .i64 (m : Int), .int .i64 64, .int .i64 512] w fun e w' => e = .returned (.bool true) ∧ w = w') := fun w => by
    have := bwithin_ok m 64 512 w
    rwa [decide_eq_true h.2] at this
  have h1 : 64 ≤ m := by have := h.2.1; omega
  have h2 : m ≤ 512 := by have := h.2.2; omega
  have hm : 0 < m := by omega
  generalize hQ : (fun (v : Value) (W : World) => Hid (W.ownsRow w.heap.size 39 4 v (cutA id b e m).length (qcells (cutA id b e m))) ∧ Keeps nobody w W) = Q
  have HQ : Hid (∀ j o v W, j < pieceN b.size m → j * m = o → b.size ≤ o + m → W.ownsRow (w.heap.size + 1) 39 4 v (cutK id b e m j ++ [(⟨kindAt j, endF e j + 4, id, b.extract o b.size⟩ : Frm)]).length (qcells (cutK id b e m j ++ [(⟨kindAt j, endF e j + 4, id, b.extract o b.size⟩ : Frm)])) → Keeps nobody w W → Q v W) := by
    intro j o v W hj ho hle hr hk
    rw [← hQ]
    rw [← cut_end id b e m j o ho hle, ← cutK_succ] at hr
    have hp : j + 1 = pieceN b.size m := (piece_last hm hj).1 (by rw [ho]; exact hle)
    refine ⟨?_, hk⟩
    have : cutA id b e m = cutK id b e m (j + 1) := by rw [cutA, hp]
    rw [this]
    refine ⟨hr.1, ?_⟩
    rcases hr.2 with e0 | ⟨rb, cc, cur, e1, e2, e3, e4⟩
    · exact .inl e0
    · exact .inr ⟨rb, cc, cur, e1, by omega, e3, e4⟩
  have HN : Hid (∀ j o, j < pieceN b.size m → j * m = o → o + m < b.size → j + 1 < pieceN b.size m ∧ (j + 1) * m = o + m ∧ cutK id b e m (j + 1) = cutK id b e m j ++ [(⟨kindAt j, endF e j, id, b.extract o (o + m)⟩ : Frm)]) := by
    intro j o hj ho hlt
    refine ⟨?_, by rw [Nat.succ_mul, ho], by rw [cutK_succ, cut_mid id b e m j o ho hlt]⟩
    have := (piece_last hm hj).2
    rw [ho] at this
    by_cases hq : j + 1 = pieceN b.size m
    · have := this hq; omega
    · omega
  have HO : Hid (∀ j, j < pieceN b.size m → j * m ≤ b.size ∧ j ≤ 47) := fun j hj => ⟨(piece_lt hm hj).1, by have := piece_few h1 hb; omega⟩
  have hp0 : 0 < pieceN b.size m := pieceN_pos _ _ hm
  suffices H : Calls Try.prog 10 #[.int .i64 id, .string b, .bool e, .int .i64 (m : Int)] w fun r w' => ∃ v, r = .returned (.tuple #[v, .bool true]) ∧ Q v w' by
    refine H.mono ?_
    rintro r w' ⟨v, hv, hq⟩
    exact ⟨v, hv, by rw [← hQ] at hq; exact hq⟩
  clear hQ h hm
  generalize hn : pieceN b.size m = n at *
  have HZ : Hid (b.extract 0 b.size = b) := extract_all b _ (Nat.le_refl _)
  cases e with
  | false =>
    go_enter Try.func10, Try.ntmps10
    go_wp2_with fail
    refine Calls.mono (HI.out _) ?_
    rintro r w1 ⟨rfl, rfl⟩
    go_wp2_with fail
    refine Calls.mono (HM.out _) ?_
    rintro r w1 ⟨rfl, rfl⟩
    go_wp2_with fail
    go_loopg [1, 11] n (fun k sv lv wr => ∃ (j o : Nat) (s : ByteArray), sv = .string s ∧ k + j = n ∧ Hid (j < n ∧ j * m = o ∧ s = b.extract o b.size ∧ wr.ownsRow (w.heap.size + 1) 39 4 lv (cutK id b false m j).length (qcells (cutK id b false m j)) ∧ Keeps nobody w wr ∧ FB wr w.heap.size ⟨kindAt j, endF false j, id, ⟨#[]⟩⟩))
    case atStart => exact ⟨0, 0, b, rfl, rfl, hp0, by simp, HZ.out.symm, World.ownsRow_nil _ _ _ _, keeps_alloc _ _, heap_alloc_new w _⟩
    case round =>
      obtain ⟨j, o, s, rfl, hk, G⟩ := hrel
      have HK := hid hk
      obtain ⟨hj, ho, hs, R0, K0, B0⟩ := G.out
      have hoj := HO.out j hj
      rw [ho] at hoj
      have hsz : s.size = b.size - o := by rw [hs, extract_size _ _ _ (Nat.le_refl _)]
      have hnb : ∀ k, u11.ownBlock = some k → k ≠ w.heap.size := fun k e0 => by
        have := (R0.lt k e0).1
        omega
      have hwl := K0.size
      have hlb := B0.bx.lt
      obtain ⟨c0, c1, c2, c3, cf⟩ := B0.bx
      simp only at c0 c1 c2 c3
      by_cases hlt : o + m < b.size
      · obtain ⟨n1, n2, n3⟩ := HN.out j o hj ho hlt
        have hs1 : ∀ W, (Instr.slice 9 (.string s) none (some (.int .i64 (m : Int))) none).run Try.prog W = .ok (.string (b.extract o (o + m))) W := fun W => by
          rw [run_slice_string_h W 9 s Try.underlying9 .i64 (m : Int) (by omega) (by omega), hs]
          simp only [Int.toNat_natCast]
          rw [take_drop]
        have hs2 : ∀ W, (Instr.slice 9 (.string s) (some (.int .i64 (m : Int))) none none).run Try.prog W = .ok (.string (b.extract (o + m) b.size)) W := fun W => by
          rw [slice_from s m (by omega) W, hsz, hs, drop_drop]
        have hz1 : (b.extract o (o + m)).size = m := by rw [extract_size _ _ _ (by omega)]; omega
        have KW : Keeps (fun k => k = w.heap.size) wr ((wr.setCell ⟨w.heap.size, 3, none⟩ (.string (b.extract o (o + m)))).drew) := ((Keeps.refl (fun k => k = w.heap.size) wr).setCell (p := ⟨w.heap.size, 3, none⟩) (.inl rfl) _).drew
        have R1 := KW.row R0 hnb
        obtain ⟨a2, l2, c2', w2, hr, hR2, hK2⟩ := q_append R1 ⟨kindAt j, endF false j, id, b.extract o (o + m)⟩ (by rw [cutK_length]; omega) (by simp [World.setCell]; omega) 23
        have e1 : ((wr.setCell ⟨w.heap.size, 3, none⟩ (.string (b.extract o (o + m)))).drew).heap.size = wr.heap.size := by simp [World.setCell]
        rw [e1] at hr
        have HR := hid hr
        have hbx := (FB.body (f := ⟨kindAt j, endF false j, id, ⟨#[]⟩⟩) B0 (b.extract o (o + m))).bx
        obtain ⟨d0, d1, d2, d3, _⟩ := hbx
        simp only at d0 d1 d2 d3
        have HB : Hid (FB w2 w.heap.size ⟨kindAt j, endF false j, id, b.extract o (o + m)⟩) := ((FB.body (f := ⟨kindAt j, endF false j, id, ⟨#[]⟩⟩) B0 (b.extract o (o + m))).keeps (S := nobody) ((Keeps.refl nobody _).drew) (fun e0 => e0)).keeps hK2 fun e0 => hnb _ e0 rfl
        have HT : Hid (w2.ownsRow (w.heap.size + 1) 39 4 (.slice a2 l2 c2') (cutK id b false m (j + 1)).length (qcells (cutK id b false m (j + 1))) ∧ Keeps nobody w w2) := by
          rw [n3]
          refine ⟨hR2, ?_⟩
          refine (K0.trans (T := fun k => k = w.heap.size ∨ u11.ownBlock = some k) ((KW.mono fun k _ e0 => .inl e0).trans hK2 fun k _ e0 => .inr e0) ?_)
          rintro k hk2 (e0 | e0)
          · omega
          · have := (R0.lt k e0).1; omega
        have N1 := hid n1
        have N2 := hid n2
        clear hr hR2 hK2 R1 KW R0 hs B0 G HN n1 n2 n3 e1 hk ho
        generalize b.extract o (o + m) = p1 at *
        generalize hpp : b.extract (o + m) b.size = p2 at *
        have HPP := hid hpp
        clear hpp
        generalize hkj : kindAt j = kj at *
        generalize hej : endF false j = ej at *
        clear hkj hej
        go_wp2_with fail
        go_region
        obtain ⟨e0, e1, e2, e3, ef⟩ := HB.out.bx
        simp only at e0 e1 e2 e3
        go_wp2_with (at_builtin; refine wpList_append_run rfl _ _ 23 23 rfl _ _ rfl rfl HR.out ?_)
        have hk := HK.out
        go_roundg (gk - 1)
        case measure => omega
        case rel =>
          refine ⟨j + 1, o + m, p2, rfl, by omega, N1.out, N2.out, HPP.out.symm, ?_, ?_, ?_⟩
          · have kk : Keeps (fun k => k = w.heap.size) w2 ((((w2.setCell ⟨w.heap.size, 0, none⟩ (.int .i64 9)).setCell ⟨w.heap.size, 1, none⟩ (.int .i64 0)).setCell ⟨w.heap.size, 2, none⟩ (.int .i64 id)).setCell ⟨w.heap.size, 3, none⟩ (.string ⟨#[]⟩)) := four_anew w2 _ _ _ _ _
            refine kk.row HT.out.1 fun k e0 e9 => ?_
            have := (HT.out.1.lt k e0).1
            omega
          · exact (((HT.out.2.setCell (p := ⟨w.heap.size, 0, none⟩) (.inr (Nat.le_refl _)) _).setCell (p := ⟨w.heap.size, 1, none⟩) (.inr (Nat.le_refl _)) _).setCell (p := ⟨w.heap.size, 2, none⟩) (.inr (Nat.le_refl _)) _).setCell (p := ⟨w.heap.size, 3, none⟩) (.inr (Nat.le_refl _)) _
          · rw [kindAt_succ, endF_succ]
            exact HB.out.anew 9 0 id ⟨#[]⟩
      · have hle : b.size ≤ o + m := by omega
        have hsm : ¬ m < s.size := by omega
        have hbx := (FB.body (f := ⟨kindAt j, endF false j, id, ⟨#[]⟩⟩) B0 s).bx
        obtain ⟨f0, f1, f2, f3, ff⟩ := hbx
        have hB2 := FB.flagged (f := ⟨kindAt j, endF false j, id, s⟩) (FB.body (f := ⟨kindAt j, endF false j, id, ⟨#[]⟩⟩) B0 s) (endF false j + 4)
        obtain ⟨d0, d1, d2, d3, _⟩ := hB2.bx
        simp only at f0 f1 f2 f3 d0 d1 d2 d3
        have KW : Keeps (fun k => k = w.heap.size) wr ((wr.setCell ⟨w.heap.size, 3, none⟩ (.string s)).setCell ⟨w.heap.size, 1, none⟩ (.int .i64 (endF false j + 4))) := ((Keeps.refl (fun k => k = w.heap.size) wr).setCell (p := ⟨w.heap.size, 3, none⟩) (.inl rfl) _).setCell (p := ⟨w.heap.size, 1, none⟩) (.inl rfl) _
        have R1 := KW.row R0 hnb
        obtain ⟨a2, l2, c2', w2, hr, hR2, hK2⟩ := q_append R1 ⟨kindAt j, endF false j + 4, id, s⟩ (by rw [cutK_length]; omega) (by simp [World.setCell]; omega) 23
        have e1 : ((wr.setCell ⟨w.heap.size, 3, none⟩ (.string s)).setCell ⟨w.heap.size, 1, none⟩ (.int .i64 (endF false j + 4))).heap.size = wr.heap.size := by simp [World.setCell]
        rw [e1] at hr
        have HR := hid hr
        have HT : Hid (Q (.slice a2 l2 c2') w2) := by
          refine HQ.out j o _ _ hj ho hle ?_ ?_
          · rw [hs] at hR2
            exact hR2
          · refine (K0.trans (T := fun k => k = w.heap.size ∨ u11.ownBlock = some k) ((KW.mono fun k _ e0 => .inl e0).trans hK2 fun k _ e0 => .inr e0) ?_)
            rintro k hk2 (e0 | e0)
            · omega
            · have := (R0.lt k e0).1; omega
        have hor := endF_or false j
        clear hr hR2 hK2 R1 KW R0 hs G HN HQ HO B0 hB2 e1 hk ho hle hlt
        generalize hkj : kindAt j = kj at *
        generalize hej : endF false j = ej at *
        generalize hej4 : ej + 4 = ef at *
        clear hkj hej hej4
        go_wp2_with (at_builtin; refine wpList_append_run rfl _ _ 23 23 rfl _ _ rfl rfl HR.out ?_)
        go_ret2
        exact ⟨_, rfl, HT.out⟩
  | true =>
    go_enter Try.func10, Try.ntmps10
    go_wp2_with fail
    refine Calls.mono (HI.out _) ?_
    rintro r w1 ⟨rfl, rfl⟩
    go_wp2_with fail
    refine Calls.mono (HM.out _) ?_
    rintro r w1 ⟨rfl, rfl⟩
    go_wp2_with fail
    go_loopg [1, 11] n (fun k sv lv wr => ∃ (j o : Nat) (s : ByteArray), sv = .string s ∧ k + j = n ∧ Hid (j < n ∧ j * m = o ∧ s = b.extract o b.size ∧ wr.ownsRow (w.heap.size + 1) 39 4 lv (cutK id b true m j).length (qcells (cutK id b true m j)) ∧ Keeps nobody w wr ∧ FB wr w.heap.size ⟨kindAt j, endF true j, id, ⟨#[]⟩⟩))
    case atStart => exact ⟨0, 0, b, rfl, rfl, hp0, by simp, HZ.out.symm, World.ownsRow_nil _ _ _ _, keeps_alloc _ _, heap_alloc_new w _⟩
    case round =>
      obtain ⟨j, o, s, rfl, hk, G⟩ := hrel
      have HK := hid hk
      obtain ⟨hj, ho, hs, R0, K0, B0⟩ := G.out
      have hoj := HO.out j hj
      rw [ho] at hoj
      have hsz : s.size = b.size - o := by rw [hs, extract_size _ _ _ (Nat.le_refl _)]
      have hnb : ∀ k, u11.ownBlock = some k → k ≠ w.heap.size := fun k e0 => by
        have := (R0.lt k e0).1
        omega
      have hwl := K0.size
      have hlb := B0.bx.lt
      obtain ⟨c0, c1, c2, c3, cf⟩ := B0.bx
      simp only at c0 c1 c2 c3
      by_cases hlt : o + m < b.size
      · obtain ⟨n1, n2, n3⟩ := HN.out j o hj ho hlt
        have hs1 : ∀ W, (Instr.slice 9 (.string s) none (some (.int .i64 (m : Int))) none).run Try.prog W = .ok (.string (b.extract o (o + m))) W := fun W => by
          rw [run_slice_string_h W 9 s Try.underlying9 .i64 (m : Int) (by omega) (by omega), hs]
          simp only [Int.toNat_natCast]
          rw [take_drop]
        have hs2 : ∀ W, (Instr.slice 9 (.string s) (some (.int .i64 (m : Int))) none none).run Try.prog W = .ok (.string (b.extract (o + m) b.size)) W := fun W => by
          rw [slice_from s m (by omega) W, hsz, hs, drop_drop]
        have hz1 : (b.extract o (o + m)).size = m := by rw [extract_size _ _ _ (by omega)]; omega
        have KW : Keeps (fun k => k = w.heap.size) wr ((wr.setCell ⟨w.heap.size, 3, none⟩ (.string (b.extract o (o + m)))).drew) := ((Keeps.refl (fun k => k = w.heap.size) wr).setCell (p := ⟨w.heap.size, 3, none⟩) (.inl rfl) _).drew
        have R1 := KW.row R0 hnb
        obtain ⟨a2, l2, c2', w2, hr, hR2, hK2⟩ := q_append R1 ⟨kindAt j, endF true j, id, b.extract o (o + m)⟩ (by rw [cutK_length]; omega) (by simp [World.setCell]; omega) 23
        have e1 : ((wr.setCell ⟨w.heap.size, 3, none⟩ (.string (b.extract o (o + m)))).drew).heap.size = wr.heap.size := by simp [World.setCell]
        rw [e1] at hr
        have HR := hid hr
        have hbx := (FB.body (f := ⟨kindAt j, endF true j, id, ⟨#[]⟩⟩) B0 (b.extract o (o + m))).bx
        obtain ⟨d0, d1, d2, d3, _⟩ := hbx
        simp only at d0 d1 d2 d3
        have HB : Hid (FB w2 w.heap.size ⟨kindAt j, endF true j, id, b.extract o (o + m)⟩) := ((FB.body (f := ⟨kindAt j, endF true j, id, ⟨#[]⟩⟩) B0 (b.extract o (o + m))).keeps (S := nobody) ((Keeps.refl nobody _).drew) (fun e0 => e0)).keeps hK2 fun e0 => hnb _ e0 rfl
        have HT : Hid (w2.ownsRow (w.heap.size + 1) 39 4 (.slice a2 l2 c2') (cutK id b true m (j + 1)).length (qcells (cutK id b true m (j + 1))) ∧ Keeps nobody w w2) := by
          rw [n3]
          refine ⟨hR2, ?_⟩
          refine (K0.trans (T := fun k => k = w.heap.size ∨ u11.ownBlock = some k) ((KW.mono fun k _ e0 => .inl e0).trans hK2 fun k _ e0 => .inr e0) ?_)
          rintro k hk2 (e0 | e0)
          · omega
          · have := (R0.lt k e0).1; omega
        have N1 := hid n1
        have N2 := hid n2
        clear hr hR2 hK2 R1 KW R0 hs B0 G HN n1 n2 n3 e1 hk ho
        generalize b.extract o (o + m) = p1 at *
        generalize hpp : b.extract (o + m) b.size = p2 at *
        have HPP := hid hpp
        clear hpp
        generalize hkj : kindAt j = kj at *
        generalize hej : endF true j = ej at *
        clear hkj hej
        go_wp2_with fail
        go_region
        obtain ⟨e0, e1, e2, e3, ef⟩ := HB.out.bx
        simp only at e0 e1 e2 e3
        go_wp2_with (at_builtin; refine wpList_append_run rfl _ _ 23 23 rfl _ _ rfl rfl HR.out ?_)
        have hk := HK.out
        go_roundg (gk - 1)
        case measure => omega
        case rel =>
          refine ⟨j + 1, o + m, p2, rfl, by omega, N1.out, N2.out, HPP.out.symm, ?_, ?_, ?_⟩
          · have kk : Keeps (fun k => k = w.heap.size) w2 ((((w2.setCell ⟨w.heap.size, 0, none⟩ (.int .i64 9)).setCell ⟨w.heap.size, 1, none⟩ (.int .i64 0)).setCell ⟨w.heap.size, 2, none⟩ (.int .i64 id)).setCell ⟨w.heap.size, 3, none⟩ (.string ⟨#[]⟩)) := four_anew w2 _ _ _ _ _
            refine kk.row HT.out.1 fun k e0 e9 => ?_
            have := (HT.out.1.lt k e0).1
            omega
          · exact (((HT.out.2.setCell (p := ⟨w.heap.size, 0, none⟩) (.inr (Nat.le_refl _)) _).setCell (p := ⟨w.heap.size, 1, none⟩) (.inr (Nat.le_refl _)) _).setCell (p := ⟨w.heap.size, 2, none⟩) (.inr (Nat.le_refl _)) _).setCell (p := ⟨w.heap.size, 3, none⟩) (.inr (Nat.le_refl _)) _
          · rw [kindAt_succ, endF_succ]
            exact HB.out.anew 9 0 id ⟨#[]⟩
      · have hle : b.size ≤ o + m := by omega
        have hsm : ¬ m < s.size := by omega
        have hbx := (FB.body (f := ⟨kindAt j, endF true j, id, ⟨#[]⟩⟩) B0 s).bx
        obtain ⟨f0, f1, f2, f3, ff⟩ := hbx
        have hB2 := FB.flagged (f := ⟨kindAt j, endF true j, id, s⟩) (FB.body (f := ⟨kindAt j, endF true j, id, ⟨#[]⟩⟩) B0 s) (endF true j + 4)
        obtain ⟨d0, d1, d2, d3, _⟩ := hB2.bx
        simp only at f0 f1 f2 f3 d0 d1 d2 d3
        have KW : Keeps (fun k => k = w.heap.size) wr ((wr.setCell ⟨w.heap.size, 3, none⟩ (.string s)).setCell ⟨w.heap.size, 1, none⟩ (.int .i64 (endF true j + 4))) := ((Keeps.refl (fun k => k = w.heap.size) wr).setCell (p := ⟨w.heap.size, 3, none⟩) (.inl rfl) _).setCell (p := ⟨w.heap.size, 1, none⟩) (.inl rfl) _
        have R1 := KW.row R0 hnb
        obtain ⟨a2, l2, c2', w2, hr, hR2, hK2⟩ := q_append R1 ⟨kindAt j, endF true j + 4, id, s⟩ (by rw [cutK_length]; omega) (by simp [World.setCell]; omega) 23
        have e1 : ((wr.setCell ⟨w.heap.size, 3, none⟩ (.string s)).setCell ⟨w.heap.size, 1, none⟩ (.int .i64 (endF true j + 4))).heap.size = wr.heap.size := by simp [World.setCell]
        rw [e1] at hr
        have HR := hid hr
        have HT : Hid (Q (.slice a2 l2 c2') w2) := by
          refine HQ.out j o _ _ hj ho hle ?_ ?_
          · rw [hs] at hR2
            exact hR2
          · refine (K0.trans (T := fun k => k = w.heap.size ∨ u11.ownBlock = some k) ((KW.mono fun k _ e0 => .inl e0).trans hK2 fun k _ e0 => .inr e0) ?_)
            rintro k hk2 (e0 | e0)
            · omega
            · have := (R0.lt k e0).1; omega
        have hor := endF_or true j
        clear hr hR2 hK2 R1 KW R0 hs G HN HQ HO B0 hB2 e1 hk ho hle hlt
        generalize hkj : kindAt j = kj at *
        generalize hej : endF true j = ej at *
        generalize hej4 : ej + 4 = ef at *
        clear hkj hej hej4
        go_wp2_with (at_builtin; refine wpList_append_run rfl _ _ 23 23 rfl _ _ rfl rfl HR.out ?_)
        go_ret2
        exact ⟨_, rfl, HT.out⟩
end Go.Proofs.Ytdpbnlamdgdljaa
