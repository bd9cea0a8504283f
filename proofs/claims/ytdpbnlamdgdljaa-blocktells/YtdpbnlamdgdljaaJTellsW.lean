/-
  The law BlockTells as a walk.
-/
import Derived.Test.YtdpbnlamdgdljaaJTellS
namespace Go.Proofs.Ytdpbnlamdgdljaa
open Go.RowKit
attribute [local irreducible] nums str pieceN cutAt takeA opnK cutA zerosB checkA cutB stK

set_option maxRecDepth 100000 in
theorem btells_off (id m : Int) (b : ByteArray) (e : Bool) (w : World) (h : 3000 < b.size) : Calls Try.prog 3 #[.int .i64 id, .string b, .bool e, .int .i64 m] w (Fine w) := by
  have HA : Hid (∀ W, Calls Try.prog 9 #[] W fun e w' => e = .returned (.bool true) ∧ Keeps nobody W w') := alive_ok
  go_enter Try.func3, Try.ntmps3
  go_wp2_with fail
  refine Calls.mono (HA.out _) ?_
  rintro e w1 ⟨rfl, k1⟩
  go_wp2
  go_ret
  exact ⟨rfl, below_of_keeps k1⟩

set_option maxRecDepth 100000 in
set_option maxHeartbeats 4000000 in
theorem btells_main (id m : Int) (b : ByteArray) (e : Bool) (w : World) (hb : b.size ≤ 3000) : Calls Try.prog 3 #[.int .i64 id, .string b, .bool e, .int .i64 m] w (Fine w) := by
  have HA : Hid (∀ W, Calls Try.prog 9 #[] W fun e w' => e = .returned (.bool true) ∧ Keeps nobody W w') := alive_ok
  have HC : Hid (∀ W ts, Hold w W ts → Calls Try.prog 10 #[.int .i64 id, .string b, .bool e, .int .i64 m] W fun r w' => ∃ xa c, r = .returned (.tuple #[.slice xa (cutB id b e m).length c, .bool (decide (cuts id m))]) ∧ Hid (Hold w w' (rowT (.slice xa (cutB id b e m).length c) (cutB id b e m) :: ts))) := fun W ts h => t_cutB h id m b e hb
  have HD : Hid (∀ W ts, Hold w W ts → Calls Try.prog 11 #[.int .i64 id, .string b, .bool e, .int .i64 m] W fun r w' => ∃ xa c, r = .returned (.tuple #[.slice xa (cutB id b e m).length c, .bool (decide (cuts id m))]) ∧ Hid (Hold w w' (rowT (.slice xa (cutB id b e m).length c) (cutB id b e m) :: ts))) := fun W ts h => t_rcutB h id m b e hb
  have hn := cutB_few id b e m hb
  have HF := hid (fun j hj => tells_step id b e m j hb hj)
  have hS0 := stK_zero id b e m
  have hSn := stK_end id b e m
  have hM1 : 1 ≤ max b.size 1 := Nat.le_max_right _ _
  have hM2 : max b.size 1 ≤ 3001 := by omega
  have hmax := maxB b.size
  generalize hL : cutB id b e m = L at *
  generalize stK id b e m = S at *
  generalize decide (cuts id m) = ok at *
  generalize max b.size 1 = M at *
  clear hL
  have HN : Hid (∀ W ts, Hold w W ts → Calls Try.prog 14 #[.int .i64 (M : Int)] W fun e w' => ∃ g v, e = .returned (.pointer (some ⟨g, 0, none⟩)) ∧ Hid (Hold w w' (blT g v M noO :: ts))) := fun W ts h => t_bnew h M hM1 (by omega)
  have HT : Hid (∀ f o r o2 W g v ts, o.bytes.size + f.body.size ≤ 140737488355328 → takeA M o f = (r, o2) → Hold w W (blT g v M o :: ts) → Calls Try.prog 15 #[.pointer (some ⟨g, 0, none⟩), frval f] W fun e w' => e = .returned (takeV r) ∧ ∃ v', Hid (Hold w w' (blT g v' M o2 :: ts))) := fun f o r o2 W g v ts hs ht h => by
    have := t_take h f hs
    rwa [ht] at this
  have HO : Hid (∀ o W g v ts, Hold w W (blT g v M o :: ts) → Calls Try.prog 16 #[.pointer (some ⟨g, 0, none⟩)] W fun e w' => e = .returned (.int .i64 o.id) ∧ W = w') := fun o W g v ts h => t_bopen h
  have HK1 : Hid (∀ W xa ca kb fv wv fs ws t, fs.length < 250 → Hold w W (rowT (.slice xa L.length ca) L :: ([] ++ bkT kb fv wv fs ws :: [t])) → Calls Try.prog 12 #[.pointer (some ⟨kb, 0, none⟩), .slice xa L.length ca] W fun e w' => e = .returned (.tuple #[]) ∧ Hid (∃ fv' wv' cv, Hold w w' ([] ++ bkT kb fv' wv' (fs ++ [(.slice xa L.length ca, L)]) (ws ++ [(cv, L)]) :: [t]))) := fun W xa ca kb fv wv fs ws t hf h => keep_list h (by omega) hf
  have HP : Hid (∀ W kb fv wv fs ws ts, fs.length ≤ 250 → bkT kb fv wv fs ws ∈ ts → Hold w W ts → Calls Try.prog 17 #[.pointer (some ⟨kb, 0, none⟩)] W fun e w' => e = .returned (.bool true) ∧ Below w.heap.size w w') := fun W kb fv wv fs ws ts hf hm h => book_apart h hm hf
  have HE : Hid (∀ W x1 x2 c1 c2, QLies W x1 L nobody → QLies W x2 L nobody → Calls Try.prog 13 #[.slice x1 L.length c1, .slice x2 L.length c2] W fun e w' => e = .returned (.bool true) ∧ Keeps nobody W w') := fun W x1 x2 c1 c2 h1 h2 => qsame_lies c1 c2 h1 h2 (by omega)
  clear hM1 hM2
  cases e with
  | false =>
    go_enter Try.func3, Try.ntmps3
    go_wp2_with fail
    refine Calls.mono (HA.out _) ?_
    rintro r w0 ⟨rfl, k0⟩
    have H0 := hid ((hold_nil (Below.refl w.heap.size w)).quiet k0)
    clear HA k0
    go_wp2_with fail
    refine Calls.mono (HC.out _ _ H0.out) ?_
    rintro r w1 ⟨xa, c, rfl, H1⟩
    clear H0
    go_wp2_with fail
    refine Calls.mono (HD.out _ _ H1.out) ?_
    rintro r w2 ⟨ya, yc, rfl, H2⟩
    have H3 := hid (H2.out.swap.book.swap)
    clear H1 HD H2
    go_wp2_with fail
    refine Calls.mono (HK1.out _ _ _ _ _ _ _ _ _ (by decide) H3.out) ?_
    rintro r w4 ⟨rfl, H4⟩
    obtain ⟨fv4, wv4, cv4, H4⟩ := H4.out
    have H4 := hid H4
    clear H3
    go_wp2_with fail
    refine Calls.mono (HC.out _ _ H4.out) ?_
    rintro r w5 ⟨za, zc, rfl, H5⟩
    clear H4 HC
    go_wp2_with fail
    refine Calls.mono (HK1.out _ _ _ _ _ _ _ _ _ (by simp) H5.out) ?_
    rintro r w6 ⟨rfl, H6⟩
    obtain ⟨fv6, wv6, cv6, H6⟩ := H6.out
    have H6 := hid H6
    clear H5 HK1
    generalize hfs : ([] ++ [((Value.slice xa L.length c, L) : PL)] ++ [(Value.slice za L.length zc, L)] : List PL) = fs at H6
    have hxf : (Value.slice xa L.length c, L) ∈ fs := by rw [← hfs]; simp
    have hfl : fs.length ≤ 250 := by rw [← hfs]; simp
    clear hfs
    generalize ([] ++ [(cv4, L)] ++ [(cv6, L)] : List PL) = ws at H6
    have HB : Hid (Bkd w6 w2.heap.size fv6 wv6 fs ws) := H6.out.inv (bkT w2.heap.size fv6 wv6 fs ws) (by simp)
    have HL1 : Hid (w6.ownsRow 0 39 4 (.slice xa L.length c) L.length (qcells L)) := HB.out.book.f.rows _ hxf
    have HL2 : Hid (w6.ownsRow 0 39 4 (.slice ya L.length yc) L.length (qcells L)) := H6.out.inv (rowT (.slice ya L.length yc) L) (by simp)
    have Q1 := hid (qrow_lies HL1.out (S := nobody) (fun _ _ e9 => e9))
    have Q2 := hid (qrow_lies HL2.out (S := nobody) (fun _ _ e9 => e9))
    clear HB HL1 HL2
    go_wp2_with fail
    refine Calls.mono (HE.out _ _ _ _ _ Q1.out Q2.out) ?_
    rintro r w7 ⟨rfl, k7⟩
    have H7 := hid (H6.out.quiet k7)
    clear H6 k7 HE Q1 Q2
    go_wp2_with fail
    refine Calls.mono (HN.out _ _ H7.out) ?_
    rintro r w8 ⟨g, v, rfl, H8⟩
    clear H7 HN hmax
    go_wp2_with fail
    generalize w2.heap.size = kb at *
    go_loopg [79] L.length (fun k iv wr => ∃ (j : Nat) (v : Value), iv = .int .i64 (j : Int) ∧ k + j = L.length ∧ Hid (Hold w wr [blT g v M (S j), bkT kb fv6 wv6 fs ws, rowT (.slice ya L.length yc) L]))
    case atStart => exact ⟨0, v, rfl, rfl, by show Hold _ _ _; rw [hS0]; exact H8.out⟩
    case round =>
      clear H8 hS0
      obtain ⟨j, v, rfl, hk, H1⟩ := hrel
      by_cases hj : j < L.length
      · obtain ⟨f, hat, hfs, hcase⟩ := HF.out j hj
        have HB : Hid (Bkd wr kb fv6 wv6 fs ws) := H1.out.inv (bkT kb fv6 wv6 fs ws) (by simp)
        have HL1 : Hid (wr.ownsRow 0 39 4 (.slice xa L.length c) L.length (qcells L)) := HB.out.book.f.rows _ hxf
        obtain ⟨rb, c', hv, _⟩ := row_some HL1.out (by omega)
        simp only [Value.slice.injEq] at hv
        obtain ⟨rfl, _, rfl⟩ := hv
        have hrow := qrow_cells HL1.out j hj
        have hff : L[j]'hj = f := by
          obtain ⟨_, e9⟩ := List.getElem?_eq_some_iff.1 hat
          exact e9
        rw [hff] at hrow
        obtain ⟨r0, r1, r2, r3⟩ := hrow
        have hrb : rb < wr.heap.size := (HL1.out.lt rb rfl).2
        have H3 := hid ((H1.out.quiet (keeps_alloc wr (frobj f.kind f.flags f.id f.body))))
        have HK := hid hk
        obtain ⟨fk, ff, fi, fb⟩ := f
        simp only at r0 r1 r2 r3 H3
        clear H1 hat hff HF hk HB HL1 HP
        rcases hcase with ⟨hl, ht⟩ | ⟨hl, ht, hid2⟩
        · have HT' : Hid (∀ W g v ts, Hold w W (blT g v M (S j) :: ts) → Calls Try.prog 15 #[.pointer (some ⟨g, 0, none⟩), frval ⟨fk, ff, fi, fb⟩] W fun e w' => e = .returned (.tuple #[.agg #[.int .i64 id, .string b, .bool false], .bool true, .int .i64 0]) ∧ ∃ v', Hid (Hold w w' (blT g v' M (S (j + 1)) :: ts))) := fun W g v ts => HT.out _ _ _ _ W g v ts hfs ht
          have hlast : ((j : Int) == (L.length : Int) - 1) = true := by simp; omega
          have z1 : (b.toList == b.toList) = true := beq_list_of_eq rfl
          clear HT ht hfs HO hj
          go_wp2_with fail
          refine Calls.mono (HT'.out _ _ _ _ H3.out) ?_
          rintro r w4 ⟨rfl, v4, H4⟩
          have H5 := hid (H4.out.quiet (keeps_alloc w4 (.cells #[.int .i64 id, .string b, .bool false] 41)))
          clear H3 H4 HT' r0 r1 r2 r3
          go_wp2
          have hk := HK.out
          go_roundg (gk - 1)
          case measure => omega
          case rel => exact ⟨j + 1, v4, by simp, by omega, H5.out⟩
        · have HT' : Hid (∀ W g v ts, Hold w W (blT g v M (S j) :: ts) → Calls Try.prog 15 #[.pointer (some ⟨g, 0, none⟩), frval ⟨fk, ff, fi, fb⟩] W fun e w' => e = .returned (.tuple #[.agg #[.int .i64 0, .string ⟨#[]⟩, .bool false], .bool false, .int .i64 0]) ∧ ∃ v', Hid (Hold w w' (blT g v' M (S (j + 1)) :: ts))) := fun W g v ts => HT.out _ _ _ _ W g v ts hfs ht
          have HO' := hid (fun W g v ts => HO.out (S (j + 1)) W g v ts)
          rw [hid2] at HO'
          have hlast : ((j : Int) == (L.length : Int) - 1) = false := by simp; omega
          clear HT ht hfs HO hj hid2
          go_wp2_with fail
          refine Calls.mono (HT'.out _ _ _ _ H3.out) ?_
          rintro r w4 ⟨rfl, v4, H4⟩
          have H5 := hid (H4.out.quiet (keeps_alloc w4 (.cells #[.int .i64 0, .string ⟨#[]⟩, .bool false] 41)))
          clear H3 H4 HT' r0 r1 r2 r3
          go_wp2_with fail
          refine Calls.mono (HO'.out _ _ _ _ H5.out) ?_
          rintro r w6 ⟨rfl, rfl⟩
          go_wp2
          have hk := HK.out
          go_roundg (gk - 1)
          case measure => omega
          case rel => exact ⟨j + 1, v4, by simp, by omega, H5.out⟩
      · have hjL : j = L.length := by omega
        rw [hjL, hSn] at H1
        have HO' : Hid (∀ W g v ts, Hold w W (blT g v M noO :: ts) → Calls Try.prog 16 #[.pointer (some ⟨g, 0, none⟩)] W fun e w' => e = .returned (.int .i64 0) ∧ W = w') := fun W g v ts => HO.out noO W g v ts
        have HP' := hid (HP.out wr kb fv6 wv6 fs ws _ hfl (by simp) H1.out)
        have hle : L.length ≤ j := by omega
        clear HF HT HO HP hk hj hjL
        go_wp2_with fail
        refine Calls.mono (HO'.out _ _ _ _ H1.out) ?_
        rintro r w6 ⟨rfl, rfl⟩
        go_wp2_with fail
        refine Calls.mono HP'.out ?_
        rintro r w9 ⟨rfl, hB⟩
        go_wp2
        go_ret
        exact ⟨rfl, hB⟩
  | true =>
    go_enter Try.func3, Try.ntmps3
    go_wp2_with fail
    refine Calls.mono (HA.out _) ?_
    rintro r w0 ⟨rfl, k0⟩
    have H0 := hid ((hold_nil (Below.refl w.heap.size w)).quiet k0)
    clear HA k0
    go_wp2_with fail
    refine Calls.mono (HC.out _ _ H0.out) ?_
    rintro r w1 ⟨xa, c, rfl, H1⟩
    clear H0
    go_wp2_with fail
    refine Calls.mono (HD.out _ _ H1.out) ?_
    rintro r w2 ⟨ya, yc, rfl, H2⟩
    have H3 := hid (H2.out.swap.book.swap)
    clear H1 HD H2
    go_wp2_with fail
    refine Calls.mono (HK1.out _ _ _ _ _ _ _ _ _ (by decide) H3.out) ?_
    rintro r w4 ⟨rfl, H4⟩
    obtain ⟨fv4, wv4, cv4, H4⟩ := H4.out
    have H4 := hid H4
    clear H3
    go_wp2_with fail
    refine Calls.mono (HC.out _ _ H4.out) ?_
    rintro r w5 ⟨za, zc, rfl, H5⟩
    clear H4 HC
    go_wp2_with fail
    refine Calls.mono (HK1.out _ _ _ _ _ _ _ _ _ (by simp) H5.out) ?_
    rintro r w6 ⟨rfl, H6⟩
    obtain ⟨fv6, wv6, cv6, H6⟩ := H6.out
    have H6 := hid H6
    clear H5 HK1
    generalize hfs : ([] ++ [((Value.slice xa L.length c, L) : PL)] ++ [(Value.slice za L.length zc, L)] : List PL) = fs at H6
    have hxf : (Value.slice xa L.length c, L) ∈ fs := by rw [← hfs]; simp
    have hfl : fs.length ≤ 250 := by rw [← hfs]; simp
    clear hfs
    generalize ([] ++ [(cv4, L)] ++ [(cv6, L)] : List PL) = ws at H6
    have HB : Hid (Bkd w6 w2.heap.size fv6 wv6 fs ws) := H6.out.inv (bkT w2.heap.size fv6 wv6 fs ws) (by simp)
    have HL1 : Hid (w6.ownsRow 0 39 4 (.slice xa L.length c) L.length (qcells L)) := HB.out.book.f.rows _ hxf
    have HL2 : Hid (w6.ownsRow 0 39 4 (.slice ya L.length yc) L.length (qcells L)) := H6.out.inv (rowT (.slice ya L.length yc) L) (by simp)
    have Q1 := hid (qrow_lies HL1.out (S := nobody) (fun _ _ e9 => e9))
    have Q2 := hid (qrow_lies HL2.out (S := nobody) (fun _ _ e9 => e9))
    clear HB HL1 HL2
    go_wp2_with fail
    refine Calls.mono (HE.out _ _ _ _ _ Q1.out Q2.out) ?_
    rintro r w7 ⟨rfl, k7⟩
    have H7 := hid (H6.out.quiet k7)
    clear H6 k7 HE Q1 Q2
    go_wp2_with fail
    refine Calls.mono (HN.out _ _ H7.out) ?_
    rintro r w8 ⟨g, v, rfl, H8⟩
    clear H7 HN hmax
    go_wp2_with fail
    generalize w2.heap.size = kb at *
    go_loopg [79] L.length (fun k iv wr => ∃ (j : Nat) (v : Value), iv = .int .i64 (j : Int) ∧ k + j = L.length ∧ Hid (Hold w wr [blT g v M (S j), bkT kb fv6 wv6 fs ws, rowT (.slice ya L.length yc) L]))
    case atStart => exact ⟨0, v, rfl, rfl, by show Hold _ _ _; rw [hS0]; exact H8.out⟩
    case round =>
      clear H8 hS0
      obtain ⟨j, v, rfl, hk, H1⟩ := hrel
      by_cases hj : j < L.length
      · obtain ⟨f, hat, hfs, hcase⟩ := HF.out j hj
        have HB : Hid (Bkd wr kb fv6 wv6 fs ws) := H1.out.inv (bkT kb fv6 wv6 fs ws) (by simp)
        have HL1 : Hid (wr.ownsRow 0 39 4 (.slice xa L.length c) L.length (qcells L)) := HB.out.book.f.rows _ hxf
        obtain ⟨rb, c', hv, _⟩ := row_some HL1.out (by omega)
        simp only [Value.slice.injEq] at hv
        obtain ⟨rfl, _, rfl⟩ := hv
        have hrow := qrow_cells HL1.out j hj
        have hff : L[j]'hj = f := by
          obtain ⟨_, e9⟩ := List.getElem?_eq_some_iff.1 hat
          exact e9
        rw [hff] at hrow
        obtain ⟨r0, r1, r2, r3⟩ := hrow
        have hrb : rb < wr.heap.size := (HL1.out.lt rb rfl).2
        have H3 := hid ((H1.out.quiet (keeps_alloc wr (frobj f.kind f.flags f.id f.body))))
        have HK := hid hk
        obtain ⟨fk, ff, fi, fb⟩ := f
        simp only at r0 r1 r2 r3 H3
        clear H1 hat hff HF hk HB HL1 HP
        rcases hcase with ⟨hl, ht⟩ | ⟨hl, ht, hid2⟩
        · have HT' : Hid (∀ W g v ts, Hold w W (blT g v M (S j) :: ts) → Calls Try.prog 15 #[.pointer (some ⟨g, 0, none⟩), frval ⟨fk, ff, fi, fb⟩] W fun e w' => e = .returned (.tuple #[.agg #[.int .i64 id, .string b, .bool true], .bool true, .int .i64 0]) ∧ ∃ v', Hid (Hold w w' (blT g v' M (S (j + 1)) :: ts))) := fun W g v ts => HT.out _ _ _ _ W g v ts hfs ht
          have hlast : ((j : Int) == (L.length : Int) - 1) = true := by simp; omega
          have z1 : (b.toList == b.toList) = true := beq_list_of_eq rfl
          clear HT ht hfs HO hj
          go_wp2_with fail
          refine Calls.mono (HT'.out _ _ _ _ H3.out) ?_
          rintro r w4 ⟨rfl, v4, H4⟩
          have H5 := hid (H4.out.quiet (keeps_alloc w4 (.cells #[.int .i64 id, .string b, .bool true] 41)))
          clear H3 H4 HT' r0 r1 r2 r3
          go_wp2
          have hk := HK.out
          go_roundg (gk - 1)
          case measure => omega
          case rel => exact ⟨j + 1, v4, by simp, by omega, H5.out⟩
        · have HT' : Hid (∀ W g v ts, Hold w W (blT g v M (S j) :: ts) → Calls Try.prog 15 #[.pointer (some ⟨g, 0, none⟩), frval ⟨fk, ff, fi, fb⟩] W fun e w' => e = .returned (.tuple #[.agg #[.int .i64 0, .string ⟨#[]⟩, .bool false], .bool false, .int .i64 0]) ∧ ∃ v', Hid (Hold w w' (blT g v' M (S (j + 1)) :: ts))) := fun W g v ts => HT.out _ _ _ _ W g v ts hfs ht
          have HO' := hid (fun W g v ts => HO.out (S (j + 1)) W g v ts)
          rw [hid2] at HO'
          have hlast : ((j : Int) == (L.length : Int) - 1) = false := by simp; omega
          clear HT ht hfs HO hj hid2
          go_wp2_with fail
          refine Calls.mono (HT'.out _ _ _ _ H3.out) ?_
          rintro r w4 ⟨rfl, v4, H4⟩
          have H5 := hid (H4.out.quiet (keeps_alloc w4 (.cells #[.int .i64 0, .string ⟨#[]⟩, .bool false] 41)))
          clear H3 H4 HT' r0 r1 r2 r3
          go_wp2_with fail
          refine Calls.mono (HO'.out _ _ _ _ H5.out) ?_
          rintro r w6 ⟨rfl, rfl⟩
          go_wp2
          have hk := HK.out
          go_roundg (gk - 1)
          case measure => omega
          case rel => exact ⟨j + 1, v4, by simp, by omega, H5.out⟩
      · have hjL : j = L.length := by omega
        rw [hjL, hSn] at H1
        have HO' : Hid (∀ W g v ts, Hold w W (blT g v M noO :: ts) → Calls Try.prog 16 #[.pointer (some ⟨g, 0, none⟩)] W fun e w' => e = .returned (.int .i64 0) ∧ W = w') := fun W g v ts => HO.out noO W g v ts
        have HP' := hid (HP.out wr kb fv6 wv6 fs ws _ hfl (by simp) H1.out)
        have hle : L.length ≤ j := by omega
        clear HF HT HO HP hk hj hjL
        go_wp2_with fail
        refine Calls.mono (HO'.out _ _ _ _ H1.out) ?_
        rintro r w6 ⟨rfl, rfl⟩
        go_wp2_with fail
        refine Calls.mono HP'.out ?_
        rintro r w9 ⟨rfl, hB⟩
        go_wp2
        go_ret
        exact ⟨rfl, hB⟩
theorem btells_true (id : Int) (b : ByteArray) (e : Bool) (m : Int) (w : World) (_ : b.size ≤ 140737488355328) : Calls Try.prog 3 #[.int .i64 id, .string b, .bool e, .int .i64 m] w (Fine w) := by
  by_cases h : 3000 < b.size
  · exact btells_off id m b e w h
  · exact btells_main id m b e w (by omega)
end Go.Proofs.Ytdpbnlamdgdljaa
