/-
  The law FailChains as a walk.
-/
import Derived.Test.YthgcbgdafoiacaaFmtELawP
namespace Go.Proofs.YthgcbgdafoiacaaFmt
open Go.RowKit Go.Extern.Stop Go.Stop Go.Extern

set_option maxRecDepth 100000 in
set_option maxHeartbeats 4000000 in
theorem chains_main (F : Interp) (code ask : Int) (a : Option Addr) (cap : Nat) (l : List Lnk) (W : World) (hEnv : Env W) (hF : F.told.answers W.tape) (hcode : Wf code) (hask : Wf ask) (hl : Lks W a l) (hn : l.length ≤ 12) :
    Calls Tryf.prog 3 #[.int .i64 code, .slice a l.length cap, .int .i64 ask] W fun e w' => e = .returned (.bool true) ∧ Keeps nobody W w' := by
  have hmm := mp_make
  go_enter Tryf.func3, Tryf.ntmps3
  go_wp2_with fail
  refine Calls.mono (alive_ok W hEnv) ?_
  rintro e w1 ⟨rfl, k1⟩
  go_wp2_with fail
  refine Calls.mono (new_any code w1) ?_
  rintro e w2 ⟨v, rfl, hv, kv⟩
  have K2 := k1.then kv
  obtain ⟨q1, q2, q3, q4⟩ := hv.test
  generalize hz : (newE code).isNil = z at *
  go_upto_if 29 with fail
  go_cut [9, 11] (fun first words wx => Hid (At2 W wx 0 v (.map (some w2.heap.size)) first (.slice none 0 0) words (.bool false)))
  case first =>
    by_cases hc : code = 0
    · obtain rfl : z = true := by rw [← hz, newE, if_pos hc]; rfl
      rw [newE, if_pos hc] at hv
      cases hv with
      | nil =>
        have HS := hid (at2_nil K2)
        go_wp2_with fail
        go_meet
        exact HS.out
    · obtain rfl : z = false := by rw [← hz, newE, if_neg hc]; rfl
      rw [newE, if_neg hc] at hv
      cases hv with
      | @fl b op c v' e hb he =>
        cases he with
        | nil =>
          obtain ⟨w3, hmu, hm3, k3⟩ := mp_set (mp_new w2) (by omega) code hcode
          have hb' : Err w2 (flV b) (.fl ⟨#[]⟩ code .nil) := .fl hb .nil
          go_wp2_with fail
          refine Calls.mono (ref_code code w3) ?_
          rintro e w4 ⟨rfl, k4⟩
          have HS := hid (at2_new K2 hcode hb' rfl hm3 k3 k4)
          clear hm3 hb k3 k4 hmu hb'
          go_wp2_with fail
          go_meet
          exact HS.out
  case rest =>
    have HS := hid hcut.out
    clear hcut hv kv K2 q1 q2 q3 q4 k1 hz
    go_wp2_with fail
    go_loopg [7, 8, 9, 10, 11, 12, 37] l.length (fun k err has first ops words plain idx wr => ∃ j : Nat, k = l.length - j ∧ j ≤ l.length ∧ idx = .int .i64 (j : Int) ∧ At2 W wr j err has first ops words plain)
    case atStart => exact ⟨0, by omega, Nat.zero_le _, rfl, HS.out⟩
    case round =>
      obtain ⟨j, hk, hj, rfl, t, g, n, f, p, rfl, rfl, rfl, rfl, hI⟩ := hrel
      clear HS
      by_cases hlt : j < l.length
      · obtain ⟨x, hx⟩ : ∃ x, l[j]? = some x := ⟨_, List.getElem?_eq_getElem hlt⟩
        obtain ⟨wk, wcd, ws⟩ := hl.2.2 x (List.mem_of_getElem? hx)
        rcases hl.1 with rfl | ⟨b, off, rfl, hbl, hcl⟩
        · simp at hlt
        have c0 := (hI.keeps.cell (p := ⟨b, off + (j * 3 + 0), none⟩) hbl id).trans (hcl j x hx 0 _ rfl)
        have c1 := (hI.keeps.cell (p := ⟨b, off + (j * 3 + 1), none⟩) hbl id).trans (hcl j x hx 1 _ rfl)
        have c2 := (hI.keeps.cell (p := ⟨b, off + (j * 3 + 2), none⟩) hbl id).trans (hcl j x hx 2 _ rfl)
        have HK := hid hk
        have hlti : (j : Int) < (l.length : Int) := by omega
        rw [show off + (j * 3 + 0) = off + j * 3 by omega] at c0
        rw [show off + (j * 3 + 1) = off + j * 3 + 1 by omega] at c1
        rw [show off + (j * 3 + 2) = off + j * 3 + 2 by omega] at c2
        obtain ⟨kd, op, cd⟩ := x
        simp only at c0 c1 c2 wk wcd ws
        obtain ⟨a10, c10, rfl⟩ := ownsRow_shape hI.row
        clear hcl hk
        by_cases h40 : op.size ≤ 40
        · have hIb := hI.quiet (keeps_alloc wr (lkObj ⟨kd, op, cd⟩))
          have hts : t.words.size ≤ 1000 := by have := hI.size; omega
          have hm1 : -5 < kd.tmod 5 := (tmod_five kd).1
          have hm2 : kd.tmod 5 < 5 := (tmod_five kd).2
          by_cases hr : (kd.tmod 5 + 5).tmod 5 = 1
          · as_aux_lemma =>
              have HJ : Hid (Calls Tryf.prog 8 #[.string op, .int .i64 cd, u7] (wr.alloc (lkObj ⟨kd, op, cd⟩)) fun e w' => ∃ b2, e = .returned (flV b2) ∧ Err w' (flV b2) (.fl op cd t) ∧ Keeps nobody (wr.alloc (lkObj ⟨kd, op, cd⟩)) w') := by
                refine Calls.mono (join_any op cd u7 _ hI.err.errish) ?_
                rintro e w' ⟨rfl, rfl⟩
                exact ⟨_, rfl, .fl (heap_alloc_new _ _) (hIb.err.quiet (keeps_alloc _ _)), keeps_alloc _ _⟩
              have hbx : (wr.alloc (lkObj ⟨kd, op, cd⟩)).heap[wr.heap.size]? = some (lkObj ⟨kd, op, cd⟩) := heap_alloc_new wr _
              have hglt := lt_of_heap hI.mp.heap.choose_spec.choose_spec
              have hopl : t.ops.length ≤ 1000 := by have := t.ops_le; have := hI.deep; omega
              obtain ⟨q1, q2, q3, q4⟩ := hI.err.test
              generalize hz : t.isNil = z at *
              go_wp2_with fail
              refine Calls.mono HJ.out ?_
              rintro e w2 ⟨b2, rfl, hE2, k2⟩
              have hx2 := (k2.block _ (lt_of_heap hbx) id).trans hbx
              have hI2 := hIb.quiet k2
              have c1x := cells_of hx2 1 _ rfl
              have c2x := cells_of hx2 2 _ rfl
              clear HJ hbx
              go_upto_if 100 with fail
              go_cut [10, 11] (fun ops words wx => Hid (words = .string (t.tail cd) ∧ ∃ a c, ops = .slice a t.ops.length c ∧ Err wx (flV b2) (.fl op cd t) ∧ Mp wx g n f ∧ wx.ownsRow W.heap.size 9 1 (.slice a t.ops.length c) t.ops.length (strs t.ops) ∧ wx.heap[wr.heap.size]? = some (lkObj ⟨kd, op, cd⟩) ∧ Keeps nobody W wx))
              case first =>
                cases z with
                | true =>
                  have hE0 := hI.err
                  cases hE0 with
                  | nil =>
                    go_wp2_with fail
                    refine Calls.mono (ref_code cd w2) ?_
                    rintro e w3 ⟨rfl, k3⟩
                    have HX : Hid ((.string (nameOf cd) : Value) = .string (Er.tail cd .nil) ∧ ∃ a c, (.slice none 0 0 : Value) = .slice a (Er.ops .nil).length c ∧ Err w3 (flV b2) (.fl op cd .nil) ∧ Mp w3 g n f ∧ w3.ownsRow W.heap.size 9 1 (.slice a (Er.ops .nil).length c) (Er.ops .nil).length (strs (Er.ops .nil)) ∧ w3.heap[wr.heap.size]? = some (lkObj ⟨kd, op, cd⟩) ∧ Keeps nobody W w3) :=
                      ⟨rfl, none, 0, rfl, hE2.quiet k3, hI2.mp.keeps k3 id, World.ownsRow_nil _ _ _ _, (k3.block _ (lt_of_heap hx2) id).trans hx2, hI2.keeps.then k3⟩
                    clear hx2 hE2 k2 hI2 hI hIb k3
                    go_wp2_with fail
                    go_meet
                    exact HX
                  | _ => simp [Er.isNil] at hz
                | false =>
                  have HX : Hid ((.string t.words : Value) = .string (t.tail cd) ∧ ∃ a c, (.slice a10 t.ops.length c10 : Value) = .slice a t.ops.length c ∧ Err w2 (flV b2) (.fl op cd t) ∧ Mp w2 g n f ∧ w2.ownsRow W.heap.size 9 1 (.slice a t.ops.length c) t.ops.length (strs t.ops) ∧ w2.heap[wr.heap.size]? = some (lkObj ⟨kd, op, cd⟩) ∧ Keeps nobody W w2) :=
                    ⟨by rw [Er.tail, hz]; rfl, a10, c10, rfl, hE2, hI2.mp, hI2.row, hx2, hI2.keeps⟩
                  clear hx2 hE2 k2 hI2 hI hIb
                  go_wp2_with fail
                  go_meet
                  exact HX
              case rest =>
                obtain ⟨rfl, a11, c11, rfl, hE3, hm3, hrow3, hx3, K3⟩ := hcut.out
                have d2x := cells_of hx3 2 _ rfl
                clear hcut hx2 hE2 k2 hI2 c1x c2x q1 q2 q3 q4
                have htl : (t.tail cd).size ≤ 1007 := by
                  unfold Er.tail
                  split
                  · have := nameOf_size cd
                    omega
                  · omega
                go_upto_if 106 with fail
                go_cut [] (fun wx => Hid (∃ n' f', Err wx (flV b2) (.fl op cd t) ∧ Mp wx g n' f' ∧ n' ≤ n + 1 ∧ (∀ q, (q != 0) = true → f' q = (q == cd || f q)) ∧ wx.ownsRow W.heap.size 9 1 (.slice a11 t.ops.length c11) t.ops.length (strs t.ops) ∧ wx.heap[wr.heap.size]? = some (lkObj ⟨kd, op, cd⟩) ∧ Keeps nobody W wx))
                case first =>
                  cases hfc : (cd != 0) with
                  | true =>
                    obtain ⟨w4, hr4, hm4, k4⟩ := mp_set hm3 (by have := hI.few; omega) cd wcd
                    have HX : Hid (∃ n' f', Err w4 (flV b2) (.fl op cd t) ∧ Mp w4 g n' f' ∧ n' ≤ n + 1 ∧ (∀ q, (q != 0) = true → f' q = (q == cd || f q)) ∧ w4.ownsRow W.heap.size 9 1 (.slice a11 t.ops.length c11) t.ops.length (strs t.ops) ∧ w4.heap[wr.heap.size]? = some (lkObj ⟨kd, op, cd⟩) ∧ Keeps nobody W w4) :=
                      ⟨n + 1, _, hE3.beside hm3 k4, hm4, Nat.le_refl _, fun _ _ => rfl, row_beside hrow3 hm3 k4, (k4.block _ (lt_of_heap hx3) (by omega)).trans hx3, K3.trans k4 fun m hm e => by have := hI.new; omega⟩
                    clear hm4 k4 hx3 hE3 hm3 hrow3 K3 hI hIb
                    go_wp2_with fail
                    go_meet
                    exact HX
                  | false =>
                    have hz0 : cd = 0 := by simpa using hfc
                    have HX : Hid (∃ n' f', Err wc (flV b2) (.fl op cd t) ∧ Mp wc g n' f' ∧ n' ≤ n + 1 ∧ (∀ q, (q != 0) = true → f' q = (q == cd || f q)) ∧ wc.ownsRow W.heap.size 9 1 (.slice a11 t.ops.length c11) t.ops.length (strs t.ops) ∧ wc.heap[wr.heap.size]? = some (lkObj ⟨kd, op, cd⟩) ∧ Keeps nobody W wc) :=
                      ⟨n, f, hE3, hm3, by omega, fun q hq => by rw [hz0]; exact or_zero q hq _, hrow3, hx3, K3⟩
                    clear hz0 hx3 hE3 hm3 hrow3 K3 hI hIb
                    go_wp2_with fail
                    go_meet
                    exact HX
                case rest =>
                  clear hE3 hm3 hrow3 hx3 K3 d2x
                  obtain ⟨n', f', hE3, hm3, hn3, hf3, hrow, hxc, K3⟩ := hcut.out
                  have hzc := K3.size
                  have c1y := cells_of hxc 1 _ rfl
                  clear hcut
                  cases hem : op.toList.isEmpty with
                  | true =>
                    have hops : (Er.ops (.fl op cd t)) = t.ops := by simp [Er.ops, hem]
                    have HI6 := hid (hIb.fl op cd h40 wcd hE3 hm3 hn3 hf3 (by rw [hops]; exact hrow) K3)
                    have HWd := hid (fl_words_e op cd t hem)
                    clear hrow hE3 hm3 K3 hxc hIb hI hf3
                    go_wp2_with fail
                    go_roundg (l.length - (j + 1))
                    case measure => rw [HK.out]; omega
                    case rel => exact ⟨j + 1, rfl, by omega, by go_num, .fl op cd t, _, _, _, _, rfl, rfl, by rw [HWd.out], rfl, HI6.out⟩
                  | false =>
                    have hza : (wc.alloc (.cells #[.string op] 9)).drew.heap[wc.heap.size]? = some (.cells #[.string op] 9 (0, 0)) := heap_alloc_new wc _
                    have kza : Keeps nobody wc (wc.alloc (.cells #[.string op] 9)).drew := (keeps_alloc _ _).drew
                    have hrz := kza.row hrow (fun _ _ h => h)
                    obtain ⟨v6, w6, ha6, ho6, k6⟩ := app_ops W.heap.size wc.heap.size (wc.alloc (.cells #[.string op] 9)).drew (.slice a11 t.ops.length c11) t.ops op hza hzc hrz hopl 29
                    have hxa := (kza.block _ (lt_of_heap hxc) id).trans hxc
                    have ca1 := cells_of hxc 1 _ rfl
                    have ca2 := cells_of hxa 1 _ rfl
                    have ca6 := cells_of ((k6.block _ (lt_of_heap hxa) (by have := lt_of_heap hxc; omega)).trans hxa) 1 _ rfl
                    have K6 : Keeps nobody wc w6 := (kza.mono fun _ _ h => h.elim).trans k6 fun m hm e => by omega
                    have hbig1 : (9223372036854775807 < op.size + 2) = False := by simp only [eq_iff_iff, iff_false]; omega
                    have hbig2 : (9223372036854775807 < op.size + 2 + (t.tail cd).size) = False := by simp only [eq_iff_iff, iff_false]; omega
                    have hops : (Er.ops (.fl op cd t)) = op :: t.ops := by simp [Er.ops, hem]
                    rw [← hops] at ho6
                    have HI6 := hid (hIb.fl op cd h40 wcd (hE3.quiet K6) (hm3.keeps K6 id) hn3 hf3 ho6 (K3.then K6))
                    have HWd := hid (fl_words op cd t hem)
                    clear ho6 k6 hza kza hrz hrow hE3 hm3 K3 hxa hxc K6 hIb hI hf3
                    go_wp2_with fail
                    go_region_law (refine step_append_run rfl (.tmp 115) (.tmp 116) 29 29 rfl (.slice (some ⟨wc.heap.size, 0, none⟩) 1 1) (.slice a11 t.ops.length c11) (by rfl) (by rfl) ha6 ?_)
                    all_goals
                      go_wp2_with fail
                      go_roundg (l.length - (j + 1))
                      case measure => rw [HK.out]; omega
                      case rel => exact ⟨j + 1, rfl, by omega, by go_num, .fl op cd t, _, _, _, _, rfl, rfl, by rw [HWd.out], rfl, HI6.out⟩
          cases hnil : t.isNil with
          | true =>
            have hE0 := hI.err
            cases hE0 with
            | nil =>
              rcases mod_five kd with hr | hr1 | hr | hr | hr
              · as_aux_lemma =>
                  go_wp2_with fail
                  refine Calls.mono (wrap_nil op _) ?_
                  rintro e w2 ⟨rfl, rfl⟩
                  go_wp2_with fail
                  go_roundg (l.length - (j + 1))
                  case measure => rw [HK.out]; omega
                  case rel => exact ⟨j + 1, rfl, by omega, by go_num, _, _, _, _, _, rfl, rfl, rfl, rfl, hIb.later⟩
              · exact absurd hr1 hr
              · as_aux_lemma =>
                  go_wp2_with fail
                  go_roundg (l.length - (j + 1))
                  case measure => rw [HK.out]; omega
                  case rel => exact ⟨j + 1, rfl, by omega, by go_num, _, _, _, _, _, rfl, rfl, rfl, rfl, hIb.later⟩
              · as_aux_lemma =>
                  go_wp2_with fail
                  go_roundg (l.length - (j + 1))
                  case measure => rw [HK.out]; omega
                  case rel => exact ⟨j + 1, rfl, by omega, by go_num, _, _, _, _, _, rfl, rfl, rfl, rfl, hIb.later⟩
              · as_aux_lemma =>
                  go_wp2_with fail
                  go_roundg (l.length - (j + 1))
                  case measure => rw [HK.out]; omega
                  case rel => exact ⟨j + 1, rfl, by omega, by go_num, _, _, _, _, _, rfl, rfl, rfl, rfl, hIb.later⟩
            | _ => simp [Er.isNil] at hnil
          | false =>
            have hpl := hid (hI.plain hnil)
            obtain ⟨T, x, rfl⟩ := hI.err.some hnil
            rcases mod_five kd with hr | hr1 | hr | hr | hr
            · as_aux_lemma =>
                have HW := hid (wrap_ok op t (.iface T x) _ (hEnv.quiet hIb.keeps) hnil hIb.err)
                have hbx : (wr.alloc (lkObj ⟨kd, op, cd⟩)).heap[wr.heap.size]? = some (lkObj ⟨kd, op, cd⟩) := heap_alloc_new wr _
                have hglt := lt_of_heap hI.mp.heap.choose_spec.choose_spec
                have hopl : t.ops.length ≤ 1000 := by have := t.ops_le; have := hI.deep; omega
                go_wp2_with fail
                refine Calls.mono HW.out ?_
                rintro e w2 ⟨b2, rfl, hE2, k2⟩
                have hx2 := (k2.block _ (lt_of_heap hbx) id).trans hbx
                have hI2 := hIb.quiet k2
                have c1x := cells_of hx2 1 _ rfl
                clear HW hbx
                go_upto_if 72 with fail
                go_cut [] (fun wx => Hid (∃ n' f', Err wx (flV b2) (.fl op t.code t) ∧ Mp wx g n' f' ∧ n' ≤ n + 1 ∧ (∀ q, (q != 0) = true → f' q = (q == t.code || f q)) ∧ wx.ownsRow W.heap.size 9 1 (.slice a10 t.ops.length c10) t.ops.length (strs t.ops) ∧ wx.heap[wr.heap.size]? = some (lkObj ⟨kd, op, cd⟩) ∧ Keeps nobody W wx))
                case first =>
                  cases hfc : (t.code != 0) with
                  | true =>
                    obtain ⟨w3, hr3, hm3, k3⟩ := mp_set hI2.mp (by have := hI.few; omega) t.code hI.wf
                    have HX : Hid (∃ n' f', Err w3 (flV b2) (.fl op t.code t) ∧ Mp w3 g n' f' ∧ n' ≤ n + 1 ∧ (∀ q, (q != 0) = true → f' q = (q == t.code || f q)) ∧ w3.ownsRow W.heap.size 9 1 (.slice a10 t.ops.length c10) t.ops.length (strs t.ops) ∧ w3.heap[wr.heap.size]? = some (lkObj ⟨kd, op, cd⟩) ∧ Keeps nobody W w3) :=
                      ⟨n + 1, _, hE2.beside hI2.mp k3, hm3, Nat.le_refl _, fun _ _ => rfl, row_beside hI2.row hI2.mp k3, (k3.block _ (lt_of_heap hx2) (by omega)).trans hx2, hI2.keeps.trans k3 fun m hm e => by have := hI.new; omega⟩
                    clear hm3 k3 hx2 hE2 k2 hI2 hI hIb
                    go_wp2_with fail
                    go_meet
                    exact HX
                  | false =>
                    have hz0 : t.code = 0 := by simpa using hfc
                    have HX : Hid (∃ n' f', Err w2 (flV b2) (.fl op t.code t) ∧ Mp w2 g n' f' ∧ n' ≤ n + 1 ∧ (∀ q, (q != 0) = true → f' q = (q == t.code || f q)) ∧ w2.ownsRow W.heap.size 9 1 (.slice a10 t.ops.length c10) t.ops.length (strs t.ops) ∧ w2.heap[wr.heap.size]? = some (lkObj ⟨kd, op, cd⟩) ∧ Keeps nobody W w2) :=
                      ⟨n, f, hE2, hI2.mp, by omega, fun q hq => by rw [hz0]; exact or_zero q hq _, hI2.row, hx2, hI2.keeps⟩
                    clear hz0 hx2 hE2 k2 hI2 hI hIb
                    go_wp2_with fail
                    go_meet
                    exact HX
                case rest =>
                  obtain ⟨n', f', hE3, hm3, hn3, hf3, hrow, hxc, K3⟩ := hcut.out
                  have hzc := K3.size
                  have c1y := cells_of hxc 1 _ rfl
                  clear hx2 hE2 k2 hI2 hcut c1x
                  cases hem : op.toList.isEmpty with
                  | true =>
                    have hops : (Er.ops (.fl op t.code t)) = t.ops := by simp [Er.ops, hem]
                    have HI6 := hid (hIb.fl op t.code h40 hI.wf hE3 hm3 hn3 hf3 (by rw [hops]; exact hrow) K3)
                    have HWd : Hid ((Er.fl op t.code t).words = t.words) := by show _ = _; rw [fl_words_e op t.code t hem, Er.tail, hnil]; rfl
                    clear hrow hE3 hm3 K3 hxc hIb hI hf3
                    go_wp2_with fail
                    go_roundg (l.length - (j + 1))
                    case measure => rw [HK.out]; omega
                    case rel => exact ⟨j + 1, rfl, by omega, by go_num, .fl op t.code t, _, _, _, _, rfl, rfl, by rw [HWd.out], rfl, HI6.out⟩
                  | false =>
                    have hza : (wc.alloc (.cells #[.string op] 9)).drew.heap[wc.heap.size]? = some (.cells #[.string op] 9 (0, 0)) := heap_alloc_new wc _
                    have kza : Keeps nobody wc (wc.alloc (.cells #[.string op] 9)).drew := (keeps_alloc _ _).drew
                    have hrz := kza.row hrow (fun _ _ h => h)
                    obtain ⟨v6, w6, ha6, ho6, k6⟩ := app_ops W.heap.size wc.heap.size (wc.alloc (.cells #[.string op] 9)).drew (.slice a10 t.ops.length c10) t.ops op hza hzc hrz hopl 29
                    have hxa := (kza.block _ (lt_of_heap hxc) id).trans hxc
                    have ca1 := cells_of hxc 1 _ rfl
                    have ca2 := cells_of hxa 1 _ rfl
                    have ca6 := cells_of ((k6.block _ (lt_of_heap hxa) (by have := lt_of_heap hxc; omega)).trans hxa) 1 _ rfl
                    have K6 : Keeps nobody wc w6 := (kza.mono fun _ _ h => h.elim).trans k6 fun m hm e => by omega
                    have hbig1 : (9223372036854775807 < op.size + 2) = False := by simp only [eq_iff_iff, iff_false]; omega
                    have hbig2 : (9223372036854775807 < op.size + 2 + t.words.size) = False := by simp only [eq_iff_iff, iff_false]; omega
                    have hops : (Er.ops (.fl op t.code t)) = op :: t.ops := by simp [Er.ops, hem]
                    rw [← hops] at ho6
                    have HI6 := hid (hIb.fl op t.code h40 hI.wf (hE3.quiet K6) (hm3.keeps K6 id) hn3 hf3 ho6 (K3.then K6))
                    have HWd : Hid ((Er.fl op t.code t).words = op ++ ⟨#[58, 32]⟩ ++ t.words) := by show _ = _; rw [fl_words op t.code t hem, Er.tail, hnil]; rfl
                    clear ho6 k6 hza kza hrz hrow hE3 hm3 K3 hxa hxc K6 hIb hI hf3
                    go_wp2_with fail
                    go_region_law (refine step_append_run rfl (.tmp 80) (.tmp 81) 29 29 rfl (.slice (some ⟨wc.heap.size, 0, none⟩) 1 1) (.slice a10 t.ops.length c10) (by rfl) (by rfl) ha6 ?_)
                    all_goals
                      go_wp2_with fail
                      go_roundg (l.length - (j + 1))
                      case measure => rw [HK.out]; omega
                      case rel => exact ⟨j + 1, rfl, by omega, by go_num, .fl op t.code t, _, _, _, _, rfl, rfl, by rw [HWd.out], rfl, HI6.out⟩
            · exact absurd hr1 hr
            · as_aux_lemma =>
                have kv : Keeps nobody (wr.alloc (lkObj ⟨kd, op, cd⟩)) ((wr.alloc (lkObj ⟨kd, op, cd⟩)).alloc (.cells #[.iface T x] 20)) := keeps_alloc _ _
                have hIv := hIb.quiet kv
                have HE := hid (errorf_at F t (.iface T x) (wr.heap.size + 1) _ (hEnv.quiet hIv.keeps) (by rw [hIv.keeps.tape]; exact hF) hnil hIv.err (by omega) (heap2 wr _ _ _))
                go_wp2_with fail
                refine Calls.mono HE.out ?_
                rintro e w2 ⟨b2, rfl, hE2, k2⟩
                have hI2 := hIv.wr hnil hE2 k2
                clear HE hIv kv hE2 k2 hIb
                go_wp2_with fail
                go_roundg (l.length - (j + 1))
                case measure => rw [HK.out]; omega
                case rel => exact ⟨j + 1, rfl, by omega, by go_num, .wr (atS t.words) t, _, _, _, _, rfl, rfl, rfl, rfl, hI2⟩
            · cases hcd : (cd == 0) with
              | true => as_aux_lemma =>
                  obtain rfl : cd = 0 := by simpa using hcd
                  have kv : Keeps nobody (wr.alloc (lkObj ⟨kd, op, 0⟩)) ((wr.alloc (lkObj ⟨kd, op, 0⟩)).alloc (.cells #[.iface T x, .nilIface] 26)) := keeps_alloc _ _
                  have hIv := hIb.quiet kv
                  have HJ := hid (join_one (wr.heap.size + 1) T x ((wr.alloc (lkObj ⟨kd, op, 0⟩)).alloc (.cells #[.iface T x, .nilIface] 26)) (heap2 wr _ _ [.nilIface]) (heap2b wr _ (.iface T x) _ []))
                  go_wp2_with fail
                  refine Calls.mono (new_ok _) ?_
                  rintro e w2 ⟨rfl, rfl⟩
                  go_wp2_with fail
                  refine Calls.mono HJ.out ?_
                  rintro e w2 ⟨b2, g2, rfl, hb2, hg2, k2⟩
                  have hI2 := hIv.j1 hnil (.j1 hb2 hg2 hnil (hIv.err.quiet k2)) k2
                  clear HJ hIv kv hb2 hg2 k2 hIb
                  go_wp2_with fail
                  go_roundg (l.length - (j + 1))
                  case measure => rw [HK.out]; omega
                  case rel => exact ⟨j + 1, rfl, by omega, by go_num, .j1 t, _, _, _, _, rfl, rfl, rfl, rfl, hI2⟩
              | false =>
                cases p with
                | true => as_aux_lemma =>
                    have kv : Keeps nobody (wr.alloc (lkObj ⟨kd, op, cd⟩)) (((wr.alloc (lkObj ⟨kd, op, cd⟩)).alloc (flObj ⟨#[]⟩ cd .nilIface)).alloc (.cells #[.iface T x, flV (wr.heap.size + 1)] 26)) := (keeps_alloc _ _).alloc _
                    have hIv := hIb.quiet kv
                    have hkf := heap3b wr (lkObj ⟨kd, op, cd⟩) (flObj ⟨#[]⟩ cd .nilIface) (.cells #[.iface T x, flV (wr.heap.size + 1)] 26)
                    have hbx := heap3a wr (lkObj ⟨kd, op, cd⟩) (flObj ⟨#[]⟩ cd .nilIface) (.cells #[.iface T x, flV (wr.heap.size + 1)] 26)
                    have hsl := heap3c wr (lkObj ⟨kd, op, cd⟩) (flObj ⟨#[]⟩ cd .nilIface) (.cells #[.iface T x, flV (wr.heap.size + 1)] 26)
                    have HJ := hid (join_two (wr.heap.size + 1 + 1) T _ x _ _ (cells_of hsl 0 _ rfl) (cells_of hsl 1 _ rfl))
                    have hglt := lt_of_heap hI.mp.heap.choose_spec.choose_spec
                    go_wp2_with fail
                    refine Calls.mono (new_some cd _ hcd) ?_
                    rintro e w2 ⟨rfl, rfl⟩
                    go_wp2_with fail
                    refine Calls.mono HJ.out ?_
                    rintro e w2 ⟨b2, g2, rfl, hb2, hg2, k2⟩
                    have hE2 : Err w2 (jnV b2) (.j2 t cd) := .j2 hb2 hg2 ((k2.block _ (lt_of_heap hkf) id).trans hkf) hnil (hIv.err.quiet k2)
                    have hx2 := (k2.block _ (lt_of_heap hbx) id).trans hbx
                    have c2b := cells_of hx2 2 _ rfl
                    have hm2 := hIv.mp.keeps k2 id
                    have K2 := hIv.keeps.then k2
                    have HR : Hid (∀ w3, Keeps nobody w2 w3 → ∃ w4, (Instr.mapUpdate 28 (.map (some g)) (.int .i64 cd) (.bool true)).run Tryf.prog w3 = .ok () w4 ∧ w3.cell? ⟨wr.heap.size, 2, none⟩ = some (.int .i64 cd) ∧ w4.cell? ⟨wr.heap.size, 2, none⟩ = some (.int .i64 cd) ∧ Inv W w4 (j + 1) (.j2 t cd) g (n + 1) (fun q => q == cd || f q) false (jnV b2) (.slice none 0 0)) := by
                      intro w3 h3
                      have hm3 := hm2.keeps h3 id
                      have hx3 := (h3.block _ (lt_of_heap hx2) id).trans hx2
                      obtain ⟨w4, hr4, hm4, k4⟩ := mp_set hm3 (by have := hI.few; omega) cd wcd
                      have hx4 := (k4.block _ (lt_of_heap hx3) (by omega)).trans hx3
                      have hz := hI.keeps.size
                      exact ⟨w4, hr4, cells_of hx3 2 _ rfl, cells_of hx4 2 _ rfl, hIv.j2 hnil cd wcd ((hE2.quiet h3).beside hm3 k4) hm4 (Nat.le_refl _) (fun _ _ => rfl) ((K2.then h3).trans k4 fun m hm e => by have := hI.new; omega)⟩
                    clear HJ hIv kv hb2 hg2 k2 hIb hkf hbx hsl hx2 hm2 K2 hE2 hI
                    go_wp2_with fail
                    refine Calls.mono (ref_code cd w2) ?_
                    rintro e w3 ⟨rfl, k3⟩
                    obtain ⟨w4, hr4, c3b, c4b, hI4⟩ := HR.out w3 k3
                    have hI5 := hid hI4
                    have hns := nameOf_size cd
                    clear HR k3 hI4
                    go_wp2_with fail
                    go_roundg (l.length - (j + 1))
                    case measure => rw [HK.out]; omega
                    case rel => exact ⟨j + 1, rfl, by omega, by go_num, .j2 t cd, _, _, _, _, rfl, by rw [j2_code t cd true hpl.out]; rfl, by rw [j2_words], rfl, hI5.out⟩
                | false => as_aux_lemma =>
                    have kv : Keeps nobody (wr.alloc (lkObj ⟨kd, op, cd⟩)) (((wr.alloc (lkObj ⟨kd, op, cd⟩)).alloc (flObj ⟨#[]⟩ cd .nilIface)).alloc (.cells #[.iface T x, flV (wr.heap.size + 1)] 26)) := (keeps_alloc _ _).alloc _
                    have hIv := hIb.quiet kv
                    have hkf := heap3b wr (lkObj ⟨kd, op, cd⟩) (flObj ⟨#[]⟩ cd .nilIface) (.cells #[.iface T x, flV (wr.heap.size + 1)] 26)
                    have hbx := heap3a wr (lkObj ⟨kd, op, cd⟩) (flObj ⟨#[]⟩ cd .nilIface) (.cells #[.iface T x, flV (wr.heap.size + 1)] 26)
                    have hsl := heap3c wr (lkObj ⟨kd, op, cd⟩) (flObj ⟨#[]⟩ cd .nilIface) (.cells #[.iface T x, flV (wr.heap.size + 1)] 26)
                    have HJ := hid (join_two (wr.heap.size + 1 + 1) T _ x _ _ (cells_of hsl 0 _ rfl) (cells_of hsl 1 _ rfl))
                    have hglt := lt_of_heap hI.mp.heap.choose_spec.choose_spec
                    go_wp2_with fail
                    refine Calls.mono (new_some cd _ hcd) ?_
                    rintro e w2 ⟨rfl, rfl⟩
                    go_wp2_with fail
                    refine Calls.mono HJ.out ?_
                    rintro e w2 ⟨b2, g2, rfl, hb2, hg2, k2⟩
                    have hE2 : Err w2 (jnV b2) (.j2 t cd) := .j2 hb2 hg2 ((k2.block _ (lt_of_heap hkf) id).trans hkf) hnil (hIv.err.quiet k2)
                    have hx2 := (k2.block _ (lt_of_heap hbx) id).trans hbx
                    have c2b := cells_of hx2 2 _ rfl
                    have hm2 := hIv.mp.keeps k2 id
                    have K2 := hIv.keeps.then k2
                    have HR : Hid (∀ w3, Keeps nobody w2 w3 → ∃ w4, (Instr.mapUpdate 28 (.map (some g)) (.int .i64 cd) (.bool true)).run Tryf.prog w3 = .ok () w4 ∧ w3.cell? ⟨wr.heap.size, 2, none⟩ = some (.int .i64 cd) ∧ w4.cell? ⟨wr.heap.size, 2, none⟩ = some (.int .i64 cd) ∧ Inv W w4 (j + 1) (.j2 t cd) g (n + 1) (fun q => q == cd || f q) false (jnV b2) (.slice none 0 0)) := by
                      intro w3 h3
                      have hm3 := hm2.keeps h3 id
                      have hx3 := (h3.block _ (lt_of_heap hx2) id).trans hx2
                      obtain ⟨w4, hr4, hm4, k4⟩ := mp_set hm3 (by have := hI.few; omega) cd wcd
                      have hx4 := (k4.block _ (lt_of_heap hx3) (by omega)).trans hx3
                      have hz := hI.keeps.size
                      exact ⟨w4, hr4, cells_of hx3 2 _ rfl, cells_of hx4 2 _ rfl, hIv.j2 hnil cd wcd ((hE2.quiet h3).beside hm3 k4) hm4 (Nat.le_refl _) (fun _ _ => rfl) ((K2.then h3).trans k4 fun m hm e => by have := hI.new; omega)⟩
                    clear HJ hIv kv hb2 hg2 k2 hIb hkf hbx hsl hx2 hm2 K2 hE2 hI
                    go_wp2_with fail
                    refine Calls.mono (ref_code cd w2) ?_
                    rintro e w3 ⟨rfl, k3⟩
                    obtain ⟨w4, hr4, c3b, c4b, hI4⟩ := HR.out w3 k3
                    have hI5 := hid hI4
                    have hns := nameOf_size cd
                    clear HR k3 hI4
                    go_wp2_with fail
                    go_roundg (l.length - (j + 1))
                    case measure => rw [HK.out]; omega
                    case rel => exact ⟨j + 1, rfl, by omega, by go_num, .j2 t cd, _, _, _, _, rfl, by rw [j2_code t cd false hpl.out]; rfl, by rw [j2_words], rfl, hI5.out⟩
            · as_aux_lemma =>
                have kv : Keeps nobody (wr.alloc (lkObj ⟨kd, op, cd⟩)) ((wr.alloc (lkObj ⟨kd, op, cd⟩)).alloc (.cells #[.iface T x] 20)) := keeps_alloc _ _
                have hIv := hIb.quiet kv
                have HE := hid (errorf_no F t (.iface T x) (wr.heap.size + 1) _ (hEnv.quiet hIv.keeps) (by rw [hIv.keeps.tape]; exact hF) hnil hIv.err (by omega) (heap2 wr _ _ _))
                go_wp2_with fail
                refine Calls.mono HE.out ?_
                rintro e w2 ⟨b2, rfl, hE2, k2⟩
                have hI2 := hIv.pl (hE2.quiet (keeps_alloc w2 (.map #[] 0))) (mp_new w2) (by have := (hIv.keeps.then k2).size; omega) (k2.alloc _)
                clear HE hIv kv hE2 k2 hIb
                go_wp2_with fail
                go_roundg (l.length - (j + 1))
                case measure => rw [HK.out]; omega
                case rel => exact ⟨j + 1, rfl, by omega, by go_num, _, _, _, _, _, rfl, rfl, rfl, rfl, hI2⟩
        · have h40i : (40 : Int) < (op.size : Int) := by omega
          go_wp2_with fail
          go_ret
          exact ⟨rfl, hI.keeps.alloc _⟩
      · as_aux_lemma =>
          have hjl : (l.length : Int) ≤ (j : Int) := by omega
          have hdp := hI.deep
          have hwz := hI.size
          cases hnil : t.isNil with
          | true =>
            have hE0 := hI.err
            have kk := hI.keeps
            have HG := hid (has_zero .nil .nilIface wr .nil)
            cases hE0 with
            | nil =>
              clear hl hk hI
              have H2 : Hid (∀ w1, Calls Tryf.prog 12 #[.nilIface, .int .i64 0] w1 fun e w' => e = .returned (.bool true) ∧ Keeps nobody w1 w') := fun w1 => has_zero .nil .nilIface w1 .nil
              have H3 : Hid (∀ w1, Calls Tryf.prog 13 #[.nilIface] w1 fun e w' => ∃ v', e = .returned v' ∧ w'.ownsRow w1.heap.size 9 1 v' 0 (strs []) ∧ Keeps nobody w1 w') := fun w1 => path_ok .nil .nilIface w1 .nil (by decide)
              cases hak : (ask == 0) with
              | true =>
                go_wp2_with fail
                refine Calls.mono (code_nil _) ?_
                rintro e w2 ⟨rfl, k2⟩
                go_wp2_with fail
                refine Calls.mono (H2.out _) ?_
                rintro e w3 ⟨rfl, k3⟩
                go_wp2_with fail
                refine Calls.mono (H3.out _) ?_
                rintro e w4 ⟨v4, rfl, ho4, k4⟩
                obtain ⟨a4, c4, rfl⟩ := ownsRow_shape ho4
                have K4 := ((kk.then k2).then k3).then k4
                clear ho4 k2 k3 k4 kk H2 H3
                go_wp2_with fail
                go_ret
                exact ⟨rfl, K4⟩
              | false =>
                have H5 : Hid (∀ w1, Calls Tryf.prog 12 #[.nilIface, .int .i64 ask] w1 fun e w' => e = .returned (.bool false) ∧ Keeps nobody w1 w') := fun w1 => has_some ask hak .nil .nilIface w1 .nil
                go_wp2_with fail
                refine Calls.mono (code_nil _) ?_
                rintro e w2 ⟨rfl, k2⟩
                go_wp2_with fail
                refine Calls.mono (H2.out _) ?_
                rintro e w3 ⟨rfl, k3⟩
                go_wp2_with fail
                refine Calls.mono (H5.out _) ?_
                rintro e w5 ⟨rfl, k5⟩
                go_wp2_with fail
                refine Calls.mono (H3.out _) ?_
                rintro e w4 ⟨v4, rfl, ho4, k4⟩
                obtain ⟨a4, c4, rfl⟩ := ownsRow_shape ho4
                have K4 := (((kk.then k2).then k3).then k5).then k4
                clear ho4 k2 k3 k4 k5 kk H2 H3 H5
                go_wp2_with fail
                go_ret
                exact ⟨rfl, K4⟩
            | _ => simp [Er.isNil] at hnil
          | false =>
            obtain ⟨T, x, fE, hTx, hmE, hfE, hCE⟩ := says_ok t.deep wr u7 t (Nat.le_refl _) hnil hI.err (by omega)
            subst hTx
            have HE1 := hid (hCE wr (hEnv.quiet hI.keeps) (Keeps.refl _ _))
            have HE2 : Hid (∀ w1, Keeps nobody wr w1 → Calls Tryf.prog 11 #[.iface T x] w1 fun e w' => e = .returned (.int .i64 t.code) ∧ Keeps nobody w1 w') := fun w1 h1 => code_ok t _ w1 (hEnv.quiet (hI.keeps.then h1)) hnil (hI.err.quiet h1)
            have HE3 : Hid (∀ w1, Keeps nobody wr w1 → Calls Tryf.prog 13 #[.iface T x] w1 fun e w' => ∃ v', e = .returned v' ∧ w'.ownsRow w1.heap.size 9 1 v' t.ops.length (strs t.ops) ∧ Keeps nobody w1 w') := fun w1 h1 => path_ok t _ w1 (hI.err.quiet h1) (by omega)
            have HE4 : Hid (∀ w1 v1 B, Keeps nobody wr w1 → w1.ownsRow B 9 1 v1 t.ops.length (strs t.ops) → Calls Tryf.prog 14 #[v1, u10] w1 fun e w' => e = .returned (.bool true) ∧ Keeps nobody w1 w') := fun w1 v1 B h1 ho => same_rows v1 u10 t.ops w1 ho (h1.row hI.row (fun _ _ h => h))
            have kk := hI.keeps
            cases hak : (ask == 0) with
            | true =>
              obtain rfl : ask = 0 := by simpa using hak
              have HE5 : Hid (∀ w1, Keeps nobody wr w1 → Calls Tryf.prog 12 #[.iface T x, .int .i64 0] w1 fun e w' => e = .returned (.bool false) ∧ Keeps nobody w1 w') := fun w1 h1 => by
                have := has_zero t _ w1 (hI.err.quiet h1)
                rwa [hnil] at this
              clear hl hk hI hCE
              go_wp2_with fail
              refine Calls.mono HE1.out ?_
              rintro e w2 ⟨rfl, k2⟩
              go_wp2_with fail
              refine Calls.mono (HE2.out w2 k2) ?_
              rintro e w3 ⟨rfl, k3⟩
              have K3 := k2.then k3
              go_wp2_with fail
              refine Calls.mono (HE5.out w3 K3) ?_
              rintro e w4 ⟨rfl, k4⟩
              have K4 := K3.then k4
              go_wp2_with fail
              refine Calls.mono (HE3.out w4 K4) ?_
              rintro e w5 ⟨v5, rfl, ho5, k5⟩
              have K5 := K4.then k5
              obtain ⟨a5, c5, rfl⟩ := ownsRow_shape ho5
              go_wp2_with fail
              refine Calls.mono (HE4.out w5 _ _ K5 ho5) ?_
              rintro e w6 ⟨rfl, k6⟩
              have K6 := kk.then (K5.then k6)
              clear HE1 HE2 HE3 HE4 HE5 k2 k3 k4 k5 k6 K3 K4 K5 ho5 kk
              go_wp2_with fail
              go_ret
              exact ⟨rfl, K6⟩
            | false =>
              have hqn : (ask != 0) = true := by simp [bne, hak]
              have HE5 : Hid (∀ w1, Keeps nobody wr w1 → Calls Tryf.prog 12 #[.iface T x, .int .i64 ask] w1 fun e w' => e = .returned (.bool (t.has ask)) ∧ Keeps nobody w1 w') := fun w1 h1 => has_some ask hak t _ w1 (hI.err.quiet h1)
              have HE6 : Hid (∀ w1, Keeps nobody wr w1 → (Instr.lookup 28 (.map (some g)) (.int .i64 ask) false).run Tryf.prog w1 = .ok (.bool (t.has ask)) w1) := fun w1 h1 => by
                have := mp_get (hI.mp.keeps h1 id) ask hask
                rwa [hI.same ask hqn] at this
              generalize t.has ask = hb at *
              clear hl hk hI hCE
              go_wp2_with fail
              refine Calls.mono HE1.out ?_
              rintro e w2 ⟨rfl, k2⟩
              go_wp2_with fail
              refine Calls.mono (HE2.out w2 k2) ?_
              rintro e w3 ⟨rfl, k3⟩
              have K3 := k2.then k3
              go_wp2_with fail
              refine Calls.mono (HE5.out w3 K3) ?_
              rintro e w4 ⟨rfl, k4⟩
              have K4 := K3.then k4
              have hlk := HE6.out w4 K4
              go_wp2_with fail
              refine Calls.mono (HE3.out w4 K4) ?_
              rintro e w5 ⟨v5, rfl, ho5, k5⟩
              have K5 := K4.then k5
              obtain ⟨a5, c5, rfl⟩ := ownsRow_shape ho5
              go_wp2_with fail
              refine Calls.mono (HE4.out w5 _ _ K5 ho5) ?_
              rintro e w6 ⟨rfl, k6⟩
              have K6 := kk.then (K5.then k6)
              clear HE1 HE2 HE3 HE4 HE5 HE6 k2 k3 k4 k5 k6 K3 K4 K5 ho5 kk hlk
              go_wp2_with fail
              go_ret
              exact ⟨rfl, K6⟩
end Go.Proofs.YthgcbgdafoiacaaFmt
