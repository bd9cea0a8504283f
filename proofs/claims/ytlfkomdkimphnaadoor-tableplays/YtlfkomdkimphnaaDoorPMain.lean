/-
  The law TablePlays as a walk.
-/
import Derived.Test.YtlfkomdkimphnaaDoorPKeep
import Derived.Deep.DeepCutAuto
import Derived.Deep.CutBlock
import Derived.Deep.RegionHeld3
namespace Go.Proofs.YtlfkomdkimphnaaDoor
open Go.RowKit

theorem play_begin {W w : World} {g : Nat} {v : Value} {n : Nat} (h : Good W w g v n []) (hn : n ≤ 512) : Play W ((w.alloc (.cells #[.int .i64 (n : Int), .slice none 0 0] 37)).alloc (.cells #[.slice none 0 0, .slice none 0 0, .slice none 0 0, .slice none 0 0, .slice none 0 0, .slice none 0 0, .slice none 0 0, .slice none 0 0, .slice none 0 0, .slice none 0 0] 45)) g v n [] w.heap.size (.slice none 0 0) n [] (w.heap.size + 1) (.slice none 0 0) (.slice none 0 0) [] [] := by
  have k1 := keeps_alloc w (.cells #[.int .i64 (n : Int), .slice none 0 0] 37)
  have k2 := keeps_alloc (w.alloc (.cells #[.int .i64 (n : Int), .slice none 0 0] 37)) (.cells #[.slice none 0 0, .slice none 0 0, .slice none 0 0, .slice none 0 0, .slice none 0 0, .slice none 0 0, .slice none 0 0, .slice none 0 0, .slice none 0 0, .slice none 0 0] 45)
  have hB := h.below.size
  have nil : ∀ k, (Value.slice none 0 0).ownBlock = some k → False := fun k e => by simp [Value.ownBlock] at e
  have r1 : RTab (w.alloc (.cells #[.int .i64 (n : Int), .slice none 0 0] 37)) w.heap.size (.slice none 0 0) n [] := ⟨heap_alloc_new w _, World.ownsRow_nil _ _ _ _, by simp [sum], hn⟩
  have kf : ∀ k, kfoot (w.heap.size + 1) (.slice none 0 0) (.slice none 0 0) [] [] k → k = w.heap.size + 1 := by
    rintro k (e | (e | ⟨p, hp, e⟩) | (e | ⟨p, hp, e⟩))
    · exact e
    · exact (nil k e).elim
    · cases hp
    · exact (nil k e).elim
    · cases hp
  have rf : ∀ k, tfoot w.heap.size (.slice none 0 0) k → k = w.heap.size := by
    rintro k (e | e)
    · exact e
    · exact (nil k e).elim
  have hsz : (w.alloc (.cells #[.int .i64 (n : Int), .slice none 0 0] 37)).heap.size = w.heap.size + 1 := by simp
  have hb := heap_alloc_new (w.alloc (.cells #[.int .i64 (n : Int), .slice none 0 0] 37)) (.cells #[.slice none 0 0, .slice none 0 0, .slice none 0 0, .slice none 0 0, .slice none 0 0, .slice none 0 0, .slice none 0 0, .slice none 0 0, .slice none 0 0, .slice none 0 0] 45)
  rw [hsz] at hb
  refine ⟨(h.quiet k1).quiet k2, r1.quiet k2, ⟨hb, ⟨World.ownsRow_nil _ _ _ _, (fun p hp => by cases hp)⟩, ⟨World.ownsRow_nil _ _ _ _, (fun p hp => by cases hp)⟩, fun k e => (nil k e).elim⟩, fun k e => ?_, fun k e => ?_, fun k e e2 => ?_, fun k e e2 => ?_, fun k e e2 => ?_, rfl, (fun p hp => by cases hp), (fun i j p q hp => by simp at hp)⟩
  · rw [rf k e]; exact hB
  · rw [kf k e]; omega
  · have := h.tab.footlt k e; have := rf k e2; omega
  · have := h.tab.footlt k e; have := kf k e2; omega
  · have := rf k e; have := kf k e2; omega

set_option maxRecDepth 100000 in
set_option maxHeartbeats 8000000 in
theorem plays_main (n : Nat) (a : Option Addr) (cap : Nat) (l : List Opr) (w : World) (hE : Env w) (hF : Oprs w a l) (hl : l.length ≤ 80) (hn : n ≤ 512) : Calls Tryd.prog 3 #[.int .i64 (n : Int), .slice a l.length cap] w (Fine w) := by
  have hA : Hid (Calls Tryd.prog 9 #[] w fun e w' => e = .returned (.bool true) ∧ Below w.heap.size w w') := alive_true w hE
  have HE := hid hE
  have HF := hid hF
  clear hE hF
  go_enter Tryd.func3, Tryd.ntmps3
  go_wp2_with fail
  refine Calls.mono hA.out ?_
  rintro e w1 ⟨rfl, hB1⟩
  go_wp2_with fail
  refine Calls.mono (g_new hB1 n hn) ?_
  rintro e w2 ⟨g, v2, rfl, G2, _, _⟩
  have P2 := hid (play_begin G2 hn)
  clear G2
  go_wp2
  generalize hrg : w2.heap.size = rg at *
  generalize hkb : rg + 1 = kb at *
  clear hrg hkb hA hB1
  go_loopg [93] l.length (fun k iv wr => ∃ j : Nat, iv = .int .i64 j ∧ k + j = l.length ∧ ∃ v size m rv fv wv fs ws, Hid (Play w wr g v size m rg rv size m kb fv wv fs ws ∧ fs.length = j ∧ ws.length = j))
  case atStart => exact ⟨0, rfl, rfl, _, _, _, _, _, _, _, _, P2.out, rfl, rfl⟩
  case round =>
    obtain ⟨j, rfl, hk, v, size, m, rv, fv, wv, fs, ws, G⟩ := hrel
    clear P2
    by_cases hj : j < l.length
    · rcases HF.out.1 with h0 | ⟨b, off, rfl, hb, hc⟩
      · subst h0; simp at hj
      obtain ⟨⟨fk, fn⟩, s0, s1⟩ := HF.out.2.2 _ (List.getElem_mem hj)
      have hcj := hc j _ (List.getElem?_eq_getElem hj)
      generalize l[j]'hj = o at *
      obtain ⟨ok, on, fa, fb⟩ := o
      simp only at s0 s1 fk fn hcj
      obtain ⟨c0, c1, c2, c3⟩ := hcj
      have hbl := G.out.1.good.below.block b hb
      rw [← World.cell?_of_block hbl] at c0 c1 c2 c3
      have P1 := hid (PB.begin G.out.1 (ok, on, fa, fb))
      have HL := hid (And.intro G.out.2.1 G.out.2.2)
      have HK := hid hk
      have hbw : b < wr.heap.size := Nat.lt_of_lt_of_le hb G.out.1.good.below.size
      clear G hk hc hbl HF
      by_cases hbig : 800 < fa.size + fb.size
      · have hBe := P1.out.p.good.below
        clear P1 HL HK
        have hbig' : (800 : Int) < (fa.size : Int) + (fb.size : Int) := by omega
        go_wp2
        go_ret
        exact ⟨rfl, hBe⟩
      · have hbig' : ¬ (800 : Int) < (fa.size : Int) + (fb.size : Int) := by omega
        go_upto_block 2 with fail
        go_cut [93] from 93 to 218 (fun i wx => i = .int .i64 (j : Int) ∧ ∃ v' size' m' rv', Hid (PB w wx g v' size' m' rg rv' size' m' kb fv wv fs ws wr.heap.size (ok, on, fa, fb)))
        case first =>
          by_cases h1 : ok = 1
          · subst h1
            go_wp2_with fail
            refine Calls.mono (g_add P1.out.p.good (fa, fb) (by simp only; omega)) ?_
            rintro e w3 ⟨rfl, v3, G3, K3, F3⟩
            have P3 := P1.out.acted G3 K3 F3
            obtain ⟨_, _, d2, d3⟩ := P3.cells
            have hlt := P3.lt
            have H3 := hid P3
            clear P1 P3 G3 K3 F3 c0 c1 c2 c3
            simp only at d2 d3
            go_wp2_with fail
            refine Calls.mono (radd_ok H3.out.p.ref (fa, fb) (by simp only; omega)) ?_
            rintro e w4 ⟨rfl, ha⟩
            obtain ⟨rv4, P4⟩ := H3.out.racted ha
            have H4 := hid P4
            clear P4 ha H3 d2 d3
            go_wp2
            go_meet
            exact ⟨rfl, v3, _, _, rv4, H4⟩
          · by_cases h2 : ok = 2
            · subst h2
              have HT : Hid (∀ W, Keeps nobody (wr.alloc (obox (2, on, fa, fb))) W → Calls Tryd.prog 13 #[.pointer (some ⟨g, 0, none⟩), .int .i64 on] W fun e w' => e = .returned (.bool (fits on)) ∧ Hid (∃ v', PB w w' g v' (rsz on size) (rls on m) rg rv size m kb fv wv fs ws wr.heap.size (2, on, fa, fb))) := fun W hW => (P1.out.quiet hW).res on
              have HR2 : Hid (∀ W, Hid (∃ v', PB w W g v' (rsz on size) (rls on m) rg rv size m kb fv wv fs ws wr.heap.size (2, on, fa, fb)) → Calls Tryd.prog 18 #[.pointer (some ⟨rg, 0, none⟩), .int .i64 on] W fun e w' => e = .returned (.bool (fits on)) ∧ Hid (∃ v' rv', PB w w' g v' (rsz on size) (rls on m) rg rv' (rsz on size) (rls on m) kb fv wv fs ws wr.heap.size (2, on, fa, fb))) := fun W hW => by
                obtain ⟨v', h⟩ := hW.out
                refine (h.rres on).mono ?_
                rintro e w' ⟨rfl, h'⟩
                obtain ⟨rv', h'⟩ := h'.out
                exact ⟨rfl, v', rv', h'⟩
              have HC2 : Hid (∀ W, Hid (∃ v', PB w W g v' (rsz on size) (rls on m) rg rv size m kb fv wv fs ws wr.heap.size (2, on, fa, fb)) → W.cell? ⟨wr.heap.size, 1, none⟩ = some (.int .i64 on)) := fun W hW => by
                obtain ⟨_, h⟩ := hW.out
                exact h.cells.2.1
              have HC3 : Hid (∀ W, Hid (∃ v' rv', PB w W g v' (rsz on size) (rls on m) rg rv' (rsz on size) (rls on m) kb fv wv fs ws wr.heap.size (2, on, fa, fb)) → W.cell? ⟨wr.heap.size, 1, none⟩ = some (.int .i64 on)) := fun W hW => by
                obtain ⟨_, _, h⟩ := hW.out
                exact h.cells.2.1
              generalize fits on = r at *
              generalize rsz on size = size' at *
              generalize rls on m = m' at *
              clear P1 c0 c1 c2 c3
              have HZ : Hid (∀ W, Hid (∃ v' rv', PB w W g v' size' m' rg rv' size' m' kb fv wv fs ws wr.heap.size (2, on, fa, fb)) → ∃ v' size' m' rv', Hid (PB w W g v' size' m' rg rv' size' m' kb fv wv fs ws wr.heap.size (2, on, fa, fb))) := fun W hW => by
                obtain ⟨v', rv', h⟩ := hW.out
                exact ⟨v', size', m', rv', h⟩
              cases r
              all_goals
                go_upto_region 24 with fail
                go_region_held3 (fun w' => w'.cell? ⟨wr.heap.size, 1, none⟩ = some (.int .i64 on)) (first | go_keep | exact HC2.out _ (by assumption) | exact HC3.out _ (by assumption)) ((first | (go_at_call 13; refine Calls.mono (HT.out _ (by exact (Keeps.refl _ _).drew)) ?_; rintro e wq ⟨rfl, kq⟩) | (go_at_call 18; refine Calls.mono (HR2.out _ (by assumption)) ?_; rintro e wq2 ⟨rfl, kq2⟩)))
                all_goals
                  go_wp2_with fail
                  go_meet
                  exact ⟨rfl, HZ.out _ (by assumption)⟩
            · clear c0 c1 c2 c3
              go_wp2
              go_meet
              exact ⟨rfl, v, size, m, rv, P1⟩
        case rest =>
          obtain ⟨rfl, v1, z1, m1, rv1, P⟩ := hcut
          clear P1 c0 c1 c2 c3 hbw v size m rv
          generalize wr.heap.size = bx at *
          obtain ⟨xa, xb, z, hz⟩ : ∃ xa xb z, atV (atL m1 on) = .tuple #[.agg #[.string xa, .string xb], .bool z] := by cases atL m1 on <;> exact ⟨_, _, _, rfl⟩
          obtain ⟨fi, fz, hfd⟩ : ∃ fi fz, find m1 (fa, fb) = (fi, fz) := ⟨_, _, rfl⟩
          have HA : Hid (∀ W, Keeps nobody wc W → Calls Tryd.prog 12 #[.pointer (some ⟨g, 0, none⟩), .int .i64 on] W fun e w' => e = .returned (.tuple #[.agg #[.string xa, .string xb], .bool z]) ∧ Keeps nobody W w') := fun W hW =>
            (g_at HE.out (P.out.p.good.quiet hW) on fn.2).mono fun e w' ⟨h, _, hk⟩ => ⟨by rw [h, hz], hk⟩
          have HB : Hid (∀ W, Keeps nobody wc W → Calls Tryd.prog 19 #[.pointer (some ⟨rg, 0, none⟩), .int .i64 on] W fun e w' => e = .returned (.tuple #[.agg #[.string xa, .string xb], .bool z]) ∧ Keeps nobody W w') := fun W hW =>
            (rat_ok (P.out.p.ref.quiet hW) on fn.1 fn.2).mono fun e w' ⟨h, hk⟩ => ⟨by rw [h, hz], hk⟩
          have HC : Hid (∀ W, Keeps nobody wc W → Calls Tryd.prog 20 #[.pointer (some ⟨g, 0, none⟩), .agg #[.string fa, .string fb]] W fun e w' => e = .returned (.tuple #[.int .i64 (fi : Int), .bool fz]) ∧ Keeps nobody W w') := fun W hW =>
            (g_find HE.out (P.out.p.good.quiet hW) (fa, fb)).mono fun e w' ⟨h, _, hk⟩ => ⟨by rw [h, hfd], hk⟩
          have HD : Hid (∀ W, Keeps nobody wc W → Calls Tryd.prog 21 #[.pointer (some ⟨rg, 0, none⟩), .agg #[.string fa, .string fb]] W fun e w' => e = .returned (.tuple #[.int .i64 (fi : Int), .bool fz]) ∧ Keeps nobody W w') := fun W hW =>
            (rfind_ok (P.out.p.ref.quiet hW) (fa, fb)).mono fun e w' ⟨h, hk⟩ => ⟨by rw [h, hfd], hk⟩
          have HI : Hid (∀ W, Keeps nobody wc W → W.cell? ⟨bx, 1, none⟩ = some (.int .i64 on) ∧ W.cell? ⟨bx, 2, none⟩ = some (.string fa) ∧ W.cell? ⟨bx, 3, none⟩ = some (.string fb) ∧ bx < W.heap.size) := fun W hW => by
            have h := P.out.quiet hW
            exact ⟨h.cells.2.1, h.cells.2.2.1, h.cells.2.2.2, h.lt⟩
          clear hz hfd
          have KK := hid (Keeps.refl nobody wc)
          obtain ⟨e1, e2, e3, el⟩ := HI.out _ KK.out
          go_wp2_with fail
          refine Calls.mono (HA.out _ KK.out) ?_
          rintro e w3 ⟨rfl, k3⟩
          have K3 := hid k3
          have Z3 := hid (bx_new w3 xa xb)
          have K3a := hid (k3.alloc (.cells #[.string xa, .string xb] 28))
          have B3 : Hid (wc.heap.size ≤ w3.heap.size) := k3.size
          clear k3 e1 e2 e3 el
          obtain ⟨e1, e2, e3, el⟩ := HI.out _ K3.out
          go_wp2_with fail
          refine Calls.mono (HB.out _ K3a.out) ?_
          rintro e w4 ⟨rfl, k4⟩
          have K4 := hid (K3a.out.then k4)
          have K4a := hid (K4.out.alloc (.cells #[.string xa, .string xb] 28))
          have Y4 := hid ((Z3.out.quiet k4).quiet (keeps_alloc w4 (.cells #[.string xa, .string xb] 28)))
          have Z4 := hid (bx_new w4 xa xb)
          have B4 : Hid (wc.heap.size ≤ w4.heap.size) := K4.out.size
          clear k4 e1 e2 e3 el K3 K3a Z3
          obtain ⟨e1, e2, e3, el⟩ := HI.out _ K4.out
          generalize w3.heap.size = b3 at *
          clear HA HB
          go_wp2_with fail
          refine Calls.mono (HC.out _ K4a.out) ?_
          rintro e w5 ⟨rfl, k5⟩
          have K5 := hid (K4a.out.then k5)
          have Y5 := hid (Y4.out.quiet k5)
          have Z5 := hid (Z4.out.quiet k5)
          clear k5 e1 e2 e3 el K4 K4a Y4 Z4 HC
          generalize w4.heap.size = b4 at *
          obtain ⟨e1, e2, e3, el⟩ := HI.out _ K5.out
          go_wp2_with fail
          refine Calls.mono (HD.out _ K5.out) ?_
          rintro e w6 ⟨rfl, k6⟩
          have K6 := hid (K5.out.then k6)
          have Y6 := hid (Y5.out.quiet k6)
          have Z6 := hid (Z5.out.quiet k6)
          clear k6 e1 e2 e3 el K5 Y5 Z5 HD HI
          go_wp2_with fail
          refine Calls.mono (g_all (P.out.p.good.quiet K6.out)) ?_
          rintro e w7 ⟨ra, rc, rfl, R7, _, k7⟩
          have HN := hid (kept_step P.out K6.out k7 ra rc R7 (by have := HL.out.1; omega))
          have Y7 := hid (Y6.out.quiet k7)
          have Z7 := hid (Z6.out.quiet k7)
          clear R7 k7 Y6 Z6 K6 KK
          go_wp2_with fail
          refine Calls.mono HN.out ?_
          rintro e w8 ⟨rfl, fv8, wv8, cv8, P8, R8, S8⟩
          have Y8 := hid (S8.out _ _ _ B3.out Y7.out)
          have Z8 := hid (S8.out _ _ _ B4.out Z7.out)
          clear S8 Y7 Z7 HN P B3 B4
          go_upto_region 32 with fail
          have hsl := P8.out.p.ref.fits
          have hsz := P8.out.p.ref.most
          have hml := P8.out.p.ref.length
          obtain ⟨qa, qn, qc, hq⟩ := row_slice P8.out.p.ref.row
          subst hq
          have HS : Hid (∀ W, Keeps nobody w8 W → Calls Tryd.prog 14 #[.pointer (some ⟨g, 0, none⟩)] W fun e w' => e = .returned (.int .i64 (z1 : Int)) ∧ Keeps nobody w8 w') := fun W hW =>
            (g_size (P8.out.quiet hW).p.good).mono fun e w' ⟨h, hk⟩ => ⟨h, by rw [← hk]; exact hW⟩
          have HU : Hid (∀ W, Keeps nobody w8 W → Calls Tryd.prog 15 #[.pointer (some ⟨g, 0, none⟩)] W fun e w' => e = .returned (.int .i64 (sum m1 : Int)) ∧ Keeps nobody w8 w') := fun W hW =>
            (g_used (P8.out.quiet hW).p.good).mono fun e w' ⟨h, _, hk⟩ => ⟨h, hW.then hk⟩
          have HM : Hid (∀ W, Keeps nobody w8 W → Calls Tryd.prog 23 #[.slice qa qn qc] W fun e w' => e = .returned (.int .i64 (sum m1 : Int)) ∧ Keeps nobody w8 w') := fun W hW =>
            (rsum_ok (P8.out.quiet hW).p.ref.row (by omega)).mono fun e w' ⟨h, hk⟩ => ⟨h, hW.then hk⟩
          have HG : Hid (∀ W, Keeps nobody w8 W → Calls Tryd.prog 24 #[.slice ra m1.length rc, .slice qa qn qc] W fun e w' => e = .returned (.bool true) ∧ Keeps nobody w8 w') := fun W hW =>
            (same_ok (hW.row R8.out fun _ _ => id) (P8.out.quiet hW).p.ref.row (by omega)).mono fun e w' ⟨h, hk⟩ => ⟨h, hW.then hk⟩
          have HT : Hid (∀ W, Keeps nobody w8 W → Calls Tryd.prog 25 #[.agg #[.string fa, .string fb]] W fun e w' => e = .returned (.int .i64 (cost (fa, fb) : Int)) ∧ Keeps nobody w8 w') := fun W hW =>
            (cost_ok (fa, fb) W (by simp only; omega)).mono fun e w' ⟨h, hk⟩ => ⟨h, by rw [hk]; exact hW.alloc _⟩
          have HV : Hid (∀ W, Keeps nobody w8 W → Calls Tryd.prog 26 #[.agg #[.string fa, .string fb]] W fun e w' => e = .returned (.int .i64 (cost (fa, fb) : Int)) ∧ Keeps nobody w8 w') := fun W hW =>
            (rcost_ok (fa, fb) W (by simp only; omega)).mono fun e w' ⟨h, hk⟩ => ⟨h, by rw [hk]; exact hW.alloc _⟩
          have HX : Hid (∀ W, Keeps nobody w8 W → W.cell? ⟨b3, 0, none⟩ = some (.string xa) ∧ W.cell? ⟨b3, 1, none⟩ = some (.string xb) ∧ W.cell? ⟨b4, 0, none⟩ = some (.string xa) ∧ W.cell? ⟨b4, 1, none⟩ = some (.string xb) ∧ W.cell? ⟨rg, 0, none⟩ = some (.int .i64 (z1 : Int)) ∧ W.cell? ⟨rg, 1, none⟩ = some (.slice qa qn qc) ∧ W.cell? ⟨bx, 2, none⟩ = some (.string fa) ∧ W.cell? ⟨bx, 3, none⟩ = some (.string fb)) := fun W hW => by
            have h := P8.out.quiet hW
            have hy := (Y8.out.quiet hW).cells
            have hz := (Z8.out.quiet hW).cells
            exact ⟨hy.1, hy.2, hz.1, hz.2, h.p.ref.cells.1, h.p.ref.cells.2.1, h.cells.2.2.1, h.cells.2.2.2⟩
          generalize cost (fa, fb) = cc at *
          generalize hss : sum m1 = ss at *
          clear hss
          go_cut [93, 217] from 93 to 218 (fun i x wx => i = .int .i64 (j : Int) ∧ x = .bool false ∧ Keeps nobody w8 wx)
          case first =>
            obtain ⟨p1, p2, p3, p4, p5, p6, p7, p8⟩ := HX.out _ (Keeps.refl _ _)
            clear P8 R8 Y8 Z8 HL HK HE
            go_region_held3 (fun w' => w'.cell? ⟨b3, 0, none⟩ = some (.string xa) ∧ w'.cell? ⟨b3, 1, none⟩ = some (.string xb) ∧ w'.cell? ⟨b4, 0, none⟩ = some (.string xa) ∧ w'.cell? ⟨b4, 1, none⟩ = some (.string xb) ∧ w'.cell? ⟨rg, 0, none⟩ = some (.int .i64 (z1 : Int)) ∧ w'.cell? ⟨rg, 1, none⟩ = some (.slice qa qn qc) ∧ w'.cell? ⟨bx, 2, none⟩ = some (.string fa) ∧ w'.cell? ⟨bx, 3, none⟩ = some (.string fb)) (first | go_keep | exact HX.out _ (by assumption)) ((first
              | (go_at_call 14; refine Calls.mono (HS.out _ (by first | assumption | exact (Keeps.refl _ _).drew)) ?_; rintro e wq ⟨rfl, kq⟩)
              | (go_at_call 15; refine Calls.mono (HU.out _ (by first | assumption | exact (Keeps.refl _ _).drew)) ?_; rintro e wq ⟨rfl, kq⟩)
              | (go_at_call 23; refine Calls.mono (HM.out _ (by first | assumption | exact (Keeps.refl _ _).drew)) ?_; rintro e wq ⟨rfl, kq⟩)
              | (go_at_call 24; refine Calls.mono (HG.out _ (by first | assumption | exact (Keeps.refl _ _).drew)) ?_; rintro e wq ⟨rfl, kq⟩)
              | (go_at_call 25; refine Calls.mono (HT.out _ (by first | assumption | exact (Keeps.refl _ _).drew)) ?_; rintro e wq ⟨rfl, kq⟩)
              | (go_at_call 26; refine Calls.mono (HV.out _ (by first | assumption | exact (Keeps.refl _ _).drew)) ?_; rintro e wq ⟨rfl, kq⟩)))
            all_goals
              go_wp2_with fail
              go_meet
              refine ⟨rfl, ?_, by assumption⟩
              first | rfl | exact congrArg Value.bool (by simp)
          case rest =>
            obtain ⟨rfl, rfl, kc⟩ := hcut
            have P9 := hid (P8.out.quiet kc)
            clear HX HS HU HM HG HT HV P8 R8 Y8 Z8 kc
            have hk := HK.out
            have hl1 := HL.out.1
            have hl2 := HL.out.2
            clear HK HL
            go_wp2
            go_roundg (gk - 1)
            case measure => omega
            case rel => exact ⟨j + 1, by simp, by omega, v1, z1, m1, _, fv8, wv8, _, _, P9.out.p, by simp; omega, by simp; omega⟩
    · have HN : Hid (∀ W, Keeps nobody wr W → Calls Tryd.prog 27 #[.pointer (some ⟨kb, 0, none⟩)] W fun e w' => e = .returned (.bool true) ∧ Below w.heap.size w w') := fun W hW => by
        have P := G.out.1.quiet hW
        refine (apart_ok P.book P.same (by have := G.out.2.1; omega) P.small P.apart (B := w.heap.size) (fun k e => P.bnew k (.inr (.inl e)))).mono ?_
        rintro e w' ⟨rfl, hk⟩
        exact ⟨rfl, hk.below P.good.below (fun k e => e) P.good.below.size⟩
      clear G hk
      go_wp2_with fail
      refine Calls.mono (HN.out _ (Keeps.refl _ _)) ?_
      rintro e w3 ⟨rfl, hB⟩
      go_wp2
      go_ret
      exact ⟨rfl, hB⟩
end Go.Proofs.YtlfkomdkimphnaaDoor
