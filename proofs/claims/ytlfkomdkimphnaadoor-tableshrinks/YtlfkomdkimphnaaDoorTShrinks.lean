/-
  The law TableShrinks as a walk.
-/
import Derived.Test.YtlfkomdkimphnaaDoorTSame
import Derived.Test.YtlfkomdkimphnaaDoorTRes
import Derived.Deep.DeepCutAuto
import Derived.Deep.RegionHeld3
namespace Go.Proofs.YtlfkomdkimphnaaDoor
open Go.RowKit

theorem keep_max (l : List Fld) : ∀ (room : Int) (h : (keep room l).length < l.length), room < (sum (keep room l) : Int) + cost (l[(keep room l).length]'h) := by
  induction l with
  | nil => intro room h; simp at h
  | cons f l ih =>
    intro room h
    by_cases hr : room - cost f < 0
    · have e : keep room (f :: l) = [] := by unfold keep; rw [if_pos hr]
      simp only [e, List.length_nil, List.getElem_cons_zero, sum]
      omega
    · have e : keep room (f :: l) = f :: keep (room - cost f) l := by conv => lhs; unfold keep; rw [if_neg hr]
      simp only [e, List.length_cons, List.getElem_cons_succ, sum]
      have h2 : (keep (room - cost f) l).length < l.length := by rw [e] at h; simpa using h
      have := ih (room - cost f) h2
      omega

theorem prefix_at {M L : List Fld} (h : M = L.take M.length) (q : Nat) (hq : q < M.length) (hqL : q < L.length) : M[q] = L[q] := by
  have h1 : M[q]? = (L.take M.length)[q]? := congrArg (fun l => l[q]?) h
  rw [List.getElem?_take, if_pos hq, List.getElem?_eq_getElem hq, List.getElem?_eq_getElem hqL] at h1
  simpa using h1

set_option linter.unusedSimpArgs false in
set_option maxRecDepth 100000 in
set_option maxHeartbeats 4000000 in
theorem tableShrinks_true (a : Option Addr) (cap : Nat) (l : List Fld) (size more : Int) (w : World) (hE : Env w) (hF : Flds w a l) : Calls Tryd.prog 7 #[.slice a l.length cap, .int .i64 size, .int .i64 more] w (Fine w) := by
  have hA : Hid (Calls Tryd.prog 9 #[] w fun e w' => e = .returned (.bool true) ∧ Below w.heap.size w w') := alive_true w hE
  have hlen := hF.len
  by_cases hgo : l.length ≤ 30 ∧ (0 ≤ size ∧ size ≤ 512) ∧ size ≤ more ∧ more ≤ 512
  · obtain ⟨h3, ⟨h1, h2⟩, h4, h5⟩ := hgo
    obtain ⟨n, rfl⟩ : ∃ n : Nat, size = (n : Int) := ⟨size.toNat, by omega⟩
    obtain ⟨m, rfl⟩ : ∃ m : Nat, more = (m : Int) := ⟨more.toNat, by omega⟩
    have hn : n ≤ 512 := by omega
    have hm : m ≤ 512 := by omega
    have hnm : n ≤ m := by omega
    have HF := hid hF
    clear hF hE h1 h2 h4 h5
    go_enter Tryd.func7, Tryd.ntmps7
    go_wp2_with fail
    refine Calls.mono hA.out ?_
    rintro e w1 ⟨rfl, hB1⟩
    go_wp2_with fail
    refine Calls.mono (g_new hB1 512 (by omega)) ?_
    rintro e w2 ⟨g, v2, rfl, G2, _, _⟩
    go_wp2
    go_loopg [43] l.length (fun k iv wr => ∃ (j : Nat) (v : Value), iv = .int .i64 j ∧ k + j = l.length ∧ Hid (Good w wr g v 512 (adds 512 (l.take j))))
    case atStart => exact ⟨0, v2, rfl, rfl, by simpa [adds, Hid] using G2⟩
    case round =>
      obtain ⟨j, v, rfl, hk, G⟩ := hrel
      clear G2 hB1
      by_cases hj : j < l.length
      · obtain ⟨b, off, rfl, hb, hc⟩ := HF.out.addr (by omega)
        obtain ⟨c0, c1⟩ := hc wr j hj G.out.below
        obtain ⟨s0, s1⟩ := HF.out.size j hj
        have hsn := hid (adds_take 512 l j hj)
        have hbw : b < wr.heap.size := Nat.lt_of_lt_of_le hb G.out.below.size
        generalize l[j]'hj = f at *
        obtain ⟨fa, fb⟩ := f
        simp only at c0 c1 s0 s1
        clear hc HF
        by_cases hbig : 200 < fa.size + fb.size
        · have hBe := (G.out.quiet (keeps_alloc wr (.cells #[.string fa, .string fb] 28))).below
          clear G hsn
          have hbig' : (200 : Int) < (fa.size : Int) + (fb.size : Int) := by omega
          go_wp2
          go_ret
          exact ⟨rfl, hBe⟩
        · have hbig' : ¬ (200 : Int) < (fa.size : Int) + (fb.size : Int) := by omega
          have HK := hid hk
          clear hk
          go_wp2_with fail
          refine Calls.mono (g_add (G.out.quiet (keeps_alloc wr (.cells #[.string fa, .string fb] 28))) (fa, fb) (by simp only; omega)) ?_
          rintro e w3 ⟨rfl, v3, G3, _, _⟩
          rw [← hsn.out] at G3
          have H3 := hid G3
          clear G3 G c0 c1
          go_wp2
          have hk := HK.out
          go_roundg (gk - 1)
          case measure => omega
          case rel => exact ⟨j + 1, v3, by simp, by omega, H3⟩
      · generalize adds 512 (l.take j) = L at *
        have hll := G.out.tab.length
        have hLs := G.out.tab.fits
        clear HF hk
        go_wp2_with fail
        refine Calls.mono (g_all G.out) ?_
        rintro e w3 ⟨s3, c3, rfl, R3, G3, K3⟩
        go_wp2_with fail
        refine Calls.mono (g_resize G3 n hn) ?_
        rintro e w4 ⟨rfl, v4, G4, K4, _⟩
        have R4 := K4.row R3 (fun k hk ht => by have h1 := (R3.lt k hk).1; have h2 := G.out.tab.footlt k ht; omega)
        go_wp2_with fail
        refine Calls.mono (g_all G4) ?_
        rintro e w5 ⟨s5, c5, rfl, R5, G5, K5⟩
        have R3' := hid (K5.row R4 (fun _ _ => id))
        have R5' := hid R5
        have G5' := hid G5
        have hfar : Hid (∀ k, (Value.slice s5 (keep (n : Int) L).length c5).ownBlock = some k → ¬ tfoot g v4 k) := fun k hk ht => by
          have h1 := (R5.lt k hk).1; have h2 := G4.tab.footlt k ht; omega
        have hks := keep_fits L n
        have hkl := keep_length L (n : Int)
        have hkp := hid (keep_prefix L (n : Int))
        have hkm := hid (keep_max L (n : Int))
        have hkn := hid (keep_all (keep (n : Int) L) (m : Int) (by omega))
        have hcl := hid (fun i h => cost_mem L i h)
        clear R3 R4 R5 G G3 G4 G5 K3 K4 K5
        generalize keep (n : Int) L = M at *
        go_wp2_with fail
        have hU : Hid (∀ W, Keeps nobody w5 W → Calls Tryd.prog 15 #[.pointer (some ⟨g, 0, none⟩)] W fun e w' => e = .returned (.int .i64 (sum M : Int)) ∧ Keeps nobody w5 w') := fun W hW =>
          (g_used (G5'.out.quiet hW)).mono fun _ _ ⟨he, _, hk⟩ => ⟨he, hW.then hk⟩
        go_cut [97] (fun x wx => x = .bool false ∧ Keeps nobody w5 wx)
        case first =>
          have q1 : ¬ L.length < M.length := by omega
          have q1' : ((L.length : Int) < (M.length : Int)) = False := by simp; omega
          have q2 : ¬ n < sum M := by omega
          have q3 : ¬ (n : Int) < (sum M : Int) := by omega
          have hs5 : sum M ≤ 512 := by omega
          by_cases hM : M.length < L.length
          · rcases R3'.out.2 with ⟨_, hn0⟩ | ⟨rb, cc, cur, hs4, _, _, hnc, hcm, _⟩
            · omega
            · simp only [Value.slice.injEq] at hs4
              obtain ⟨rfl, _, rfl⟩ := hs4
              have hrb := (R3'.out.lt rb rfl).2
              obtain ⟨d0, d1⟩ := row_cells R3'.out M.length hM
              have hmx := hkm.out hM
              have hcx := hcl.out M.length hM
              generalize L[M.length] = x at *
              obtain ⟨xa, xb⟩ := x
              simp only at d0 d1
              have hC : Hid (∀ W, Keeps nobody w5 W → Calls Tryd.prog 25 #[fval (xa, xb)] W fun e w' => e = .returned (.int .i64 (cost (xa, xb) : Int)) ∧ Keeps nobody w5 w') := fun W hW =>
                (cost_ok (xa, xb) W (by unfold cost at hcx; simp only at hcx ⊢; omega)).mono fun _ _ ⟨he, hk⟩ => ⟨he, by rw [hk]; exact hW.alloc _⟩
              generalize cost (xa, xb) = c at *
              have q4 : ¬ sum M + c ≤ n := by omega
              have q5 : ¬ (sum M : Int) + (c : Int) ≤ (n : Int) := by omega
              have HD : Hid (∀ W, Keeps nobody w5 W → W.cell? ⟨rb, M.length * 2, none⟩ = some (.string xa) ∧ W.cell? ⟨rb, M.length * 2 + 1, none⟩ = some (.string xb)) := fun W hW =>
                ⟨(hW.cell (p := ⟨rb, M.length * 2, none⟩) hrb id).trans d0, (hW.cell (p := ⟨rb, M.length * 2 + 1, none⟩) hrb id).trans d1⟩
              have KR := hid (Keeps.refl nobody w5)
              unfold maxLen at hcm
              clear hkm hkp hkn hcl hmx R3' R5' G5'
              have q6 : (0 : Int) ≤ (M.length : Int) := by omega
              have q7 : (M.length : Int) < (L.length : Int) := by omega
              go_region_held3 (fun w' => w'.cell? ⟨rb, M.length * 2, none⟩ = some (.string xa) ∧ w'.cell? ⟨rb, M.length * 2 + 1, none⟩ = some (.string xb)) (first | go_keep | exact HD.out _ (by assumption)) ((first | (go_at_call 15; refine Calls.mono (hU.out _ (by first | assumption | exact (Keeps.refl _ _).drew)) ?_; rintro e wq ⟨rfl, kq⟩) | (go_at_call 25; refine Calls.mono (hC.out _ (by first | assumption | exact (Keeps.refl _ _).drew)) ?_; rintro e wq ⟨rfl, kq⟩)))
              all_goals
                go_wp2_with fail
                go_meet
                exact ⟨congrArg Value.bool (by simp; rw [wrap_fit _ (by omega) (by omega)]; omega), by assumption⟩
          · have q4 : ¬ (M.length : Int) < (L.length : Int) := by omega
            have q5 : (L.length : Int) ≤ (M.length : Int) := by omega
            clear hkm hkp hkn hcl R3' R5' G5'
            as_aux_lemma =>
              refine wp_region_any (by kernel_rfl) ?_
              simp only [World.drew_eq]
              refine wpAny_take (i := 0) (v := .slice s5 M.length c5) rfl (by kernel_rfl) (by kernel_rfl) (by kernel_rfl) (fun _ _ _ h => h) (Or.inl ⟨by kernel_rfl, ?_⟩) ?_
              · intro w0; go_simp
              simp only [Act.put, List.getElem_toArray, List.getElem_cons_succ, List.getElem_cons_zero, List.setIfInBounds_toArray, List.set_cons_zero, List.set_cons_succ]
              refine wpAny_take (i := 1) (v := .int .i64 (M.length : Int)) rfl (by kernel_rfl) (by kernel_rfl) (by kernel_rfl) (fun _ _ _ h => h) (Or.inl ⟨by kernel_rfl, ?_⟩) ?_
              · intro w0; go_simp
              simp only [Act.put, List.getElem_toArray, List.getElem_cons_succ, List.getElem_cons_zero, List.setIfInBounds_toArray, List.set_cons_zero, List.set_cons_succ]
              refine wpAny_take (i := 2) (v := .slice s3 L.length c3) rfl (by kernel_rfl) (by kernel_rfl) (by kernel_rfl) (fun _ _ _ h => h) (Or.inl ⟨by kernel_rfl, ?_⟩) ?_
              · intro w0; go_simp
              simp only [Act.put, List.getElem_toArray, List.getElem_cons_succ, List.getElem_cons_zero, List.setIfInBounds_toArray, List.set_cons_zero, List.set_cons_succ]
              refine wpAny_take (i := 3) (v := .int .i64 (L.length : Int)) rfl (by kernel_rfl) (by kernel_rfl) (by kernel_rfl) (fun _ _ _ h => h) (Or.inl ⟨by kernel_rfl, ?_⟩) ?_
              · intro w0; go_simp
              simp only [Act.put, List.getElem_toArray, List.getElem_cons_succ, List.getElem_cons_zero, List.setIfInBounds_toArray, List.set_cons_zero, List.set_cons_succ]
              refine wpAny_take (i := 4) (v := .bool false) rfl (by kernel_rfl) (by kernel_rfl) (by kernel_rfl) (fun _ _ _ h => h) (Or.inl ⟨by kernel_rfl, ?_⟩) ?_
              · intro w0; go_simp
              simp only [Act.put, List.getElem_toArray, List.getElem_cons_succ, List.getElem_cons_zero, List.setIfInBounds_toArray, List.set_cons_zero, List.set_cons_succ]
              refine wpAny_take (i := 5) (v := .bool false) rfl (by kernel_rfl) (by kernel_rfl) (by kernel_rfl) (fun _ _ _ h => h) (Or.inl ⟨by kernel_rfl, ?_⟩) ?_
              · intro w0; go_simp
              simp only [Act.put, List.getElem_toArray, List.getElem_cons_succ, List.getElem_cons_zero, List.setIfInBounds_toArray, List.set_cons_zero, List.set_cons_succ]
              refine wpAny_take (i := 6) (v := .pointer (some ⟨g, 0, none⟩)) rfl (by kernel_rfl) (by kernel_rfl) (by kernel_rfl) (fun _ _ _ h => h) (Or.inl ⟨by kernel_rfl, ?_⟩) ?_
              · intro w0; go_simp
              simp only [Act.put, List.getElem_toArray, List.getElem_cons_succ, List.getElem_cons_zero, List.setIfInBounds_toArray, List.set_cons_zero, List.set_cons_succ]
              refine wpAny_take (i := 8) (v := .int .i64 (n : Int)) rfl (by kernel_rfl) (by kernel_rfl) (by kernel_rfl) (fun _ _ _ h => h) (Or.inl ⟨by kernel_rfl, ?_⟩) ?_
              · intro w0; go_simp
              simp only [Act.put, List.getElem_toArray, List.getElem_cons_succ, List.getElem_cons_zero, List.setIfInBounds_toArray, List.set_cons_zero, List.set_cons_succ]
              refine wpAny_ready (rs := [7]) (by kernel_rfl) (by simp) ?_
              refine AllReady.cons rfl (fun K' hK => ?_) AllReady.nil
              rw [if_pos (by kernel_rfl)]
              go_simp
              go_at_call 15
              refine Calls.mono (hU.out _ (by exact (Keeps.refl _ _).drew)) ?_
              rintro e wq ⟨rfl, kq⟩
              refine hK _ _ ?_
              clear hK hU
              refine wpAny_take (i := 9) (v := .bool false) rfl (by kernel_rfl) (by kernel_rfl) (by kernel_rfl) (fun _ _ _ h => h) (Or.inl ⟨by kernel_rfl, ?_⟩) ?_
              · intro w0; go_simp
              simp only [Act.put, List.getElem_toArray, List.getElem_cons_succ, List.getElem_cons_zero, List.setIfInBounds_toArray, List.set_cons_zero, List.set_cons_succ]
              refine wpAny_take (i := 10) (v := .bool false) rfl (by kernel_rfl) (by kernel_rfl) (by kernel_rfl) (fun _ _ _ h => h) (Or.inl ⟨by kernel_rfl, ?_⟩) ?_
              · intro w0; go_simp
              simp only [Act.put, List.getElem_toArray, List.getElem_cons_succ, List.getElem_cons_zero, List.setIfInBounds_toArray, List.set_cons_zero, List.set_cons_succ]
              refine wpAny_take (i := 11) (v := .bool false) rfl (by kernel_rfl) (by kernel_rfl) (by kernel_rfl) (fun _ _ _ h => h) (Or.inl ⟨by kernel_rfl, ?_⟩) ?_
              · intro w0; go_simp
              simp only [Act.put, List.getElem_toArray, List.getElem_cons_succ, List.getElem_cons_zero, List.setIfInBounds_toArray, List.set_cons_zero, List.set_cons_succ]
              refine wpAny_take (i := 12) (v := .slice s5 M.length c5) rfl (by kernel_rfl) (by kernel_rfl) (by kernel_rfl) (fun _ _ _ h => h) (Or.inl ⟨by kernel_rfl, ?_⟩) ?_
              · intro w0; go_simp
              simp only [Act.put, List.getElem_toArray, List.getElem_cons_succ, List.getElem_cons_zero, List.setIfInBounds_toArray, List.set_cons_zero, List.set_cons_succ]
              refine wpAny_take (i := 13) (v := .int .i64 (M.length : Int)) rfl (by kernel_rfl) (by kernel_rfl) (by kernel_rfl) (fun _ _ _ h => h) (Or.inl ⟨by kernel_rfl, ?_⟩) ?_
              · intro w0; go_simp
              simp only [Act.put, List.getElem_toArray, List.getElem_cons_succ, List.getElem_cons_zero, List.setIfInBounds_toArray, List.set_cons_zero, List.set_cons_succ]
              refine wpAny_take (i := 14) (v := .slice s3 L.length c3) rfl (by kernel_rfl) (by kernel_rfl) (by kernel_rfl) (fun _ _ _ h => h) (Or.inl ⟨by kernel_rfl, ?_⟩) ?_
              · intro w0; go_simp
              simp only [Act.put, List.getElem_toArray, List.getElem_cons_succ, List.getElem_cons_zero, List.setIfInBounds_toArray, List.set_cons_zero, List.set_cons_succ]
              refine wpAny_take (i := 15) (v := .int .i64 (L.length : Int)) rfl (by kernel_rfl) (by kernel_rfl) (by kernel_rfl) (fun _ _ _ h => h) (Or.inl ⟨by kernel_rfl, ?_⟩) ?_
              · intro w0; go_simp
              simp only [Act.put, List.getElem_toArray, List.getElem_cons_succ, List.getElem_cons_zero, List.setIfInBounds_toArray, List.set_cons_zero, List.set_cons_succ]
              refine wpAny_take (i := 16) (v := .bool false) rfl (by kernel_rfl) (by kernel_rfl) (by kernel_rfl) (fun _ _ _ h => h) (Or.inl ⟨by kernel_rfl, ?_⟩) ?_
              · intro w0; go_simp
              simp only [Act.put, List.getElem_toArray, List.getElem_cons_succ, List.getElem_cons_zero, List.setIfInBounds_toArray, List.set_cons_zero, List.set_cons_succ]
              refine wpAny_take (i := 17) (v := .bool false) rfl (by kernel_rfl) (by kernel_rfl) (by kernel_rfl) (fun _ _ _ h => h) (Or.inl ⟨by kernel_rfl, ?_⟩) ?_
              · intro w0; go_simp
              simp only [Act.put, List.getElem_toArray, List.getElem_cons_succ, List.getElem_cons_zero, List.setIfInBounds_toArray, List.set_cons_zero, List.set_cons_succ]
              refine wpAny_take (i := 18) (v := undef) rfl (by kernel_rfl) (by kernel_rfl) (by kernel_rfl) (fun _ _ _ h => h) (Or.inr ⟨by kernel_rfl, rfl⟩) ?_
              simp only [Act.put, List.getElem_toArray, List.getElem_cons_succ, List.getElem_cons_zero, List.setIfInBounds_toArray, List.set_cons_zero, List.set_cons_succ]
              refine wpAny_take (i := 19) (v := undef) rfl (by kernel_rfl) (by kernel_rfl) (by kernel_rfl) (fun _ _ _ h => h) (Or.inr ⟨by kernel_rfl, rfl⟩) ?_
              simp only [Act.put, List.getElem_toArray, List.getElem_cons_succ, List.getElem_cons_zero, List.setIfInBounds_toArray, List.set_cons_zero, List.set_cons_succ]
              refine wpAny_take (i := 20) (v := undef) rfl (by kernel_rfl) (by kernel_rfl) (by kernel_rfl) (fun _ _ _ h => h) (Or.inr ⟨by kernel_rfl, rfl⟩) ?_
              simp only [Act.put, List.getElem_toArray, List.getElem_cons_succ, List.getElem_cons_zero, List.setIfInBounds_toArray, List.set_cons_zero, List.set_cons_succ]
              refine wpAny_take (i := 21) (v := undef) rfl (by kernel_rfl) (by kernel_rfl) (by kernel_rfl) (fun _ _ _ h => h) (Or.inr ⟨by kernel_rfl, rfl⟩) ?_
              simp only [Act.put, List.getElem_toArray, List.getElem_cons_succ, List.getElem_cons_zero, List.setIfInBounds_toArray, List.set_cons_zero, List.set_cons_succ]
              refine wpAny_take (i := 22) (v := undef) rfl (by kernel_rfl) (by kernel_rfl) (by kernel_rfl) (fun _ _ _ h => h) (Or.inr ⟨by kernel_rfl, rfl⟩) ?_
              simp only [Act.put, List.getElem_toArray, List.getElem_cons_succ, List.getElem_cons_zero, List.setIfInBounds_toArray, List.set_cons_zero, List.set_cons_succ]
              refine wpAny_take (i := 23) (v := undef) rfl (by kernel_rfl) (by kernel_rfl) (by kernel_rfl) (fun _ _ _ h => h) (Or.inr ⟨by kernel_rfl, rfl⟩) ?_
              simp only [Act.put, List.getElem_toArray, List.getElem_cons_succ, List.getElem_cons_zero, List.setIfInBounds_toArray, List.set_cons_zero, List.set_cons_succ]
              refine wpAny_take (i := 24) (v := undef) rfl (by kernel_rfl) (by kernel_rfl) (by kernel_rfl) (fun _ _ _ h => h) (Or.inr ⟨by kernel_rfl, rfl⟩) ?_
              simp only [Act.put, List.getElem_toArray, List.getElem_cons_succ, List.getElem_cons_zero, List.setIfInBounds_toArray, List.set_cons_zero, List.set_cons_succ]
              refine wpAny_take (i := 25) (v := undef) rfl (by kernel_rfl) (by kernel_rfl) (by kernel_rfl) (fun _ _ _ h => h) (Or.inr ⟨by kernel_rfl, rfl⟩) ?_
              simp only [Act.put, List.getElem_toArray, List.getElem_cons_succ, List.getElem_cons_zero, List.setIfInBounds_toArray, List.set_cons_zero, List.set_cons_succ]
              refine wpAny_take (i := 26) (v := undef) rfl (by kernel_rfl) (by kernel_rfl) (by kernel_rfl) (fun _ _ _ h => h) (Or.inr ⟨by kernel_rfl, rfl⟩) ?_
              simp only [Act.put, List.getElem_toArray, List.getElem_cons_succ, List.getElem_cons_zero, List.setIfInBounds_toArray, List.set_cons_zero, List.set_cons_succ]
              refine wpAny_take (i := 27) (v := undef) rfl (by kernel_rfl) (by kernel_rfl) (by kernel_rfl) (fun _ _ _ h => h) (Or.inr ⟨by kernel_rfl, rfl⟩) ?_
              simp only [Act.put, List.getElem_toArray, List.getElem_cons_succ, List.getElem_cons_zero, List.setIfInBounds_toArray, List.set_cons_zero, List.set_cons_succ]
              refine wpAny_take (i := 28) (v := undef) rfl (by kernel_rfl) (by kernel_rfl) (by kernel_rfl) (fun _ _ _ h => h) (Or.inr ⟨by kernel_rfl, rfl⟩) ?_
              simp only [Act.put, List.getElem_toArray, List.getElem_cons_succ, List.getElem_cons_zero, List.setIfInBounds_toArray, List.set_cons_zero, List.set_cons_succ]
              refine wpAny_take (i := 29) (v := .bool false) rfl (by kernel_rfl) (by kernel_rfl) (by kernel_rfl) (fun _ _ _ h => h) (Or.inl ⟨by kernel_rfl, ?_⟩) ?_
              · intro w0; go_simp
              simp only [Act.put, List.getElem_toArray, List.getElem_cons_succ, List.getElem_cons_zero, List.setIfInBounds_toArray, List.set_cons_zero, List.set_cons_succ]
              refine wpAny_take (i := 30) (v := .bool false) rfl (by kernel_rfl) (by kernel_rfl) (by kernel_rfl) (fun _ _ _ h => h) (Or.inl ⟨by kernel_rfl, ?_⟩) ?_
              · intro w0; go_simp
              simp only [Act.put, List.getElem_toArray, List.getElem_cons_succ, List.getElem_cons_zero, List.setIfInBounds_toArray, List.set_cons_zero, List.set_cons_succ]
              refine wpAny_done (by kernel_rfl) ?_ _
              go_wp2_with fail
              go_meet
              exact ⟨rfl, kq⟩
        case rest =>
          obtain ⟨rfl, hKc⟩ := hcut
          clear hU
          have GC := hid (G5'.out.quiet hKc)
          have RW := hid (hKc.row R3'.out (fun _ _ => id))
          have RN := hid (hKc.row R5'.out (fun _ _ => id))
          clear R3' R5' G5' hkm hcl hKc
          go_wp2
          go_loopg [100] M.length (fun kk iv wx => ∃ q : Nat, iv = .int .i64 q ∧ kk + q = M.length ∧ Keeps nobody wc wx)
          case atStart => exact ⟨0, rfl, rfl, Keeps.refl _ _⟩
          case round =>
            obtain ⟨q, rfl, hkq, hKq⟩ := hrel
            by_cases hq : q < M.length
            · have hqL : q < L.length := by omega
              have hMq := prefix_at hkp.out q hq hqL
              rcases RW.out.2 with ⟨_, hn0⟩ | ⟨rb, cc, cur, hs4, _, _, hnc, hcm, _⟩
              · omega
              rcases RN.out.2 with ⟨_, hn0⟩ | ⟨rb2, cc2, cur2, hs5, _, _, hnc2, hcm2, _⟩
              · omega
              simp only [Value.slice.injEq] at hs4 hs5
              obtain ⟨rfl, _, rfl⟩ := hs4
              obtain ⟨rfl, _, rfl⟩ := hs5
              have hrb := (RW.out.lt rb rfl).2
              have hrb2 := (RN.out.lt rb2 rfl).2
              obtain ⟨d0, d1⟩ := row_cells RW.out q hqL
              obtain ⟨e0, e1⟩ := row_cells RN.out q hq
              rw [← hKq.cell (p := ⟨rb, q * 2, none⟩) hrb id] at d0
              rw [← hKq.cell (p := ⟨rb, q * 2 + 1, none⟩) hrb id] at d1
              rw [← hKq.cell (p := ⟨rb2, q * 2, none⟩) hrb2 id] at e0
              rw [← hKq.cell (p := ⟨rb2, q * 2 + 1, none⟩) hrb2 id] at e1
              rw [hMq] at e0 e1
              generalize L[q] = x at *
              obtain ⟨xa, xb⟩ := x
              simp only at d0 d1 e0 e1
              have z1 : (xa.toList == xa.toList) = true := beq_list_of_eq rfl
              have z2 : (xb.toList == xb.toList) = true := beq_list_of_eq rfl
              have HKq := hid hkq
              unfold maxLen at hcm hcm2
              clear hkq hMq hkp hkn GC RW RN
              as_aux_lemma =>
                go_wp2
                go_region
                go_wp2
                have hkq := HKq.out
                go_roundg (gk - 1)
                case measure => omega
                case rel => exact ⟨q + 1, by simp, by omega, hKq.drew⟩
            · have GX := GC.out.quiet hKq
              have RX := hid (hKq.row RN.out (fun _ _ => id))
              clear RN RW GC hkp hkq
              go_wp2_with fail
              refine Calls.mono (g_resize GX m hm) ?_
              rintro e w7 ⟨rfl, v7, G7, K7, _⟩
              rw [hkn.out] at G7
              have R7 := K7.row RX.out (fun k hk ht => by have h1 := hfar.out k hk; exact h1 ht)
              have hl7 := G7.tab.length
              go_wp2_with fail
              refine Calls.mono (g_all G7) ?_
              rintro e w8 ⟨s8, c8, rfl, R8, G8, K8⟩
              go_wp2_with fail
              refine Calls.mono (same_ok R8 (K8.row R7 (fun _ _ => id)) (by omega)) ?_
              rintro e w9 ⟨rfl, K9⟩
              have G9 := G8.quiet K9
              go_wp2_with fail
              refine Calls.mono (g_size G9) ?_
              rintro e w10 ⟨rfl, rfl⟩
              have hBe := G9.below
              clear G7 G8 G9 K7 K8 K9 R7 R8 RX GX hkn hfar
              go_wp2
              go_ret
              exact ⟨rfl, hBe⟩
  · have hbad : (30 : Int) < l.length ∨ (l.length : Int) ≤ 30 ∧ size < 0 ∨ (l.length : Int) ≤ 30 ∧ 0 ≤ size ∧ 512 < size ∨ (l.length : Int) ≤ 30 ∧ (0 ≤ size ∧ size ≤ 512) ∧ more < size ∨ (l.length : Int) ≤ 30 ∧ (0 ≤ size ∧ size ≤ 512) ∧ size ≤ more ∧ 512 < more := by omega
    clear hgo hF hE
    rcases hbad with h1 | ⟨h1, h2⟩ | ⟨h1, h2, h3⟩ | ⟨h1, ⟨h2, h3⟩, h4⟩ | ⟨h1, ⟨h2, h3⟩, h4, h5⟩
    all_goals
      go_enter Tryd.func7, Tryd.ntmps7
      go_wp2_with fail
      refine Calls.mono hA.out ?_
      rintro e w1 ⟨rfl, hB1⟩
      go_wp2
      go_ret
      exact ⟨rfl, hB1⟩
end Go.Proofs.YtlfkomdkimphnaaDoor
