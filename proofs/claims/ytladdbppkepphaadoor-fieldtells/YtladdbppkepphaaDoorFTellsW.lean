/-
  FieldTells: the walk.
-/
import Derived.Test.YtladdbppkepphaaDoorFRefD
import Derived.Test.YtladdbppkepphaaDoorGLent
namespace Go.Proofs.YtladdbppkepphaaDoor
open Go.RowKit

set_option maxRecDepth 100000 in
set_option maxHeartbeats 4000000 in
theorem tells_main (a : Option Addr) (c : Nat) (l : List Fld) (name value : ByteArray) (W : World) (hn : name.size ≤ 300) (hv : value.size ≤ 400) (gv : ByteArray) (gz zn zv : Bool) (ln : Int) (le eq ep et : Nat)
    (HA : Hid (∀ W, Calls Tryd.prog 10 #[] W fun e w' => e = .returned (.bool true) ∧ Keeps nobody W w'))
    (HF : Hid (Calls Tryd.prog 9 #[.slice a l.length c] W fun e w' => e = .returned (.bool true) ∧ Keeps nobody W w'))
    (HL : Hid (∀ w, Keeps nobody W w → Calls Tryd.prog 11 #[.slice a l.length c] w fun e w' => ∃ rb c, e = .returned (.slice (some ⟨rb, 0, none⟩) l.length c) ∧ Hid (Lent w.heap.size w' rb c l ∧ Keeps nobody w w')))
    (HX : Hid (∀ (w2 : World) (B rb c1 : Nat), Lent B w2 rb c1 l → Keeps nobody W w2 → (∀ W, Keeps nobody w2 W → Calls Tryd.prog 12 #[.string name, .slice (some ⟨rb, 0, none⟩) l.length c1] W fun e w' => e = .returned (.tuple #[.string gv, .bool gz]) ∧ Keeps nobody W w') ∧ (∀ W, Keeps nobody w2 W → Calls Tryd.prog 13 #[.string name, .slice a l.length c] W fun e w' => e = .returned (.tuple #[.string gv, .bool gz]) ∧ Keeps nobody W w') ∧ (∀ W, Keeps nobody w2 W → Calls Tryd.prog 14 #[.slice (some ⟨rb, 0, none⟩) l.length c1] W fun e w' => e = .returned (.tuple #[.int .i64 ln, .int .i64 (le : Int)]) ∧ Keeps nobody W w') ∧ (∀ W, Keeps nobody w2 W → Calls Tryd.prog 15 #[.slice a l.length c] W fun e w' => e = .returned (.tuple #[.int .i64 ln, .int .i64 (le : Int)]) ∧ Keeps nobody W w') ∧ (∀ W, Calls Tryd.prog 16 #[.string name] W fun e w' => e = .returned (.bool zn) ∧ W = w') ∧ (∀ W, Calls Tryd.prog 17 #[.string name] W fun e w' => e = .returned (.bool zn) ∧ W = w') ∧ (∀ W, Calls Tryd.prog 18 #[.string value] W fun e w' => e = .returned (.bool zv) ∧ W = w') ∧ (∀ W, Calls Tryd.prog 19 #[.string value] W fun e w' => e = .returned (.bool zv) ∧ W = w') ∧ (∀ W, Keeps nobody w2 W → Calls Tryd.prog 20 #[.slice (some ⟨rb, 0, none⟩) l.length c1] W fun e w' => e = .returned (.int .i64 (eq : Int)) ∧ Keeps nobody W w') ∧ (∀ W, Keeps nobody w2 W → Calls Tryd.prog 21 #[.slice a l.length c] W fun e w' => e = .returned (.int .i64 (eq : Int)) ∧ Keeps nobody W w') ∧ (∀ W, Keeps nobody w2 W → Calls Tryd.prog 22 #[.slice (some ⟨rb, 0, none⟩) l.length c1] W fun e w' => e = .returned (.int .i64 (ep : Int)) ∧ Keeps nobody W w') ∧ (∀ W, Keeps nobody w2 W → Calls Tryd.prog 23 #[.slice a l.length c] W fun e w' => e = .returned (.int .i64 (ep : Int)) ∧ Keeps nobody W w') ∧ (∀ W, Keeps nobody w2 W → Calls Tryd.prog 24 #[.slice (some ⟨rb, 0, none⟩) l.length c1] W fun e w' => e = .returned (.int .i64 (et : Int)) ∧ Keeps nobody W w') ∧ (∀ W, Keeps nobody w2 W → Calls Tryd.prog 25 #[.slice a l.length c] W fun e w' => e = .returned (.int .i64 (et : Int)) ∧ Keeps nobody W w') ∧ (∀ W, Keeps nobody w2 W → Calls Tryd.prog 26 #[.slice (some ⟨rb, 0, none⟩) l.length c1, .slice a l.length c] W fun e w' => e = .returned (.bool true) ∧ Keeps nobody W w'))) :
    Calls Tryd.prog 3 #[.slice a l.length c, .string name, .string value] W fun e w' => e = .returned (.bool true) ∧ Below W.heap.size W w' := by
  go_enter Tryd.func3, Tryd.ntmps3
  go_wp2_with fail
  refine Calls.mono HF.out ?_
  rintro e w0 ⟨rfl, k0⟩
  go_wp2_with fail
  refine Calls.mono (HA.out _) ?_
  rintro e w1 ⟨rfl, k1⟩
  go_wp2_with fail
  refine Calls.mono (HL.out _ (k0.then k1)) ?_
  rintro e w2 ⟨rb, c1, rfl, HR⟩
  have kW2 := (k0.then k1).then HR.out.2
  obtain ⟨G1, G2, L1, L2, N1, N2, V1, V2, Q1, Q2, P1, P2, T1, T2, S1⟩ := HX.out w2 _ rb c1 HR.out.1 kW2
  have G1 := hid G1
  have G2 := hid G2
  have L1 := hid L1
  have L2 := hid L2
  have N1 := hid N1
  have N2 := hid N2
  have V1 := hid V1
  have V2 := hid V2
  have Q1 := hid Q1
  have Q2 := hid Q2
  have P1 := hid P1
  have P2 := hid P2
  have T1 := hid T1
  have T2 := hid T2
  have S1 := hid S1
  have zg : (gv.toList == gv.toList) = true := beq_list_of_eq rfl
  clear HX HL HA HF k0 k1 HR
  go_wp2_with fail
  refine Calls.mono (G1.out _ (Keeps.refl _ _)) ?_
  rintro e v0 ⟨rfl, q0⟩
  have t0 := q0
  go_wp2_with fail
  refine Calls.mono (G2.out _ t0) ?_
  rintro e v1 ⟨rfl, q1⟩
  have t1 := Keeps.then t0 q1
  go_wp2_with fail
  refine Calls.mono (L1.out _ t1) ?_
  rintro e v2 ⟨rfl, q2⟩
  have t2 := Keeps.then t1 q2
  go_wp2_with fail
  refine Calls.mono (L2.out _ t2) ?_
  rintro e v3 ⟨rfl, q3⟩
  have t3 := Keeps.then t2 q3
  go_wp2_with fail
  refine Calls.mono (N1.out _) ?_
  rintro e x4 ⟨rfl, rfl⟩
  go_wp2_with fail
  refine Calls.mono (N2.out _) ?_
  rintro e x4 ⟨rfl, rfl⟩
  go_wp2_with fail
  refine Calls.mono (V1.out _) ?_
  rintro e x4 ⟨rfl, rfl⟩
  go_wp2_with fail
  refine Calls.mono (V2.out _) ?_
  rintro e x4 ⟨rfl, rfl⟩
  go_wp2_with fail
  refine Calls.mono (Q1.out _ t3) ?_
  rintro e v4 ⟨rfl, q4⟩
  have t4 := Keeps.then t3 q4
  go_wp2_with fail
  refine Calls.mono (Q2.out _ t4) ?_
  rintro e v5 ⟨rfl, q5⟩
  have t5 := Keeps.then t4 q5
  go_wp2_with fail
  refine Calls.mono (P1.out _ t5) ?_
  rintro e v6 ⟨rfl, q6⟩
  have t6 := Keeps.then t5 q6
  go_wp2_with fail
  refine Calls.mono (P2.out _ t6) ?_
  rintro e v7 ⟨rfl, q7⟩
  have t7 := Keeps.then t6 q7
  go_wp2_with fail
  refine Calls.mono (T1.out _ t7) ?_
  rintro e v8 ⟨rfl, q8⟩
  have t8 := Keeps.then t7 q8
  go_wp2_with fail
  refine Calls.mono (T2.out _ t8) ?_
  rintro e v9 ⟨rfl, q9⟩
  have t9 := Keeps.then t8 q9
  go_wp2_with fail
  refine Calls.mono (S1.out _ t9) ?_
  rintro e v10 ⟨rfl, q10⟩
  have t10 := Keeps.then t9 q10
  go_wp2
  go_ret
  exact ⟨rfl, below_of_keeps (kW2.then t10)⟩

theorem shorts_of (l : List Fld) (h : bytesL l ≤ 4000) : Shorts l := by
  have : ∀ l : List Fld, ∀ f ∈ l, f.1.size + f.2.size ≤ bytesL l := by
    intro l
    induction l with
    | nil => intro f hf; cases hf
    | cons g l ih =>
      intro f hf
      simp only [bytesL]
      rcases List.mem_cons.1 hf with rfl | hf
      · omega
      · have := ih f hf; omega
  intro f hf
  have := this l f hf
  omega
set_option maxRecDepth 100000 in
set_option maxHeartbeats 1000000 in
theorem tells_walk (a : Option Addr) (c : Nat) (l : List Fld) (name value : ByteArray) (W : World) (_ : Env W) (hf : FldsC W a c l) (hn : name.size ≤ 140737488355328) (hv : value.size ≤ 140737488355328) :
    Calls Tryd.prog 3 #[.slice a l.length c, .string name, .string value] W fun e w' => e = .returned (.bool true) ∧ Below W.heap.size W w' := by
  have HA : Hid (∀ W, Calls Tryd.prog 10 #[] W fun e w' => e = .returned (.bool true) ∧ Keeps nobody W w') := alive_ok
  have HF : Hid (Calls Tryd.prog 9 #[.slice a l.length c] W fun e w' => e = .returned (.bool (fewB l)) ∧ Keeps nobody W w') := few_ok c hf.1.lies hf.1.2.1 hf.1.2.2
  cases hb : fewB l
  · rw [hb] at HF
    clear hf hb
    go_enter Tryd.func3, Tryd.ntmps3
    go_wp2_with fail
    refine Calls.mono HF.out ?_
    rintro e w1 ⟨rfl, k1⟩
    go_wp2_with fail
    refine Calls.mono (HA.out _) ?_
    rintro e w2 ⟨rfl, k2⟩
    go_wp2
    go_ret
    exact ⟨rfl, below_of_keeps (k1.then k2)⟩
  · rw [hb] at HF
    by_cases hn3 : name.size ≤ 300
    · by_cases hv4 : value.size ≤ 400
      · obtain ⟨h40, h4000⟩ := fewB_len hb
        have hs : Shorts l := shorts_of l h4000
        have hz := hf.1.2.2
        refine tells_main a c l name value W hn3 hv4 (valL name l) (getL name l).isSome (nameB name) (valueB value) (lengthE l).1 (lengthE l).2 (requestE l) (responseE l) (trailersE l) HA HF (fun w hw => lent_ok c (hf.1.lies.quiet hw) (by omega)) ?_
        intro w2 B rb c1 hL hW
        have L1 := hL.lies (S := nobody) id
        have L2 := hf.1.lies.quiet hW
        obtain ⟨_, _, hc1, hcm⟩ := hL.room
        refine ⟨fun W hw => get_ok name c1 (L1.quiet hw) (by omega), fun W hw => rfield_ok name c (L2.quiet hw) (by omega), fun W hw => length_ok c1 (L1.quiet hw) (by omega) hz, fun W hw => rlength_ok c (L2.quiet hw) (by omega) hs,
          fun W => name_ok name W hn, fun W => rname_ok name W (by omega), fun W => value_ok value W hv, fun W => rvalue_ok value W (by omega),
          fun W hw => request_ok c1 (L1.quiet hw) (by omega) hz (by omega) hcm, fun W hw => rrequest_ok c (L2.quiet hw) (by omega) hs,
          fun W hw => response_ok c1 (L1.quiet hw) (by omega) hz (by omega) hcm, fun W hw => rresponse_ok c (L2.quiet hw) (by omega) hs,
          fun W hw => trailers_ok c1 (L1.quiet hw) (by omega) hz (by omega) hcm, fun W hw => rtrailers_ok c (L2.quiet hw) (by omega) hs,
          fun W hw => stays_ok c (hL.keeps hw id) (L2.quiet hw) (by omega)⟩
      · clear hf hb
        go_enter Tryd.func3, Tryd.ntmps3
        go_wp2_with fail
        refine Calls.mono HF.out ?_
        rintro e w1 ⟨rfl, k1⟩
        go_wp2_with fail
        refine Calls.mono (HA.out _) ?_
        rintro e w2 ⟨rfl, k2⟩
        go_wp2
        go_ret
        exact ⟨rfl, below_of_keeps (k1.then k2)⟩
    · clear hf hb
      go_enter Tryd.func3, Tryd.ntmps3
      go_wp2_with fail
      refine Calls.mono HF.out ?_
      rintro e w1 ⟨rfl, k1⟩
      go_wp2_with fail
      refine Calls.mono (HA.out _) ?_
      rintro e w2 ⟨rfl, k2⟩
      go_wp2
      go_ret
      exact ⟨rfl, below_of_keeps (k1.then k2)⟩
end Go.Proofs.YtladdbppkepphaaDoor
