/-
  fmt.Errorf at one error: "at %w" and "no %v".
-/
import Derived.Test.YthgcbgdafoiacaaFmtEFmt
namespace Go.Proofs.YthgcbgdafoiacaaFmt
open Go.RowKit Go.Extern.Stop Go.Stop Go.Extern

set_option maxRecDepth 100000 in
set_option maxHeartbeats 2000000 in
theorem errorf_at_fl (F : Interp) (b g : Nat) (s : ByteArray) (w : World) (hF : F.answers w.tape) (hg : w.cell? ⟨g, 0, none⟩ = some (flV b))
    (HC : Hid (∀ w1, Keeps nobody w w1 → Calls Tryf.prog 50 #[.pointer (some ⟨b, 0, none⟩)] w1 fun e w' => e = .returned (.string s) ∧ Keeps nobody w1 w')) :
    Calls Tryf.prog 9 #[.string ⟨#[97, 116, 32, 37, 119]⟩, .slice (some ⟨g, 0, none⟩) 1 1] w fun e w' => ∃ b', e = .returned (wrV b') ∧ w'.heap[b']? = some (wrObj (FmtStop.textOf (F "fmt.errorf" [[97, 116, 32, 37, 119], 19 :: 0 :: FmtStop.pack "*fail.Failure".toByteArray.data.toList, s.data.toList] 0)) (flV b)) ∧ Keeps nobody w w' := by
  have hF' := answers_open hF
  have x0 := xcall
  have x1 := xguard
  have x2 := xp_at
  have x3 := xpr_at
  have x4 := fl_act119
  have x5 := fl_isError
  have x6 := fl_str
  have x7 := wr_ptr
  have x8 := wr_elem
  go_enter Tryf.func9, Tryf.ntmps9
  go_wp2
  all_goals
    apply rows_call xturns
    case hr =>
      go_simp
      exact ⟨⟨rfl, rfl, rfl⟩, rfl⟩
    case hi => exact fl_invoke _ _
    case hc =>
      refine (HC.out _ (by first | exact Keeps.refl _ _ | exact (Keeps.refl _ _).drew)).mono fun e w₃ ⟨he, hx⟩ => ?_
      subst he
      have hF3 : F.answers w₃.tape := by rw [hx.tape]; exact hF
      have hF3' := answers_open hF3
      have hg3 := (hx.cell (p := ⟨g, 0, none⟩) (lt_of_cell hg) id).trans hg
      apply rows_value xreturned
      case hr =>
        go_simp
        exact ⟨rfl, rfl⟩
      case h =>
        go_wp2
        go_ret
        exact ⟨_, rfl, heap_alloc_new w₃ _, (hx.alloc _).drew⟩

set_option maxRecDepth 100000 in
set_option maxHeartbeats 2000000 in
theorem errorf_no_fl (F : Interp) (b g : Nat) (s : ByteArray) (w : World) (hF : F.answers w.tape) (hg : w.cell? ⟨g, 0, none⟩ = some (flV b))
    (HC : Hid (∀ w1, Keeps nobody w w1 → Calls Tryf.prog 50 #[.pointer (some ⟨b, 0, none⟩)] w1 fun e w' => e = .returned (.string s) ∧ Keeps nobody w1 w')) :
    Calls Tryf.prog 9 #[.string ⟨#[110, 111, 32, 37, 118]⟩, .slice (some ⟨g, 0, none⟩) 1 1] w fun e w' => ∃ b', e = .returned (plV b') ∧ w'.heap[b']? = some (plObj (FmtStop.textOf (F "fmt.errorf" [[110, 111, 32, 37, 118], 19 :: 0 :: FmtStop.pack "*fail.Failure".toByteArray.data.toList, s.data.toList] 0))) ∧ Keeps nobody w w' := by
  have hF' := answers_open hF
  have x0 := xcall
  have x1 := xguard
  have x2 := xp_no
  have x3 := xpr_no
  have x4 := fl_act118
  have x5 := fl_isError
  have x6 := fl_str
  have x7 := pl_ptr
  have x8 := pl_elem
  go_enter Tryf.func9, Tryf.ntmps9
  go_wp2
  all_goals
    apply rows_call xturns
    case hr =>
      go_simp
      exact ⟨⟨rfl, rfl, rfl⟩, rfl⟩
    case hi => exact fl_invoke _ _
    case hc =>
      refine (HC.out _ (by first | exact Keeps.refl _ _ | exact (Keeps.refl _ _).drew)).mono fun e w₃ ⟨he, hx⟩ => ?_
      subst he
      have hF3 : F.answers w₃.tape := by rw [hx.tape]; exact hF
      have hF3' := answers_open hF3
      have hg3 := (hx.cell (p := ⟨g, 0, none⟩) (lt_of_cell hg) id).trans hg
      apply rows_value xreturned
      case hr =>
        go_simp
        exact ⟨rfl, rfl⟩
      case h =>
        go_wp2
        go_ret
        exact ⟨_, rfl, heap_alloc_new w₃ _, (hx.alloc _).drew⟩

set_option maxRecDepth 100000 in
set_option maxHeartbeats 2000000 in
theorem errorf_at_jn (F : Interp) (b g : Nat) (s : ByteArray) (w : World) (hF : F.answers w.tape) (hg : w.cell? ⟨g, 0, none⟩ = some (jnV b))
    (HC : Hid (∀ w1, Keeps nobody w w1 → Calls Tryf.prog 61 #[.pointer (some ⟨b, 0, none⟩)] w1 fun e w' => e = .returned (.string s) ∧ Keeps nobody w1 w')) :
    Calls Tryf.prog 9 #[.string ⟨#[97, 116, 32, 37, 119]⟩, .slice (some ⟨g, 0, none⟩) 1 1] w fun e w' => ∃ b', e = .returned (wrV b') ∧ w'.heap[b']? = some (wrObj (FmtStop.textOf (F "fmt.errorf" [[97, 116, 32, 37, 119], 19 :: 0 :: FmtStop.pack "*errors.joinError".toByteArray.data.toList, s.data.toList] 0)) (jnV b)) ∧ Keeps nobody w w' := by
  have hF' := answers_open hF
  have x0 := xcall
  have x1 := xguard
  have x2 := xp_at
  have x3 := xpr_at
  have x4 := jn_act119
  have x5 := jn_isError
  have x6 := jn_str
  have x7 := wr_ptr
  have x8 := wr_elem
  go_enter Tryf.func9, Tryf.ntmps9
  go_wp2
  all_goals
    apply rows_call xturns
    case hr =>
      go_simp
      exact ⟨⟨rfl, rfl, rfl⟩, rfl⟩
    case hi => exact jn_invoke _ _
    case hc =>
      refine (HC.out _ (by first | exact Keeps.refl _ _ | exact (Keeps.refl _ _).drew)).mono fun e w₃ ⟨he, hx⟩ => ?_
      subst he
      have hF3 : F.answers w₃.tape := by rw [hx.tape]; exact hF
      have hF3' := answers_open hF3
      have hg3 := (hx.cell (p := ⟨g, 0, none⟩) (lt_of_cell hg) id).trans hg
      apply rows_value xreturned
      case hr =>
        go_simp
        exact ⟨rfl, rfl⟩
      case h =>
        go_wp2
        go_ret
        exact ⟨_, rfl, heap_alloc_new w₃ _, (hx.alloc _).drew⟩

set_option maxRecDepth 100000 in
set_option maxHeartbeats 2000000 in
theorem errorf_no_jn (F : Interp) (b g : Nat) (s : ByteArray) (w : World) (hF : F.answers w.tape) (hg : w.cell? ⟨g, 0, none⟩ = some (jnV b))
    (HC : Hid (∀ w1, Keeps nobody w w1 → Calls Tryf.prog 61 #[.pointer (some ⟨b, 0, none⟩)] w1 fun e w' => e = .returned (.string s) ∧ Keeps nobody w1 w')) :
    Calls Tryf.prog 9 #[.string ⟨#[110, 111, 32, 37, 118]⟩, .slice (some ⟨g, 0, none⟩) 1 1] w fun e w' => ∃ b', e = .returned (plV b') ∧ w'.heap[b']? = some (plObj (FmtStop.textOf (F "fmt.errorf" [[110, 111, 32, 37, 118], 19 :: 0 :: FmtStop.pack "*errors.joinError".toByteArray.data.toList, s.data.toList] 0))) ∧ Keeps nobody w w' := by
  have hF' := answers_open hF
  have x0 := xcall
  have x1 := xguard
  have x2 := xp_no
  have x3 := xpr_no
  have x4 := jn_act118
  have x5 := jn_isError
  have x6 := jn_str
  have x7 := pl_ptr
  have x8 := pl_elem
  go_enter Tryf.func9, Tryf.ntmps9
  go_wp2
  all_goals
    apply rows_call xturns
    case hr =>
      go_simp
      exact ⟨⟨rfl, rfl, rfl⟩, rfl⟩
    case hi => exact jn_invoke _ _
    case hc =>
      refine (HC.out _ (by first | exact Keeps.refl _ _ | exact (Keeps.refl _ _).drew)).mono fun e w₃ ⟨he, hx⟩ => ?_
      subst he
      have hF3 : F.answers w₃.tape := by rw [hx.tape]; exact hF
      have hF3' := answers_open hF3
      have hg3 := (hx.cell (p := ⟨g, 0, none⟩) (lt_of_cell hg) id).trans hg
      apply rows_value xreturned
      case hr =>
        go_simp
        exact ⟨rfl, rfl⟩
      case h =>
        go_wp2
        go_ret
        exact ⟨_, rfl, heap_alloc_new w₃ _, (hx.alloc _).drew⟩

set_option maxRecDepth 100000 in
set_option maxHeartbeats 2000000 in
theorem errorf_at_wr (F : Interp) (b g : Nat) (s : ByteArray) (w : World) (hF : F.answers w.tape) (hg : w.cell? ⟨g, 0, none⟩ = some (wrV b)) (hb : w.cell? ⟨b, 0, none⟩ = some (.string s)) :
    Calls Tryf.prog 9 #[.string ⟨#[97, 116, 32, 37, 119]⟩, .slice (some ⟨g, 0, none⟩) 1 1] w fun e w' => ∃ b', e = .returned (wrV b') ∧ w'.heap[b']? = some (wrObj (FmtStop.textOf (F "fmt.errorf" [[97, 116, 32, 37, 119], wr_plain, s.data.toList] 0)) (wrV b)) ∧ Keeps nobody w w' := by
  have hF' := answers_open hF
  have x0 := xcall
  have x1 := xguard
  have x2 := xp_at
  have x3 := xpr_at
  have x4 := wr_act119
  have x5 := wr_isError
  have x6 := wr_str
  have x7 := wr_ptr
  have x8 := wr_elem
  have hop := wr_op119 "fmt.errorf" ⟨b, 0, none⟩ s w hb
  go_enter Tryf.func9, Tryf.ntmps9
  go_wp2
  apply rows_value xturns
  case hr =>
    go_simp
    exact ⟨rfl, rfl⟩
  case h =>
    go_wp2
    go_ret
    exact ⟨_, rfl, heap_alloc_new w _, ((Keeps.refl _ _).alloc _).drew⟩

set_option maxRecDepth 100000 in
set_option maxHeartbeats 2000000 in
theorem errorf_no_wr (F : Interp) (b g : Nat) (s : ByteArray) (w : World) (hF : F.answers w.tape) (hg : w.cell? ⟨g, 0, none⟩ = some (wrV b)) (hb : w.cell? ⟨b, 0, none⟩ = some (.string s)) :
    Calls Tryf.prog 9 #[.string ⟨#[110, 111, 32, 37, 118]⟩, .slice (some ⟨g, 0, none⟩) 1 1] w fun e w' => ∃ b', e = .returned (plV b') ∧ w'.heap[b']? = some (plObj (FmtStop.textOf (F "fmt.errorf" [[110, 111, 32, 37, 118], wr_plain, s.data.toList] 0))) ∧ Keeps nobody w w' := by
  have hF' := answers_open hF
  have x0 := xcall
  have x1 := xguard
  have x2 := xp_no
  have x3 := xpr_no
  have x4 := wr_act118
  have x5 := wr_isError
  have x6 := wr_str
  have x7 := pl_ptr
  have x8 := pl_elem
  have hop := wr_op118 "fmt.errorf" ⟨b, 0, none⟩ s w hb
  go_enter Tryf.func9, Tryf.ntmps9
  go_wp2
  apply rows_value xturns
  case hr =>
    go_simp
    exact ⟨rfl, rfl⟩
  case h =>
    go_wp2
    go_ret
    exact ⟨_, rfl, heap_alloc_new w _, ((Keeps.refl _ _).alloc _).drew⟩

set_option maxRecDepth 100000 in
set_option maxHeartbeats 2000000 in
theorem errorf_at_pl (F : Interp) (b g : Nat) (s : ByteArray) (w : World) (hF : F.answers w.tape) (hg : w.cell? ⟨g, 0, none⟩ = some (plV b)) (hb : w.cell? ⟨b, 0, none⟩ = some (.string s)) :
    Calls Tryf.prog 9 #[.string ⟨#[97, 116, 32, 37, 119]⟩, .slice (some ⟨g, 0, none⟩) 1 1] w fun e w' => ∃ b', e = .returned (wrV b') ∧ w'.heap[b']? = some (wrObj (FmtStop.textOf (F "fmt.errorf" [[97, 116, 32, 37, 119], pl_plain, s.data.toList] 0)) (plV b)) ∧ Keeps nobody w w' := by
  have hF' := answers_open hF
  have x0 := xcall
  have x1 := xguard
  have x2 := xp_at
  have x3 := xpr_at
  have x4 := pl_act119
  have x5 := pl_isError
  have x6 := pl_str
  have x7 := wr_ptr
  have x8 := wr_elem
  have hop := pl_op119 "fmt.errorf" ⟨b, 0, none⟩ s w hb
  go_enter Tryf.func9, Tryf.ntmps9
  go_wp2
  apply rows_value xturns
  case hr =>
    go_simp
    exact ⟨rfl, rfl⟩
  case h =>
    go_wp2
    go_ret
    exact ⟨_, rfl, heap_alloc_new w _, ((Keeps.refl _ _).alloc _).drew⟩

set_option maxRecDepth 100000 in
set_option maxHeartbeats 2000000 in
theorem errorf_no_pl (F : Interp) (b g : Nat) (s : ByteArray) (w : World) (hF : F.answers w.tape) (hg : w.cell? ⟨g, 0, none⟩ = some (plV b)) (hb : w.cell? ⟨b, 0, none⟩ = some (.string s)) :
    Calls Tryf.prog 9 #[.string ⟨#[110, 111, 32, 37, 118]⟩, .slice (some ⟨g, 0, none⟩) 1 1] w fun e w' => ∃ b', e = .returned (plV b') ∧ w'.heap[b']? = some (plObj (FmtStop.textOf (F "fmt.errorf" [[110, 111, 32, 37, 118], pl_plain, s.data.toList] 0))) ∧ Keeps nobody w w' := by
  have hF' := answers_open hF
  have x0 := xcall
  have x1 := xguard
  have x2 := xp_no
  have x3 := xpr_no
  have x4 := pl_act118
  have x5 := pl_isError
  have x6 := pl_str
  have x7 := pl_ptr
  have x8 := pl_elem
  have hop := pl_op118 "fmt.errorf" ⟨b, 0, none⟩ s w hb
  go_enter Tryf.func9, Tryf.ntmps9
  go_wp2
  apply rows_value xturns
  case hr =>
    go_simp
    exact ⟨rfl, rfl⟩
  case h =>
    go_wp2
    go_ret
    exact ⟨_, rfl, heap_alloc_new w _, ((Keeps.refl _ _).alloc _).drew⟩

end Go.Proofs.YthgcbgdafoiacaaFmt
