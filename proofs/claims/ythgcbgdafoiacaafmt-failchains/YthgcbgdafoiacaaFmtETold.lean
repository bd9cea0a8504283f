/-
  fmt.Errorf at one error, its texts told.
-/
import Derived.Test.YthgcbgdafoiacaaFmtEErrorf
namespace Go.Proofs.YthgcbgdafoiacaaFmt
open Go.RowKit Go.Kit Go.Extern.Stop Go.Stop Go.Extern

theorem parse_at : (FmtText.parse [97, 116, 32, 37, 119]).map FmtText.glue = some [.lit [97, 116, 32], .verb {} 119] := by rfl
theorem parse_no : (FmtText.parse [110, 111, 32, 37, 118]).map FmtText.glue = some [.lit [110, 111, 32], .verb {} 118] := by rfl
theorem text_at (sh : List UInt8) (name : List UInt8) (said : List UInt8) (ho : FmtText.operand sh said = some (.said name true false said)) : FmtText.text "fmt.errorf" [[97, 116, 32, 37, 119], sh, said] = some ([97, 116, 32] ++ said) := by
  rw [FmtText.text_errorf_glued parse_at (FmtText.operands_cons ho FmtText.operands_nil)]
  simp [FmtText.render, FmtText.printArg_w_said]
theorem text_no (sh : List UInt8) (name : List UInt8) (said : List UInt8) (ho : FmtText.operand sh said = some (.said name true false said)) : FmtText.text "fmt.errorf" [[110, 111, 32, 37, 118], sh, said] = some ([110, 111, 32] ++ said) := by
  rw [FmtText.text_errorf_glued parse_no (FmtText.operands_cons ho FmtText.operands_nil)]
  simp [FmtText.render, FmtText.printArg_v_said]
def atS (s : ByteArray) : ByteArray := ⟨#[97, 116, 32]⟩ ++ s
def noS (s : ByteArray) : ByteArray := ⟨#[110, 111, 32]⟩ ++ s
theorem told_at (F : Interp) (sh name : List UInt8) (s : ByteArray) (hs : s.size ≤ 1000000) (ho : FmtText.operand sh s.data.toList = some (.said name true false s.data.toList)) : FmtStop.textOf (F.told "fmt.errorf" [[97, 116, 32, 37, 119], sh, s.data.toList] 0) = atS s := by
  have h1 := told_string F (text_at sh name _ ho) (by have : s.data.toList.length = s.size := rfl; simp; omega)
  have h2 := textOf_list F.told "fmt.errorf" [[97, 116, 32, 37, 119], sh, s.data.toList]
  rw [h1] at h2
  apply ByteArray.ext
  apply Array.toList_inj.1
  rw [h2]
  simp [atS]
theorem told_no (F : Interp) (sh name : List UInt8) (s : ByteArray) (hs : s.size ≤ 1000000) (ho : FmtText.operand sh s.data.toList = some (.said name true false s.data.toList)) : FmtStop.textOf (F.told "fmt.errorf" [[110, 111, 32, 37, 118], sh, s.data.toList] 0) = noS s := by
  have h1 := told_string F (text_no sh name _ ho) (by have : s.data.toList.length = s.size := rfl; simp; omega)
  have h2 := textOf_list F.told "fmt.errorf" [[110, 111, 32, 37, 118], sh, s.data.toList]
  rw [h1] at h2
  apply ByteArray.ext
  apply Array.toList_inj.1
  rw [h2]
  simp [noS]
theorem says_enter {w0 w : World} {T f : Nat} {x : Value} {s : ByteArray} (h : Says w0 (.iface T x) s) (hm : ∀ w, (Go.method 231 T x "Error").run Tryf.prog w = .ok (f, x) w) (hE : Env w) (hk : Keeps nobody w0 w) : Calls Tryf.prog f #[x] w fun e w' => e = .returned (.string s) ∧ Keeps nobody w w' := by
  obtain ⟨T', x', f', hv, hm', _, hC⟩ := h
  cases hv
  have h1 := hm w
  rw [hm' w] at h1
  simp at h1
  subst h1
  exact hC w hE hk

theorem errorf_at (F : Interp) (t : Er) (v : Value) (g : Nat) (w : World) (hEnv : Env w) (hF : F.told.answers w.tape) (hn : t.isNil = false) (hE : Err w v t) (hl : t.words.size ≤ 1000000) (hg : w.cell? ⟨g, 0, none⟩ = some v) :
    Calls Tryf.prog 9 #[.string ⟨#[97, 116, 32, 37, 119]⟩, .slice (some ⟨g, 0, none⟩) 1 1] w fun e w' => ∃ b', e = .returned (wrV b') ∧ Err w' (wrV b') (.wr (atS t.words) t) ∧ Keeps nobody w w' := by
  have hS := says_ok t.deep w v t (Nat.le_refl _) hn hE hl
  have hE0 := hE
  cases hE with
  | nil => simp [Er.isNil] at hn
  | @fl b op c v' e hb he =>
    refine (errorf_at_fl F.told b g _ w hF hg (fun w1 h1 => says_enter hS (fl_mError _) (hEnv.quiet h1) h1)).mono ?_
    rintro e1 w' ⟨b', rfl, hb', k'⟩
    rw [told_at F _ _ _ hl (FmtText.operand_error_at rfl (FmtText.unpack_pack _ (by decide)) _)] at hb'
    exact ⟨b', rfl, .wr hb' hn (hE0.quiet k'), k'⟩
  | @j1 b g' v' e hb hgb hne he =>
    refine (errorf_at_jn F.told b g _ w hF hg (fun w1 h1 => says_enter hS (jn_mError _) (hEnv.quiet h1) h1)).mono ?_
    rintro e1 w' ⟨b', rfl, hb', k'⟩
    rw [told_at F _ _ _ hl (FmtText.operand_error_at rfl (FmtText.unpack_pack _ (by decide)) _)] at hb'
    exact ⟨b', rfl, .wr hb' hn (hE0.quiet k'), k'⟩
  | @j2 b g' k v' e c hb hgb hkb hne he =>
    refine (errorf_at_jn F.told b g _ w hF hg (fun w1 h1 => says_enter hS (jn_mError _) (hEnv.quiet h1) h1)).mono ?_
    rintro e1 w' ⟨b', rfl, hb', k'⟩
    rw [told_at F _ _ _ hl (FmtText.operand_error_at rfl (FmtText.unpack_pack _ (by decide)) _)] at hb'
    exact ⟨b', rfl, .wr hb' hn (hE0.quiet k'), k'⟩
  | @wr b m v' e hb hne he =>
    have ht := told_at F wr_plain _ m hl (FmtText.operand_plain_at (sh := wr_plain) rfl (FmtText.unpack_pack _ (by decide)) _)
    refine (errorf_at_wr F.told b g m w hF hg (cells_of hb 0 _ rfl)).mono ?_
    rintro e1 w' ⟨b', rfl, hb', k'⟩
    rw [ht] at hb'
    exact ⟨b', rfl, .wr hb' hn (hE0.quiet k'), k'⟩
  | @pl b m hb =>
    have ht := told_at F pl_plain _ m hl (FmtText.operand_plain_at (sh := pl_plain) rfl (FmtText.unpack_pack _ (by decide)) _)
    refine (errorf_at_pl F.told b g m w hF hg (cells_of hb 0 _ rfl)).mono ?_
    rintro e1 w' ⟨b', rfl, hb', k'⟩
    rw [ht] at hb'
    exact ⟨b', rfl, .wr hb' hn (hE0.quiet k'), k'⟩

theorem errorf_no (F : Interp) (t : Er) (v : Value) (g : Nat) (w : World) (hEnv : Env w) (hF : F.told.answers w.tape) (hn : t.isNil = false) (hE : Err w v t) (hl : t.words.size ≤ 1000000) (hg : w.cell? ⟨g, 0, none⟩ = some v) :
    Calls Tryf.prog 9 #[.string ⟨#[110, 111, 32, 37, 118]⟩, .slice (some ⟨g, 0, none⟩) 1 1] w fun e w' => ∃ b', e = .returned (plV b') ∧ Err w' (plV b') (.pl (noS t.words)) ∧ Keeps nobody w w' := by
  have hS := says_ok t.deep w v t (Nat.le_refl _) hn hE hl
  have hE0 := hE
  cases hE with
  | nil => simp [Er.isNil] at hn
  | @fl b op c v' e hb he =>
    refine (errorf_no_fl F.told b g _ w hF hg (fun w1 h1 => says_enter hS (fl_mError _) (hEnv.quiet h1) h1)).mono ?_
    rintro e1 w' ⟨b', rfl, hb', k'⟩
    rw [told_no F _ _ _ hl (FmtText.operand_error_at rfl (FmtText.unpack_pack _ (by decide)) _)] at hb'
    exact ⟨b', rfl, .pl hb', k'⟩
  | @j1 b g' v' e hb hgb hne he =>
    refine (errorf_no_jn F.told b g _ w hF hg (fun w1 h1 => says_enter hS (jn_mError _) (hEnv.quiet h1) h1)).mono ?_
    rintro e1 w' ⟨b', rfl, hb', k'⟩
    rw [told_no F _ _ _ hl (FmtText.operand_error_at rfl (FmtText.unpack_pack _ (by decide)) _)] at hb'
    exact ⟨b', rfl, .pl hb', k'⟩
  | @j2 b g' k v' e c hb hgb hkb hne he =>
    refine (errorf_no_jn F.told b g _ w hF hg (fun w1 h1 => says_enter hS (jn_mError _) (hEnv.quiet h1) h1)).mono ?_
    rintro e1 w' ⟨b', rfl, hb', k'⟩
    rw [told_no F _ _ _ hl (FmtText.operand_error_at rfl (FmtText.unpack_pack _ (by decide)) _)] at hb'
    exact ⟨b', rfl, .pl hb', k'⟩
  | @wr b m v' e hb hne he =>
    have ht := told_no F wr_plain _ m hl (FmtText.operand_plain_at (sh := wr_plain) rfl (FmtText.unpack_pack _ (by decide)) _)
    refine (errorf_no_wr F.told b g m w hF hg (cells_of hb 0 _ rfl)).mono ?_
    rintro e1 w' ⟨b', rfl, hb', k'⟩
    rw [ht] at hb'
    exact ⟨b', rfl, .pl hb', k'⟩
  | @pl b m hb =>
    have ht := told_no F pl_plain _ m hl (FmtText.operand_plain_at (sh := pl_plain) rfl (FmtText.unpack_pack _ (by decide)) _)
    refine (errorf_no_pl F.told b g m w hF hg (cells_of hb 0 _ rfl)).mono ?_
    rintro e1 w' ⟨b', rfl, hb', k'⟩
    rw [ht] at hb'
    exact ⟨b', rfl, .pl hb', k'⟩
end Go.Proofs.YthgcbgdafoiacaaFmt
