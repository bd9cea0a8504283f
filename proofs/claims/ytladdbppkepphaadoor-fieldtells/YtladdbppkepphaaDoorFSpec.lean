/-
  Package field as data, no program: which headers may be.
-/
import Derived.Test.YtladdbppkepphaaDoorGStr
import Derived.Lib.Strings
import Derived.Lib.Atoi
namespace Go.Proofs.YtladdbppkepphaaDoor
open Go.RowKit

abbrev sMethod : ByteArray := ⟨#[58, 109, 101, 116, 104, 111, 100]⟩
abbrev sScheme : ByteArray := ⟨#[58, 115, 99, 104, 101, 109, 101]⟩
abbrev sAuthority : ByteArray := ⟨#[58, 97, 117, 116, 104, 111, 114, 105, 116, 121]⟩
abbrev sPath : ByteArray := ⟨#[58, 112, 97, 116, 104]⟩
abbrev sStatus : ByteArray := ⟨#[58, 115, 116, 97, 116, 117, 115]⟩
abbrev sLength : ByteArray := ⟨#[99, 111, 110, 116, 101, 110, 116, 45, 108, 101, 110, 103, 116, 104]⟩
abbrev sConn : ByteArray := ⟨#[99, 111, 110, 110, 101, 99, 116, 105, 111, 110]⟩
abbrev sTransfer : ByteArray := ⟨#[116, 114, 97, 110, 115, 102, 101, 114, 45, 101, 110, 99, 111, 100, 105, 110, 103]⟩
abbrev sUpgrade : ByteArray := ⟨#[117, 112, 103, 114, 97, 100, 101]⟩
abbrev sKeep : ByteArray := ⟨#[107, 101, 101, 112, 45, 97, 108, 105, 118, 101]⟩
abbrev sTe : ByteArray := ⟨#[116, 101]⟩
abbrev sTrailers : ByteArray := ⟨#[116, 114, 97, 105, 108, 101, 114, 115]⟩

/-- Which bytes may be in numbers, in names, in values; where a byte may be, as a number. -/
def okD (c : Nat) : Bool := decide (48 ≤ c ∧ c ≤ 57)
def okN (c : Nat) : Bool := decide (97 ≤ c ∧ c ≤ 122 ∨ 48 ≤ c ∧ c ≤ 57 ∨ c = 45 ∨ c = 95)
def okV (c : Nat) : Bool := decide (32 ≤ c ∧ c ≠ 127)
def plc (c : Nat) : Nat := if 48 ≤ c ∧ c ≤ 57 then 7 else if 97 ≤ c ∧ c ≤ 122 ∨ c = 45 ∨ c = 95 then 6 else if 32 ≤ c ∧ c ≠ 127 then 4 else 0
def okP (p c : Nat) : Bool := if p = 1 then okD c else if p = 2 then okN c else okV c
theorem okP_1 : okP 1 = okD := by funext c; simp [okP]
theorem okP_2 : okP 2 = okN := by funext c; simp [okP]
theorem okP_4 : okP 4 = okV := by funext c; simp [okP]
theorem plc_cases (c : Nat) : plc c = 7 ∧ okD c = true ∧ okN c = true ∧ okV c = true ∨ plc c = 6 ∧ okD c = false ∧ okN c = true ∧ okV c = true ∨ plc c = 4 ∧ okD c = false ∧ okN c = false ∧ okV c = true ∨ plc c = 0 ∧ okD c = false ∧ okN c = false ∧ okV c = false := by
  unfold plc okD okN okV
  simp only [decide_eq_true_eq, decide_eq_false_iff_not]
  split
  · left; refine ⟨rfl, ?_, ?_, ?_⟩ <;> omega
  · split
    · right; left; refine ⟨rfl, ?_, ?_, ?_⟩ <;> omega
    · split
      · right; right; left; refine ⟨rfl, ?_, ?_, ?_⟩ <;> omega
      · right; right; right; refine ⟨rfl, ?_, ?_, ?_⟩ <;> omega

def allB (p : Nat → Bool) (s : ByteArray) : Bool := (nums s).all p
def nameB (s : ByteArray) : Bool := decide (1 ≤ s.size ∧ s.size ≤ 40) && allB okN s
def valueB (s : ByteArray) : Bool := decide (s.size ≤ 200) && allB okV s && !Lib.hasPrefix s.data.toList [32] && !Lib.hasSuffix s.data.toList [32]
def forbB (f : Fld) : Bool := decide (f.1 = sConn ∨ f.1 = sTransfer ∨ f.1 = sUpgrade ∨ f.1 = sKeep ∨ f.1 = sTe ∧ f.2 ≠ sTrailers)

def getL (name : ByteArray) (l : List Fld) : Option ByteArray := (l.find? fun f => decide (f.1 = name)).map (·.2)
abbrev getV (o : Option ByteArray) : Value := .tuple #[.string (o.getD ⟨#[]⟩), .bool o.isSome]
def misB (name : ByteArray) (ahead : List Fld) : Bool := match ahead.getLast? with
  | none => false
  | some f => nameB f.1 || (getL name ahead).isSome
def hasB (own : List ByteArray) (x : ByteArray) : Bool := own.any fun y => decide (y = x)
def nextE (own : List ByteArray) (ahead : List Fld) (f : Fld) : Nat :=
  if (!hasB own f.1 && !nameB f.1 || forbB f) = true then 6 else if valueB f.2 = false then 3 else if (hasB own f.1 && misB f.1 ahead) = true then 7 else 0
def listE (own : List ByteArray) : List Fld → List Fld → Nat
  | _, [] => 0
  | a, f :: l => if nextE own a f = 0 then listE own (a ++ [f]) l else nextE own a f
theorem listE_at (own : List ByteArray) (l : List Fld) (j : Nat) (hj : j < l.length) : listE own (l.take j) (l.drop j) = if nextE own (l.take j) (l[j]'hj) = 0 then listE own (l.take (j + 1)) (l.drop (j + 1)) else nextE own (l.take j) (l[j]'hj) := by
  rw [List.drop_eq_getElem_cons hj, List.take_succ_eq_append_getElem hj]
  rfl
theorem listE_end (own : List ByteArray) (l : List Fld) (j : Nat) (hj : ¬ j < l.length) : listE own (l.take j) (l.drop j) = 0 := by
  rw [List.drop_eq_nil_of_le (by omega)]
  rfl

abbrev own4 : List ByteArray := [sMethod, sScheme, sAuthority, sPath]
abbrev own1 : List ByteArray := [sStatus]
def valL (name : ByteArray) (l : List Fld) : ByteArray := (getL name l).getD ⟨#[]⟩
def lackE (l : List Fld) : List ByteArray → Nat
  | [] => if Lib.hasPrefix (valL sPath l).data.toList [47] = true then 0 else 3
  | n :: r => if (valL n l).size = 0 then 3 else lackE l r
def requestE (l : List Fld) : Nat := if listE own4 [] l = 0 then lackE l own4 else listE own4 [] l
def statB (v : ByteArray) : Bool := match nums v with
  | [a, b, c] => decide (49 ≤ a ∧ a ≤ 53) && okD b && okD c
  | _ => false
def responseE (l : List Fld) : Nat := if listE own1 [] l = 0 then (if statB (valL sStatus l) = true then 0 else 3) else listE own1 [] l
def trailersE (l : List Fld) : Nat := listE [] [] l

/-- Digits as a number. -/
def decL (acc : Nat) : List Nat → Nat
  | [] => acc
  | c :: r => decL (acc * 10 + (c - 48)) r
def lenB (v : ByteArray) : Bool := decide (1 ≤ v.size ∧ v.size ≤ 9) && allB okD v
def sameB (v : ByteArray) (l : List Fld) : Bool := l.all fun f => decide (f.1 = sLength → f.2 = v)
def lengthE (l : List Fld) : Int × Nat := match getL sLength l with
  | none => (-1, 0)
  | some v => if (sameB v l && lenB v) = true then ((decL 0 (nums v) : Nat), 0) else (-1, 3)

theorem decFrom_digits (s : List UInt8) : ∀ acc, (s.map UInt8.toNat).all okD = true → Lib.decFrom acc s = some (decL acc (s.map UInt8.toNat)) := by
  induction s with
  | nil => intro acc _; rfl
  | cons b s ih =>
    intro acc h
    rw [List.map_cons, List.all_cons, Bool.and_eq_true] at h
    have h1 : 48 ≤ b.toNat ∧ b.toNat ≤ 57 := by simpa [okD] using h.1
    have hd : Lib.digitVal b = some (b.toNat - 48) := by unfold Lib.digitVal; rw [if_pos h1]
    rw [List.map_cons]
    unfold Lib.decFrom decL
    rw [hd]
    exact ih _ h.2
theorem atoi_digits (v : ByteArray) (h : lenB v = true) : Lib.atoi v.data.toList = some ((decL 0 (nums v) : Nat) : Int) := by
  unfold lenB allB at h
  simp only [Bool.and_eq_true, decide_eq_true_eq] at h
  obtain ⟨⟨h1, h9⟩, hd⟩ := h
  unfold nums at hd ⊢
  have hl : v.data.toList.length = v.size := by simp
  cases hv : v.data.toList with
  | nil => rw [hv] at hl; simp at hl; omega
  | cons b s =>
    rw [hv] at hd
    have hb : 48 ≤ b.toNat ∧ b.toNat ≤ 57 := by
      simp only [List.map_cons, List.all_cons, Bool.and_eq_true, okD, decide_eq_true_eq] at hd
      exact hd.1
    have n45 : (b == 45) = false := by
      rw [beq_eq_false_iff_ne]; rintro rfl; simp at hb
    have n43 : (b == 43) = false := by
      rw [beq_eq_false_iff_ne]; rintro rfl; simp at hb
    simp only [Lib.atoi, n45, n43, Lib.decNat, List.isEmpty_cons, Bool.false_eq_true, if_false]
    rw [decFrom_digits _ _ hd]
    rfl
end Go.Proofs.YtladdbppkepphaaDoor
