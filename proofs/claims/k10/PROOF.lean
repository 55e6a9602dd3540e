import PyProof.Rows.All
import Wide.All
import OpenK.AllK
import Wide.FinOn
import HandS.ForMost
import HandS.Wide
import HandS.Gcd
import HandS.OwnEq
import HandS.IsInst
import HandS.Defaults
import HandS.Exc
import HandS.ExcInit
import HandS.ExcField
import HandS.ExcOwn
import HandS.ClsMeth
import HandS.WordsExc
import HandS.FStr
import HandS.Style
import PyProof.LongRange
import HandS.MakeKw
import HandS.Conv
import KE.KExcIs
import HandS.TryMany
import HandS.Nested
import HandS.MakeKwOnly
import HandS.Property
import KE.KSuper
import HandS.Iter
import HandS.Text
import HandS.Strs
import PyProof.StrLawsRepr
import HandS.StrMore
import KE.KCallOwn
import PySem.Challenge.RW_barclips_k10_grid_words
set_option Elab.async false
set_option linter.all false
set_option maxRecDepth 100000
set_option maxHeartbeats 4000000
set_option exponentiation.threshold 2000
set_option Elab.async false
set_option linter.all false
set_option maxRecDepth 100000
set_option maxHeartbeats 4000000
namespace Bar
open PySem L2

/-! ### one step of a reading -/
section
variable {D : Ends} {σ σ' : L2.St} {H : Hp} {Q : VK} {t u : TS} {te ta tb tc : TE} {tt tu : TT} {g : TG} {v x y : V} {i j : Int} {n : Nat}
theorem rSeq (h : t ⟨u D, D.rt, D.bk, D.ct⟩ σ H) : tSeq t u D σ H := h
theorem rNext (h : D.nx σ H) : tNext D σ H := h
theorem rNx {f : L2.St → Hp → Prop} {r : VK} {b c : L2.St → Hp → Prop} (h : f σ H) : Ends.nx ⟨f, r, b, c⟩ σ H := h
theorem rCt {f : L2.St → Hp → Prop} {r : VK} {b c : L2.St → Hp → Prop} (h : c σ H) : Ends.ct ⟨f, r, b, c⟩ σ H := h
theorem rBk {f : L2.St → Hp → Prop} {r : VK} {b c : L2.St → Hp → Prop} (h : b σ H) : Ends.bk ⟨f, r, b, c⟩ σ H := h
theorem rRt {f : L2.St → Hp → Prop} {r : VK} {b c : L2.St → Hp → Prop} (h : r v H) : Ends.rt ⟨f, r, b, c⟩ v H := h
theorem rBreak (h : D.bk σ H) : tBreak D σ H := h
theorem rCont (h : D.ct σ H) : tCont D σ H := h
theorem rAsg (h : te σ H fun x H1 => g x σ H1 D.nx) : tAsg te g D σ H := h
theorem rDrop (h : te σ H fun _ H1 => D.nx σ H1) : tDrop te D σ H := h
theorem rRet (h : te σ H D.rt) : tRet te D σ H := h
theorem rRetN (h : D.rt .non H) : tRetN D σ H := h
theorem rIfS (h : tt σ H fun b H1 => if b = true then t D σ H1 else u D σ H1) : tIfS tt t u D σ H := h
theorem rVar (e : σ[n]? = some (some v)) (h : Q v H) : tVar n σ H Q := ⟨v, e, h⟩
theorem rC (h : Q v H) : tC v σ H Q := h
theorem rOp {r : R2} (h : ta σ H fun x H1 => tb σ H1 fun y H2 => r x y H2 Q) : tOp r ta tb σ H Q := h
theorem rUn {r : V → Hp → VK → Prop} (h : ta σ H fun x H1 => r x H1 Q) : tUn r ta σ H Q := h
theorem rI0_ {f : Int → Int → V} (h : Q (f i j) H) : rI0 f (.int i) (.int j) H Q := ⟨i, j, rfl, rfl, h⟩
theorem rI_ {C : Int → Int → Prop} {f : Int → Int → V} (c : C i j) (h : Q (f i j) H) : rI C f (.int i) (.int j) H Q := ⟨i, j, rfl, rfl, c, h⟩
theorem rU_ {f : Int → V} (h : Q (f i) H) : rU f (.int i) H Q := ⟨i, rfl, h⟩
theorem rEq_ (e : scal x y = true) (h : Q (.bl (decide (x = y))) H) : rEq x y H Q := ⟨e, h⟩
theorem rNe_ (e : scal x y = true) (h : Q (.bl (!decide (x = y))) H) : rNe x y H Q := ⟨e, h⟩
theorem rEqI (h : Q (.bl (decide (i = j))) H) : rEq (.int i) (.int j) H Q := ⟨rfl, by
  have e : decide (V.int i = V.int j) = decide (i = j) := by
    by_cases q : i = j
    · subst q; rw [decide_eq_true rfl, decide_eq_true rfl]
    · rw [decide_eq_false q, decide_eq_false (fun z => q (V.int.inj z))]
  rw [e]
  exact h⟩
theorem rNeI (h : Q (.bl (!decide (i = j))) H) : rNe (.int i) (.int j) H Q := ⟨rfl, by
  have e : decide (V.int i = V.int j) = decide (i = j) := by
    by_cases q : i = j
    · subst q; rw [decide_eq_true rfl, decide_eq_true rfl]
    · rw [decide_eq_false q, decide_eq_false (fun z => q (V.int.inj z))]
  rw [e]
  exact h⟩
theorem dBl (a b : Bool) : decide (V.bl a = V.bl b) = (a == b) := by
  cases a <;> cases b <;> decide
theorem rEqBl {a b : Bool} (h : Q (.bl (a == b)) H) : rEq (.bl a) (.bl b) H Q := ⟨rfl, by
  rw [dBl]
  exact h⟩
theorem rNeBl {a b : Bool} (h : Q (.bl (!(a == b))) H) : rNe (.bl a) (.bl b) H Q := ⟨rfl, by
  rw [dBl]
  exact h⟩
theorem rTest {Q : Bool → Hp → Prop} (h : te σ H fun x H' => ∃ k, x = .bl k ∧ Q k H') : tTest te σ H Q := h
theorem rB {Q : Bool → Hp → Prop} (h : te σ H fun x H' => ∃ k, x = .bl k ∧ Q k H') : tB te σ H Q := h
theorem rBl {b : Bool} {P : Bool → Prop} (h : P b) : ∃ k, V.bl b = .bl k ∧ P k := ⟨b, rfl, h⟩
theorem rNot {Q : Bool → Hp → Prop} (h : tt σ H fun c H1 => Q (!c) H1) : tNot tt σ H Q := h
theorem rAnd {Q : Bool → Hp → Prop} (h : tt σ H fun c H1 => if c = true then tu σ H1 Q else Q false H1) : tAnd tt tu σ H Q := h
theorem rOr {Q : Bool → Hp → Prop} (h : tt σ H fun c H1 => if c = true then Q true H1 else tu σ H1 Q) : tOr tt tu σ H Q := h
theorem rAndV (h : ta σ H fun x H1 => ∃ c, x = .bl c ∧ if c = true then tb σ H1 Q else Q (.bl false) H1) : tAndV ta tb σ H Q := h
theorem rOrV (h : ta σ H fun x H1 => ∃ c, x = .bl c ∧ if c = true then Q (.bl true) H1 else tb σ H1 Q) : tOrV ta tb σ H Q := h
theorem rNotV (h : ta σ H fun x H1 => ∃ c, x = .bl c ∧ Q (.bl (!c)) H1) : tNotV ta σ H Q := h
theorem rIfE (h : tt σ H fun c H1 => if c = true then ta σ H1 Q else tb σ H1 Q) : tIf tt ta tb σ H Q := h
theorem rCB {r : List V → Hp → VK → Prop} {t : TA} (h : t σ H fun vs H1 => r vs H1 Q) : tCB r t σ H Q := h
theorem rNil {Q : List V → Hp → Prop} (h : Q [] H) : tNil σ H Q := h
theorem rCons {t : TA} {Q : List V → Hp → Prop} (h : te σ H fun x H1 => t σ H1 fun xs H2 => Q (x :: xs) H2) : tCons te t σ H Q := h
theorem rTup {t : TA} (h : t σ H fun xs H1 => xs.length ≤ sizeLine ∧ ∀ p, H1 p = none → Q (.ref p) (upd H1 p (.tup xs))) : tTup t σ H Q := h
theorem rLst {t : TA} (h : t σ H fun xs H1 => xs.length ≤ sizeLine ∧ ∀ p, H1 p = none → Q (.ref p) (upd H1 p (.lst xs))) : tLst t σ H Q := h
theorem rNew {xs : List V} {R : Addr → Prop} (l : xs.length ≤ sizeLine) (h : ∀ p, H p = none → R p) : xs.length ≤ sizeLine ∧ ∀ p, H p = none → R p := ⟨l, h⟩
theorem rCall {sp : Sp} {dvs : List V} {E : XK} {t : TA} (h : t σ H fun vs H1 => sp (vs ++ dvs) H1 Q E) : tCall sp dvs E t σ H Q := h
theorem rMake {C : Addr} {sp : Sp} {dvs : List V} {E : XK} {t : TA} (h : t σ H fun vs H1 => ∀ x dx, H1 x = none → H1 dx = none → dx ≠ x → sp (.ref x :: (vs ++ dvs)) (upd (upd H1 dx (.own x)) x (.ins C dx [])) (fun v H2 => v = .non ∧ Q (.ref x) H2) E) : tMake C sp dvs E t σ H Q := h
theorem rIxL_ {K : PySem.W.Frag} {a : Addr} {xs : List V} (h1 : SqL K H a xs) (h2 : atI xs i = some v) (h : Q v H) : rIxL K (.ref a) (.int i) H Q := ⟨a, xs, i, v, rfl, rfl, h1, h2, h⟩
theorem rIxT_ {K : PySem.W.Frag} {a : Addr} {xs : List V} (h1 : SqT K H a xs) (h2 : atI xs i = some v) (h : Q v H) : rIxT K (.ref a) (.int i) H Q := ⟨a, xs, i, v, rfl, rfl, h1, h2, h⟩
theorem rFldS {K : PySem.W.Frag} {ta tv : TE} {f : Str} (h : tv σ H fun y H1 => ta σ H1 fun x H2 => ∃ a C dx fs, x = .ref a ∧ H2 a = some (.ins C dx fs) ∧ Cls K C ∧ NoAttr K C f ∧ fs.length < 1000 ∧ D.nx σ (upd H2 a (.ins C dx (putF f y fs)))) : sFld K ta tv f D σ H := h
theorem rFld_ {K : PySem.W.Frag} {f : Str} (h : te σ H fun x H1 => ∃ a C dx fs v, x = .ref a ∧ H1 a = some (.ins C dx fs) ∧ Cls K C ∧ NoAttr K C f ∧ fs.lookup f = some v ∧ Q v H1) : tFld K te f σ H Q := h
theorem rFldV {K : PySem.W.Frag} {f : Str} {a C dx : Addr} {fs : List (Str × V)} {R : V → Prop} (h1 : H a = some (.ins C dx fs)) (c : Cls K C) (nA : NoAttr K C f) (l : fs.lookup f = some v) (h : R v) :
    ∃ a' C dx fs v, V.ref a = .ref a' ∧ H a' = some (.ins C dx fs) ∧ Cls K C ∧ NoAttr K C f ∧ fs.lookup f = some v ∧ R v := ⟨a, C, dx, fs, v, rfl, h1, c, nA, l, h⟩
theorem gN {i : Nat} {Q : L2.St → Hp → Prop} (e : σ.set i (some v) = σ') (h : Q σ' H) : gName i v σ H Q := by
  subst e
  exact h
theorem gN0 {a : Option V} {Q : L2.St → Hp → Prop} (h : Q (some v :: σ) H) : gName 0 v (a :: σ) H Q := h
theorem gN1 {a b : Option V} {Q : L2.St → Hp → Prop} (h : Q (a :: some v :: σ) H) : gName 1 v (a :: b :: σ) H Q := h
theorem gN2 {a b c : Option V} {Q : L2.St → Hp → Prop} (h : Q (a :: b :: some v :: σ) H) : gName 2 v (a :: b :: c :: σ) H Q := h
theorem gN3 {a b c d : Option V} {Q : L2.St → Hp → Prop} (h : Q (a :: b :: c :: some v :: σ) H) : gName 3 v (a :: b :: c :: d :: σ) H Q := h
theorem gN4 {a b c d e : Option V} {Q : L2.St → Hp → Prop} (h : Q (a :: b :: c :: d :: some v :: σ) H) : gName 4 v (a :: b :: c :: d :: e :: σ) H Q := h
theorem gN5 {a b c d e f : Option V} {Q : L2.St → Hp → Prop} (h : Q (a :: b :: c :: d :: e :: some v :: σ) H) : gName 5 v (a :: b :: c :: d :: e :: f :: σ) H Q := h
theorem gN6 {a b c d e f k : Option V} {Q : L2.St → Hp → Prop} (h : Q (a :: b :: c :: d :: e :: f :: some v :: σ) H) : gName 6 v (a :: b :: c :: d :: e :: f :: k :: σ) H Q := h
theorem gN7 {a b c d e f k l : Option V} {Q : L2.St → Hp → Prop} (h : Q (a :: b :: c :: d :: e :: f :: k :: some v :: σ) H) : gName 7 v (a :: b :: c :: d :: e :: f :: k :: l :: σ) H Q := h
theorem gN8 {a b c d e f k l m : Option V} {Q : L2.St → Hp → Prop} (h : Q (a :: b :: c :: d :: e :: f :: k :: l :: some v :: σ) H) : gName 8 v (a :: b :: c :: d :: e :: f :: k :: l :: m :: σ) H Q := h
theorem gN9 {a b c d e f k l m o : Option V} {Q : L2.St → Hp → Prop} (h : Q (a :: b :: c :: d :: e :: f :: k :: l :: m :: some v :: σ) H) : gName 9 v (a :: b :: c :: d :: e :: f :: k :: l :: m :: o :: σ) H Q := h
theorem gN10 {a b c d e f k l m o p : Option V} {Q : L2.St → Hp → Prop} (h : Q (a :: b :: c :: d :: e :: f :: k :: l :: m :: o :: some v :: σ) H) : gName 10 v (a :: b :: c :: d :: e :: f :: k :: l :: m :: o :: p :: σ) H Q := h
theorem gN11 {a b c d e f k l m o p q : Option V} {Q : L2.St → Hp → Prop} (h : Q (a :: b :: c :: d :: e :: f :: k :: l :: m :: o :: p :: some v :: σ) H) : gName 11 v (a :: b :: c :: d :: e :: f :: k :: l :: m :: o :: p :: q :: σ) H Q := h
theorem rStart {N : List Str} {vs : List V} (e : start N vs = σ) (h : t D σ H) : t D (start N vs) H := by
  rw [e]
  exact h
theorem iteBT {A B : Prop} {b : Bool} (e : b = true) (h : A) : if b = true then A else B := by
  rw [if_pos e]
  exact h
theorem iteBF {A B : Prop} {b : Bool} (e : b = false) (h : B) : if b = true then A else B := by
  rw [e, if_neg Bool.false_ne_true]
  exact h
end

/-! ### a def that is called by its name -/
structure Fn (P : Program) (w : World) (K : PySem.W.Frag) (mg : Str → Option Value) (base : Heap) (x : Str) (ps : List Str) (dvs : List V) (k : Nat) (sp : Sp) : Prop where
  ex : ∃ (f : Addr) (fd : FuncData) (ds : List Value), mg x = some (.ref f) ∧ PySem.W.keepIn K (.ref f) = true ∧ Binds K fd ps ds ∧ Vals dvs ds ∧ FnOk P w K mg base CX0 k f fd ps sp
section
variable {X : Cx} {k : Nat} {sp : Sp} {ps : List Str} {dvs : List V} {x : Str} {p pos : Pos} {e : Expr} {es : List Expr} {t : TA}
theorem pe_fn (F : Fn X.prog X.w X.K X.mg X.base x ps dvs k sp) (hr : Room k X.A) (hg : Gl X x) (ha : PA X (e :: es) t) (hdb : (x == ("__debug__" : Str)) = false := by decide)
    (he : starEach (e :: es) X.env = (false, eval e X.env) :: starEach es X.env := by rfl) (hpl : (backTo pos (starEach es X.env)).any (·.1) = false := by rfl) : PE X (.Call (.Name x p) (e :: es) [] pos) (tCall sp dvs E0 t) := by
  obtain ⟨f, fd, ds, hm, hk, hb, hd, ok⟩ := F.ex
  exact pe_call ok hr hg hm hk hb hd pass0 ha hdb he hpl
end

/-! ### what is kept beside b -/
def Kp (b : Addr) (H H' : Hp) : Prop := ∀ a o, a ≠ b → H a = some o → H' a = some o
theorem Kp.refl {b : Addr} {H : Hp} : Kp b H H := fun _ _ _ h => h
theorem Kp.trans {b : Addr} {H H1 H2 : Hp} (h : Kp b H H1) (k : Kp b H1 H2) : Kp b H H2 := fun a o n e => k a o n (h a o n e)
theorem Kp.upd {b : Addr} {H : Hp} {o : HO} : Kp b H (upd H b o) := fun a u n e => by
  rw [upd_ne n]
  exact e
theorem Kp.new {b p : Addr} {H : Hp} {o : HO} (hp : H p = none) : Kp b H (L2.upd H p o) := fun a u n e => by
  rw [upd_ne (ne_of_none e hp)]
  exact e
theorem Kp.of_same {b : Addr} {H H' : Hp} (h : Same H H') : Kp b H H' := fun a u _ e => h a u e
theorem Kp.free {b p : Addr} {H H' : Hp} (k : Kp b H H') {o u : HO} (hb : H b = some o) (hb' : H' b = some u) (hp : H' p = none) : H p = none := by
  cases q : H p with
  | none => rfl
  | some z =>
    have n : p ≠ b := fun e => by rw [e, hb'] at hp; cases hp
    rw [k p z n q] at hp
    cases hp
theorem lkKp {b a : Addr} {H H' : Hp} {o u : HO} (k : Kp b H H') (h : H a = some o) (hb : H b = some u) (d : o ≠ u) : H' a = some o := k a o (ne_of h hb d) h
theorem lkKn {b a : Addr} {H H' : Hp} {o : HO} (k : Kp b H H') (n : a ≠ b) (h : H a = some o) : H' a = some o := k a o n h
theorem lkSm {a : Addr} {H H' : Hp} {o : HO} (k : Same H H') (h : H a = some o) : H' a = some o := k a o h
theorem sqSame {K : PySem.W.Frag} {a : Addr} {xs : List V} {H H' : Hp} (k : Same H H') (h : SqL K H a xs) : SqL K H' a xs := k.seq h
theorem Kp.trans' {b : Addr} {H H1 H2 : Hp} (h : Same H H1) (k : Kp b H1 H2) : Kp b H H2 := fun a o n e => k a o n (h a o e)
theorem sqKf {K : PySem.W.Frag} {b a : Addr} {xs : List V} {H H' : Hp} (k : Kp b H H') (hb : H b = none) (h : SqL K H a xs) : SqL K H' a xs := by
  rcases h with (h | ⟨o, h⟩) | h
  · exact .inl (.inl (k a _ (ne_of_none h hb) h))
  · exact .inl (.inr ⟨o, k a _ (ne_of_none h hb) h⟩)
  · exact .inr h
theorem Kp.sqT {K : PySem.W.Frag} {b t : Addr} {xs ys : List V} {H H' : Hp} (k : Kp b H H') (hb : H b = some (.lst ys)) (h : SqT K H t xs) : SqT K H' t xs := by
  rcases h with (h | ⟨o, h⟩) | h
  · exact .inl (.inl (k t _ (ne_of h hb (by intro z; cases z)) h))
  · exact .inl (.inr ⟨o, k t _ (ne_of h hb (by intro z; cases z)) h⟩)
  · exact .inr h
theorem Kp.sqL {K : PySem.W.Frag} {b t : Addr} {xs : List V} {H H' : Hp} (k : Kp b H H') (n : t ≠ b) (h : SqL K H t xs) : SqL K H' t xs := by
  rcases h with (h | ⟨o, h⟩) | h
  · exact .inl (.inl (k t _ n h))
  · exact .inl (.inr ⟨o, k t _ n h⟩)
  · exact .inr h
theorem szLe {n : Nat} (h : n ≤ 1000) : n ≤ sizeLine := Nat.le_trans h (by decide)
theorem szLt {n : Nat} (h : n < 1000) : n < sizeLine := Nat.lt_of_lt_of_le h (by decide)
def Kp2 (b l : Addr) (H H' : Hp) : Prop := ∀ a o, a ≠ b → a ≠ l → H a = some o → H' a = some o
theorem Kp2.refl {b l : Addr} {H : Hp} : Kp2 b l H H := fun _ _ _ _ h => h
theorem Kp2.kp {b l : Addr} {H H1 H2 : Hp} (k : Kp2 b l H H1) (h : Kp b H1 H2) : Kp2 b l H H2 := fun a o n m e => h a o n (k a o n m e)
theorem Kp2.set {b l : Addr} {H H1 : Hp} {u : HO} (k : Kp2 b l H H1) : Kp2 b l H (L2.upd H1 l u) := fun a o n m e => by
  rw [upd_ne m]
  exact k a o n m e
theorem freeNew {p q : Addr} {H : Hp} {o : HO} (h : L2.upd H q o p = none) : H p = none := by
  by_cases e : p = q
  · subst e
    rw [upd_same] at h
    cases h
  · rwa [upd_ne e] at h
theorem lkNew {p a : Addr} {H : Hp} {o u : HO} (hp : H p = none) (h : H a = some u) : L2.upd H p o a = some u := by
  rw [upd_ne (ne_of_none h hp)]
  exact h
theorem lkNe {p a : Addr} {H : Hp} {o u : HO} (n : a ≠ p) (h : H a = some u) : L2.upd H p o a = some u := by
  rw [upd_ne n]
  exact h

/-! ### powers of great ints -/
def CPowW (i j : Int) : Prop := 0 ≤ j ∧ (Builtin.Int.intBits i : Int) * j ≤ 2 ^ 27
theorem op_powW {X : Cx} : OpR X (binaryOp .Pow) (rI CPowW fun i j => .int (i ^ j.toNat)) := opI fun _ _ _ _ _ _ _ hc q => PyProof.Rows.pow_int hc.1 hc.2 q
theorem powW_ok {i j : Int} (n : Nat) (h0 : 0 ≤ j) (h : i.natAbs < 2 ^ n) (hb : (n : Int) * j ≤ 2 ^ 27) : CPowW i j := by
  refine ⟨h0, Int.le_trans (Int.mul_le_mul_of_nonneg_right ?_ h0) hb⟩
  have := PyProof.Rows.intBits_le h
  omega

/-! ### own operators -/
structure Own (K : PySem.W.Frag) (C : Addr) (m : Str) (f : Addr) : Prop where
  find : PySem.W.findIn K (.ref C) m = some (some (.ref f))
  fn : PySem.W.isFn K (.ref f) = true
/-- x in o, by an own __contains__ that gives a truth value -/
def rOwnIn (C : Addr) (sp : Sp) : R2 := fun x y H Q => ∃ a dx fs, y = .ref a ∧ H a = some (.ins C dx fs) ∧ sp [y, x] H (fun v H' => ∃ c, v = .bl c ∧ Q (.bl c) H') E0
section
variable {X : Cx} {C f : Addr} {fd : FuncData} {ps : List Str} {k : Nat} {sp : Sp}
theorem op_in_own (O : Own X.K C "__contains__" f) (F : FnOk X.prog X.w X.K X.mg X.base CX0 k f fd ps sp) (hr : Room k X.A) (hb : Binds X.K fd ps []) : OpR X (compareOp .In) (rOwnIn C sp) := by
  intro pins s σ H x y v u Q I rx ry h
  obtain ⟨a, dx, fs, rfl, ea, q⟩ := h
  obtain rfl : u = Value.ref a := ry
  obtain ⟨mA, O', _⟩ := ins_get I.hok ea
  obtain ⟨od, J, _⟩ := O'.look
  obtain ⟨m, Fr⟩ := I.fr
  refine PySem.W.in_K Fr I.mod.kin J O.find O.fn ?_
  refine thn (run_fn (us := [.ref a, v]) (vs := [.ref a, x]) F hr hb .nil pass0 I (.cons rfl (.cons rx .nil)) q) fun u' s' hq => ?_
  obtain ⟨v', H', I', rv, hv⟩ := hq
  obtain ⟨b, hb, q'⟩ := hv
  subst hb
  obtain rfl : u' = Value.bool b := rv
  exact wpAny_truthy_bool ⟨.bl b, H', I', rfl, q'⟩
end

/-! ### an own class that is called, a method that is called -/
structure Made (P : Program) (w : World) (K : PySem.W.Frag) (mg : Str → Option Value) (base : Heap) (x : Str) (C : Addr) (ps : List Str) (dvs : List V) (k : Nat) (sp : Sp) : Prop where
  ex : ∃ (f : Addr) (fd : FuncData) (ds : List Value), mg x = some (.ref C) ∧ Mk K C f ∧ Binds K fd ps ds ∧ Vals dvs ds ∧ FnOk P w K mg base CX0 k f fd ps sp
structure Mth (P : Program) (w : World) (K : PySem.W.Frag) (mg : Str → Option Value) (base : Heap) (C : Addr) (m : Str) (ps : List Str) (dvs : List V) (k : Nat) (sp : Sp) : Prop where
  cl : Cls K C
  ex : ∃ (f : Addr) (fd : FuncData) (ds : List Value), Meth K C m f ∧ Binds K fd ps ds ∧ Vals dvs ds ∧ FnOk P w K mg base CX0 k f fd ps sp
structure Opr (P : Program) (w : World) (K : PySem.W.Frag) (mg : Str → Option Value) (base : Heap) (C : Addr) (m : Str) (ps : List Str) (k : Nat) (sp : Sp) : Prop where
  ex : ∃ (f : Addr) (fd : FuncData), Own K C m f ∧ Binds K fd ps [] ∧ FnOk P w K mg base CX0 k f fd ps sp
section
variable {X : Cx} {k : Nat} {sp : Sp} {ps : List Str} {dvs : List V} {C : Addr} {x m : Str} {p pos apos : Pos} {e o : Expr} {es : List Expr} {t : TA} {ta : TE}
theorem pe_mk (F : Made X.prog X.w X.K X.mg X.base x C ps dvs k sp) (hr : Room (k + 1) X.A) (hg : Gl X x) (ha : PA X (e :: es) t) (hdb : (x == ("__debug__" : Str)) = false := by decide)
    (he : starEach (e :: es) X.env = (false, eval e X.env) :: starEach es X.env := by rfl) (hpl : (backTo pos (starEach es X.env)).any (·.1) = false := by rfl) : PE X (.Call (.Name x p) (e :: es) [] pos) (tMake C sp dvs E0 t) := by
  obtain ⟨f, fd, ds, hm, hk, hb, hd, ok⟩ := F.ex
  exact pe_make hk ok hr hg hm hb hd pass0 ha hdb he hpl
theorem pe_mth {pl : Sem Bool} (F : Mth X.prog X.w X.K X.mg X.base C m ps dvs k sp) (he : PE X o ta) (hr : Room k X.A) (ha : PA X (e :: es) t)
    (hst : starEach (e :: es) X.env = (false, eval e X.env) :: starEach es X.env := by rfl) (hpl : (backTo pos (starEach es X.env)).any (·.1) = false := by rfl)
    (ht : eval (.Call (.Attribute o m apos) (e :: es) [] pos) X.env = (do
      let ov ← eval o X.env
      standAt apos.atName
      let (f, first) ← holding [ov] (getMethod ov m pl)
      callWith pos f first (backTo pos (starEach (e :: es) X.env)) (backToKw pos (keywordEach [] X.env))) := by rfl) :
    PE X (.Call (.Attribute o m apos) (e :: es) [] pos) (tMeth C m sp dvs E0 ta t) := by
  obtain ⟨f, fd, ds, hm, hb, hd, ok⟩ := F.ex
  exact pe_meth he F.cl hm ok hr hb hd pass0 ha hst hpl ht
theorem op_in (F : Opr X.prog X.w X.K X.mg X.base C "__contains__" ps k sp) (hr : Room k X.A) : OpR X (compareOp .In) (rOwnIn C sp) := by
  obtain ⟨f, fd, O, hb, ok⟩ := F.ex
  exact op_in_own O ok hr hb
end
theorem rMeth {C : Addr} {m : Str} {sp : Sp} {dvs : List V} {E : XK} {ta : TE} {t : TA} {σ : L2.St} {H : Hp} {Q : VK} (h : ta σ H fun x H1 => ∃ a dx fs, x = .ref a ∧ H1 a = some (.ins C dx fs) ∧ fs.lookup m = none ∧ t σ H1 fun vs H2 => sp (x :: (vs ++ dvs)) H2 Q E) :
  tMeth C m sp dvs E ta t σ H Q := h
theorem lkMut {p a : Addr} {H : Hp} {o u o' : HO} (h : H a = some u) (hp : H p = some o') (d : u ≠ o') : L2.upd H p o a = some u := lkNe (ne_of h hp d) h
def rInt : List V → Hp → VK → Prop := fun xs H Q => (∃ i, xs = [.int i] ∧ Q (.int i) H) ∨ ∃ k : Bool, xs = [.bl k] ∧ Q (.int (if k then 1 else 0)) H
theorem c_int {X : Cx} : CallR X (.type "int") rInt := call_int1
theorem rInt_ {i : Int} {H : Hp} {Q : VK} (h : Q (.int i) H) : rInt [.int i] H Q := Or.inl ⟨i, rfl, h⟩
def rAbs : List V → Hp → VK → Prop := fun xs H Q => ∃ i, xs = [.int i] ∧ Q (.int (if i < 0 then -i else i)) H
theorem c_abs {X : Cx} : CallR X (.builtin "abs") rAbs := call_abs
theorem rAbs_ {i : Int} {H : Hp} {Q : VK} (h : Q (.int (if i < 0 then -i else i)) H) : rAbs [.int i] H Q := ⟨i, rfl, h⟩
def rStr : List V → Hp → VK → Prop := fun xs H Q => ∃ i : Int, xs = [.int i] ∧ i.natAbs.log2 < 1920 ∧ Q (.str (toString i)) H
theorem c_str {X : Cx} : CallR X (.type "str") rStr := call_str_int
theorem rStr_ {i : Int} {H : Hp} {Q : VK} (l : i.natAbs.log2 < 1920) (h : Q (.str (toString i)) H) : rStr [.int i] H Q := ⟨i, rfl, l, h⟩
def rLenStr : List V → Hp → VK → Prop := fun xs H Q => ∃ z : Str, xs = [.str z] ∧ z.length ≤ sizeLine ∧ Q (.int z.length) H
theorem c_lenStr {X : Cx} : CallR X (.builtin "len") rLenStr := call_len_str
theorem rLenStr_ {z : Str} {H : Hp} {Q : VK} (l : z.length ≤ sizeLine) (h : Q (.int z.length) H) : rLenStr [.str z] H Q := ⟨z, rfl, l, h⟩
def rLen (K : PySem.W.Frag) : List V → Hp → VK → Prop := fun xs H Q => ∃ p ys, xs = [.ref p] ∧ (SqL K H p ys ∨ SqT K H p ys) ∧ Q (.int ys.length) H
theorem c_len {X : Cx} : CallR X (.builtin "len") (rLen X.K) := call_len_seq
theorem rLenL {K : PySem.W.Frag} {a : Addr} {ys : List V} {H : Hp} {Q : VK} (h1 : SqL K H a ys) (h : Q (.int ys.length) H) : rLen K [.ref a] H Q := ⟨a, ys, rfl, Or.inl h1, h⟩
theorem rLenT {K : PySem.W.Frag} {a : Addr} {ys : List V} {H : Hp} {Q : VK} (h1 : SqT K H a ys) (h : Q (.int ys.length) H) : rLen K [.ref a] H Q := ⟨a, ys, rfl, Or.inr h1, h⟩
theorem rSub {to ti : TE} {t : TSet} {v : V} {σ : L2.St} {H : Hp} {Q : L2.St → Hp → Prop} (h : to σ H fun o H1 => ti σ H1 fun i H2 => t o i v H2 fun H3 => Q σ H3) : gSub to ti t v σ H Q := h
theorem rSetL_ {a : Addr} {xs : List V} {k : Int} {j : Nat} {v : V} {H : Hp} {Q : Hp → Prop} (h1 : H a = some (.lst xs)) (h2 : ixN xs.length k = some j) (h : Q (upd H a (.lst (xs.set j v)))) : rSetL (.ref a) (.int k) v H Q := ⟨a, xs, k, j, rfl, rfl, h1, h2, h⟩
theorem rAppend_ {a : Addr} {xs : List V} {y : V} {H : Hp} {Q : VK} (h1 : H a = some (.lst xs)) (l : xs.length < sizeLine) (h : Q .non (upd H a (.lst (xs ++ [y])))) : rAppend (.ref a) [y] H Q := ⟨a, xs, y, rfl, rfl, h1, l, h⟩
theorem rBM {K : PySem.W.Frag} {T : String} {r : V → List V → Hp → VK → Prop} {to : TE} {t : TA} {σ : L2.St} {H : Hp} {Q : VK} (h : to σ H fun x H1 => tyV K T x H1 ∧ t σ H1 fun xs H2 => r x xs H2 Q) : tBM K T r to t σ H Q := h
theorem tyL {K : PySem.W.Frag} {a : Addr} {xs : List V} {H : Hp} {R : Prop} (h1 : SqL K H a xs) (h : R) : tyV K "list" (.ref a) H ∧ R := ⟨Or.inl ⟨rfl, _, h1⟩, h⟩
theorem sqW (x : Int) {m : Int} (h0 : 0 < m) (h : m ≤ 2147483647) : CMulW (x % m) (x % m) := by
  have h1 := Int.emod_nonneg x (Int.ne_of_gt h0)
  have h2 := Int.emod_lt_of_pos x h0
  have h3 : (x % m).natAbs < 2 ^ 31 := by omega
  exact wide_mul h3 h3 (by decide) (by decide) (by decide)
theorem rSl {r : V → Option Int → Option Int → Hp → VK → Prop} {te : TE} {tl th : TO} {σ : L2.St} {H : Hp} {Q : VK} (h : te σ H fun x H1 => tl σ H1 fun l H2 => th σ H2 fun u H3 => r x l u H3 Q) : tSl r te tl th σ H Q := h
theorem rNoPart {σ : L2.St} {H : Hp} {Q : Option Int → Hp → Prop} (h : Q none H) : tNoPart σ H Q := h
theorem rPart {t : TE} {σ : L2.St} {H : Hp} {Q : Option Int → Hp → Prop} (h : t σ H fun x H1 => ∃ i, x = .int i ∧ Q (some i) H1) : tPart t σ H Q := h
theorem rInI {i : Int} {R : Int → Prop} (h : R i) : ∃ j, V.int i = .int j ∧ R j := ⟨i, rfl, h⟩
theorem rSlL_ {K : PySem.W.Frag} {a : Addr} {xs : List V} {lo hi : Option Int} {H : Hp} {Q : VK} (h1 : SqL K H a xs) (h : ∀ p, H p = none → Q (.ref p) (upd H p (.lst (cutV xs lo hi)))) : rSlL K (.ref a) lo hi H Q := ⟨a, xs, rfl, h1, h⟩
theorem cut_mem {xs : List V} {lo hi : Option Int} {v : V} (h : v ∈ cutV xs lo hi) : v ∈ xs := List.mem_of_mem_drop (List.mem_of_mem_take h)
theorem cut_int {ns : List Int} {lo hi : Option Int} {i : Nat} {v : V} (h : (cutV (ns.map V.int) lo hi)[i]? = some v) : ∃ u, v = .int u := by
  have h1 := cut_mem (List.mem_of_getElem? h)
  obtain ⟨u, _, e⟩ := List.mem_map.mp h1
  exact ⟨u, e.symm⟩
theorem at_map {ns : List Int} {j : Nat} (h : j < ns.length) : atI (ns.map V.int) (j : Int) = some (.int ns[j]) := atI_nat (by
  rw [List.getElem?_map, List.getElem?_eq_getElem h]
  rfl)
/-! ### loops -/
section
variable {σ : L2.St} {H : Hp} {D : Ends} {g : TG} {tb : TS} {K : PySem.W.Frag}
theorem rFor {wi : TI} (h : wi σ H fun J H1 => ∃ W : Nat → Nat → L2.St → Hp → Prop, (∃ m, W 0 m σ H1) ∧ ∀ i m σ H, W i m σ H →
  (J.stop i H ∧ D.nx σ H) ∨ (J.go i H ∧ ∃ N : L2.St → Hp → Prop, (∀ σ' H', N σ' H' → ∃ m', m' < m ∧ W (i + 1) m' σ' H') ∧ ∀ x H', J.yld i H x H' → g x σ H' fun σ2 H2 => tb { D with nx := N, ct := N, bk := D.nx } σ2 H2)) : tFor wi g tb D σ H := h
theorem rRng1 {ta : TA} {R : It → Hp → Prop} (h : ta σ H fun vs H1 => ∃ j : Int, vs = [.int j] ∧ -(2 ^ 62) ≤ j ∧ j < 2 ^ 62 ∧ R (Itr 0 j.toNat) H1) : iRng1 ta σ H R := h
theorem rRng2 {ta : TA} {R : It → Hp → Prop} (h : ta σ H fun vs H1 => ∃ i j : Int, vs = [.int i, .int j] ∧ (-(2 ^ 62) ≤ i ∧ i < 2 ^ 62 ∧ -(2 ^ 62) ≤ j ∧ j < 2 ^ 62) ∧ R (Itr i (j - i).toNat) H1) : iRng2 ta σ H R := h
theorem rLst1 {tl : TE} {R : It → Hp → Prop} (h : tl σ H fun x H1 => ∃ a, x = .ref a ∧ (∃ xs, SqL K H1 a xs) ∧ R (Itl K a) H1) : iList K tl σ H R := h
theorem rTup1 {tl : TE} {R : It → Hp → Prop} (h : tl σ H fun x H1 => ∃ a, x = .ref a ∧ (∃ xs, SqT K H1 a xs) ∧ R (Itt K a) H1) : iTup K tl σ H R := h
/-- a loop over range(j), the turn's number an int -/
theorem forR {j : Int} (n : Nat) (e : j.toNat = n) (Pv : Nat → L2.St → Hp → Prop) (b : -(2 ^ 62) ≤ j ∧ j < 2 ^ 62) (h0 : Pv 0 σ H)
    (hs : ∀ i σ H, i < n → Pv i σ H → g (.int (i : Int)) σ H fun σ2 H2 => tb ⟨Pv (i + 1), D.rt, D.nx, Pv (i + 1)⟩ σ2 H2) (hd : ∀ σ H, Pv n σ H → D.nx σ H) :
    ∃ j', [V.int j] = [V.int j'] ∧ -(2 ^ 62) ≤ j' ∧ j' < 2 ^ 62 ∧ ∃ W : Nat → Nat → L2.St → Hp → Prop, (∃ m, W 0 m σ H) ∧ ∀ i m σ H, W i m σ H →
      ((Itr 0 j'.toNat).stop i H ∧ D.nx σ H) ∨ ((Itr 0 j'.toNat).go i H ∧ ∃ N : L2.St → Hp → Prop, (∀ σ' H', N σ' H' → ∃ m', m' < m ∧ W (i + 1) m' σ' H') ∧ ∀ x H', (Itr 0 j'.toNat).yld i H x H' → g x σ H' fun σ2 H2 => tb { D with nx := N, ct := N, bk := D.nx } σ2 H2) := by
  subst e
  refine ⟨j, rfl, b.1, b.2, for_range (lo := 0) (n := j.toNat) Pv h0 (fun i σ H hi p => ?_) hd⟩
  have e : (0 : Int) + (i : Int) = (i : Int) := Int.zero_add _
  rw [e]
  exact hs i σ H hi p
/-- a loop over a list that stands still -/
theorem forL {a : Addr} {xs : List V} (Pv : Nat → L2.St → Hp → Prop) (hx : SqL K H a xs) (h0 : Pv 0 σ H) (hl : ∀ i σ H, i ≤ xs.length → Pv i σ H → SqL K H a xs)
    (hs : ∀ i x σ H, xs[i]? = some x → Pv i σ H → g x σ H fun σ2 H2 => tb ⟨Pv (i + 1), D.rt, D.nx, Pv (i + 1)⟩ σ2 H2) (hd : ∀ σ H, Pv xs.length σ H → D.nx σ H) :
    ∃ a', V.ref a = V.ref a' ∧ (∃ xs, SqL K H a' xs) ∧ ∃ W : Nat → Nat → L2.St → Hp → Prop, (∃ m, W 0 m σ H) ∧ ∀ i m σ H, W i m σ H →
      ((Itl K a').stop i H ∧ D.nx σ H) ∨ ((Itl K a').go i H ∧ ∃ N : L2.St → Hp → Prop, (∀ σ' H', N σ' H' → ∃ m', m' < m ∧ W (i + 1) m' σ' H') ∧ ∀ x H', (Itl K a').yld i H x H' → g x σ H' fun σ2 H2 => tb { D with nx := N, ct := N, bk := D.nx } σ2 H2) :=
  ⟨a, rfl, ⟨xs, hx⟩, for_list Pv h0 hl hs hd⟩
theorem forT {a : Addr} {xs : List V} (Pv : Nat → L2.St → Hp → Prop) (hx : SqT K H a xs) (h0 : Pv 0 σ H) (hl : ∀ i σ H, i ≤ xs.length → Pv i σ H → SqT K H a xs)
    (hs : ∀ i x σ H, xs[i]? = some x → Pv i σ H → g x σ H fun σ2 H2 => tb ⟨Pv (i + 1), D.rt, D.nx, Pv (i + 1)⟩ σ2 H2) (hd : ∀ σ H, Pv xs.length σ H → D.nx σ H) :
    ∃ a', V.ref a = V.ref a' ∧ (∃ xs, SqT K H a' xs) ∧ ∃ W : Nat → Nat → L2.St → Hp → Prop, (∃ m, W 0 m σ H) ∧ ∀ i m σ H, W i m σ H →
      ((Itt K a').stop i H ∧ D.nx σ H) ∨ ((Itt K a').go i H ∧ ∃ N : L2.St → Hp → Prop, (∀ σ' H', N σ' H' → ∃ m', m' < m ∧ W (i + 1) m' σ' H') ∧ ∀ x H', (Itt K a').yld i H x H' → g x σ H' fun σ2 H2 => tb { D with nx := N, ct := N, bk := D.nx } σ2 H2) :=
  ⟨a, rfl, ⟨xs, hx⟩, for_tup Pv h0 hl hs hd⟩
end
/-! ### isinstance, is None -/
theorem kit_int_int : kitB "int" "int" = some true := by decide +kernel
theorem kit_int_bool : kitB "int" "bool" = some false := by decide +kernel
theorem kit_int_str : kitB "int" "str" = some false := by decide +kernel
theorem kit_int_list : kitB "int" "list" = some false := by decide +kernel
theorem kit_int_tuple : kitB "int" "tuple" = some false := by decide +kernel
theorem kit_bool_int : kitB "bool" "int" = some true := by decide +kernel
theorem kit_bool_bool : kitB "bool" "bool" = some true := by decide +kernel
theorem kit_bool_str : kitB "bool" "str" = some false := by decide +kernel
theorem kit_bool_list : kitB "bool" "list" = some false := by decide +kernel
theorem kit_bool_tuple : kitB "bool" "tuple" = some false := by decide +kernel
theorem kit_str_int : kitB "str" "int" = some false := by decide +kernel
theorem kit_str_bool : kitB "str" "bool" = some false := by decide +kernel
theorem kit_str_str : kitB "str" "str" = some true := by decide +kernel
theorem kit_str_list : kitB "str" "list" = some false := by decide +kernel
theorem kit_str_tuple : kitB "str" "tuple" = some false := by decide +kernel
theorem kit_list_int : kitB "list" "int" = some false := by decide +kernel
theorem kit_list_bool : kitB "list" "bool" = some false := by decide +kernel
theorem kit_list_str : kitB "list" "str" = some false := by decide +kernel
theorem kit_list_list : kitB "list" "list" = some true := by decide +kernel
theorem kit_list_tuple : kitB "list" "tuple" = some false := by decide +kernel
theorem kit_tuple_int : kitB "tuple" "int" = some false := by decide +kernel
theorem kit_tuple_bool : kitB "tuple" "bool" = some false := by decide +kernel
theorem kit_tuple_str : kitB "tuple" "str" = some false := by decide +kernel
theorem kit_tuple_list : kitB "tuple" "list" = some false := by decide +kernel
theorem kit_tuple_tuple : kitB "tuple" "tuple" = some true := by decide +kernel
theorem kit_NoneType_int : kitB "NoneType" "int" = some false := by decide +kernel
theorem kit_NoneType_bool : kitB "NoneType" "bool" = some false := by decide +kernel
theorem kit_NoneType_str : kitB "NoneType" "str" = some false := by decide +kernel
theorem kit_NoneType_list : kitB "NoneType" "list" = some false := by decide +kernel
theorem kit_NoneType_tuple : kitB "NoneType" "tuple" = some false := by decide +kernel
section
variable {X : Cx} {K : PySem.W.Frag} {H : Hp} {Q : VK} {b : String} {r : Bool} {σ : L2.St}
theorem isiTy {x : V} {a : String} (t : TyX K H x (.type a)) (h : kitB a b = some r) (q : Q (.bl r) H) : rIsi K [x, .ty b] H Q := ⟨x, .ty b, _, _, r, rfl, .ty b, t, kit_ty h, q⟩
theorem isiI {i : Int} (h : kitB "int" b = some r) (q : Q (.bl r) H) : rIsi K [.int i, .ty b] H Q := isiTy (.base (.int i)) h q
theorem isiB {i : Bool} (h : kitB "bool" b = some r) (q : Q (.bl r) H) : rIsi K [.bl i, .ty b] H Q := isiTy (.base (.bl i)) h q
theorem isiS {i : Str} (h : kitB "str" b = some r) (q : Q (.bl r) H) : rIsi K [.str i, .ty b] H Q := isiTy (.base (.str i)) h q
theorem isiN (h : kitB "NoneType" b = some r) (q : Q (.bl r) H) : rIsi K [.non, .ty b] H Q := isiTy (.base .non) h q
theorem isiL {a : Addr} {xs : List V} (e : H a = some (.lst xs)) (h : kitB "list" b = some r) (q : Q (.bl r) H) : rIsi K [.ref a, .ty b] H Q := isiTy (.base (.lst e)) h q
theorem isiT {a : Addr} {xs : List V} (e : H a = some (.tup xs)) (h : kitB "tuple" b = some r) (q : Q (.bl r) H) : rIsi K [.ref a, .ty b] H Q := isiTy (.base (.tup e)) h q
def rIsNone : R2 := fun x y H Q => y = .non ∧ Q (.bl (decide (x = .non))) H
def rNotNone : R2 := fun x y H Q => y = .non ∧ Q (.bl (!decide (x = .non))) H
theorem o_isN : OpR X (compareOp .Is) rIsNone := op_isN
theorem o_notN : OpR X (compareOp .IsNot) rNotNone := op_notN
theorem rIsN_n (q : Q (.bl true) H) : rIsNone .non .non H Q := ⟨rfl, q⟩
theorem rIsN_i {i : Int} (q : Q (.bl false) H) : rIsNone (.int i) .non H Q := ⟨rfl, q⟩
theorem rIsN_b {i : Bool} (q : Q (.bl false) H) : rIsNone (.bl i) .non H Q := ⟨rfl, q⟩
theorem rIsN_s {i : Str} (q : Q (.bl false) H) : rIsNone (.str i) .non H Q := ⟨rfl, q⟩
theorem rIsN_r {i : Addr} (q : Q (.bl false) H) : rIsNone (.ref i) .non H Q := ⟨rfl, q⟩
theorem rNoN_n (q : Q (.bl false) H) : rNotNone .non .non H Q := ⟨rfl, q⟩
theorem rNoN_i {i : Int} (q : Q (.bl true) H) : rNotNone (.int i) .non H Q := ⟨rfl, q⟩
theorem rNoN_b {i : Bool} (q : Q (.bl true) H) : rNotNone (.bl i) .non H Q := ⟨rfl, q⟩
theorem rNoN_s {i : Str} (q : Q (.bl true) H) : rNotNone (.str i) .non H Q := ⟨rfl, q⟩
theorem rNoN_r {i : Addr} (q : Q (.bl true) H) : rNotNone (.ref i) .non H Q := ⟨rfl, q⟩
theorem rIxSL {a : Addr} {xs : List V} {i : Int} {v : V} (h1 : H a = some (.lst xs)) (h2 : atI xs i = some v) (h : Q v H) : rIx K (.ref a) (.int i) H Q := .inl ⟨a, xs, i, v, rfl, rfl, SqL.of h1, h2, h⟩
theorem rIxST {a : Addr} {xs : List V} {i : Int} {v : V} (h1 : H a = some (.tup xs)) (h2 : atI xs i = some v) (h : Q v H) : rIx K (.ref a) (.int i) H Q := .inr (.inl ⟨a, xs, i, v, rfl, rfl, SqT.of h1, h2, h⟩)
theorem rEqS {s : Str} (q : Q (.bl true) H) : rEq (.str s) (.str s) H Q := ⟨rfl, by
  rw [decide_eq_true rfl]
  exact q⟩
theorem fn_false {P : Program} {w : World} {mg : Str → Option Value} {base : Heap} {k : Nat} {f : Addr} {fd : FuncData} {ps : List Str} {sp : Sp} (h : ∀ vs H Q E, ¬ sp vs H Q E) : FnOk P w K mg base CX0 k f fd ps sp :=
  ⟨fun _ _ _ _ q => (h _ _ _ _ q).elim, fun _ _ _ _ _ _ _ _ _ _ _ _ _ q => (h _ _ _ _ q).elim⟩
end
/-! ### the steps that ask nothing, found by their form -/
class Rd (p : Prop) (q : outParam Prop) : Prop where
  imp : q → p
theorem rd {p q : Prop} [h : Rd p q] (x : q) : p := h.imp x
/-- what stands in a slot -/
class At (σ : L2.St) (i : Nat) (v : outParam V) : Prop where
  eq : σ[i]? = some (some v)
instance {v : V} {σ : L2.St} : At (some v :: σ) 0 v := ⟨rfl⟩
instance {v : V} {a : Option V} {σ : L2.St} {i : Nat} [h : At σ i v] : At (a :: σ) (i + 1) v := ⟨h.eq⟩
class Put (σ : L2.St) (i : Nat) (v : V) (τ : outParam L2.St) : Prop where
  eq : σ.set i (some v) = τ
instance {v : V} {a : Option V} {σ : L2.St} : Put (a :: σ) 0 v (some v :: σ) := ⟨rfl⟩
instance {v : V} {a : Option V} {σ τ : L2.St} {i : Nat} [h : Put σ i v τ] : Put (a :: σ) (i + 1) v (a :: τ) := ⟨congrArg (List.cons a) h.eq⟩
section
variable {D : Ends} {σ τ : L2.St} {H : Hp} {Q : VK} {QB : Bool → Hp → Prop} {QL : List V → Hp → Prop} {QS : L2.St → Hp → Prop} {QI : It → Hp → Prop} {QO : Option Int → Hp → Prop} {t u : TS} {te ta tb tc : TE} {tt tu : TT} {g : TG} {v x y : V} {i j : Int} {n : Nat} {K : PySem.W.Frag}
instance : Rd (tSeq t u D σ H) (t ⟨u D, D.rt, D.bk, D.ct⟩ σ H) := ⟨fun h => h⟩
instance : Rd (tNext D σ H) (D.nx σ H) := ⟨fun h => h⟩
instance : Rd (tBreak D σ H) (D.bk σ H) := ⟨fun h => h⟩
instance : Rd (tCont D σ H) (D.ct σ H) := ⟨fun h => h⟩
instance {f b c : L2.St → Hp → Prop} {r : VK} : Rd (Ends.nx ⟨f, r, b, c⟩ σ H) (f σ H) := ⟨fun h => h⟩
instance {f b c : L2.St → Hp → Prop} {r : VK} : Rd (Ends.ct ⟨f, r, b, c⟩ σ H) (c σ H) := ⟨fun h => h⟩
instance {f b c : L2.St → Hp → Prop} {r : VK} : Rd (Ends.bk ⟨f, r, b, c⟩ σ H) (b σ H) := ⟨fun h => h⟩
instance {f b c : L2.St → Hp → Prop} {r : VK} : Rd (Ends.rt ⟨f, r, b, c⟩ v H) (r v H) := ⟨fun h => h⟩
instance : Rd (tAsg te g D σ H) (te σ H fun x H1 => g x σ H1 D.nx) := ⟨fun h => h⟩
instance : Rd (tDrop te D σ H) (te σ H fun _ H1 => D.nx σ H1) := ⟨fun h => h⟩
instance : Rd (tRet te D σ H) (te σ H D.rt) := ⟨fun h => h⟩
instance : Rd (tRetN D σ H) (D.rt .non H) := ⟨fun h => h⟩
instance : Rd (tIfS tt t u D σ H) (tt σ H fun b H1 => if b = true then t D σ H1 else u D σ H1) := ⟨fun h => h⟩
instance [h : At σ n v] : Rd (tVar n σ H Q) (Q v H) := ⟨fun q => ⟨v, h.eq, q⟩⟩
instance [h : Put σ n v τ] : Rd (gName n v σ H QS) (QS τ H) := ⟨fun q => by rw [← h.eq] at q; exact q⟩
instance : Rd (tC v σ H Q) (Q v H) := ⟨fun h => h⟩
instance {r : R2} : Rd (tOp r ta tb σ H Q) (ta σ H fun x H1 => tb σ H1 fun y H2 => r x y H2 Q) := ⟨fun h => h⟩
instance {r : V → Hp → VK → Prop} : Rd (tUn r ta σ H Q) (ta σ H fun x H1 => r x H1 Q) := ⟨fun h => h⟩
instance {f : Int → Int → V} : Rd (rI0 f (.int i) (.int j) H Q) (Q (f i j) H) := ⟨rI0_⟩
instance {f : Int → V} : Rd (rU f (.int i) H Q) (Q (f i) H) := ⟨rU_⟩
instance : Rd (rEq (.int i) (.int j) H Q) (Q (.bl (decide (i = j))) H) := ⟨rEqI⟩
instance : Rd (rNe (.int i) (.int j) H Q) (Q (.bl (!decide (i = j))) H) := ⟨rNeI⟩
instance {a b : Bool} : Rd (rEq (.bl a) (.bl b) H Q) (Q (.bl (a == b)) H) := ⟨rEqBl⟩
instance {a b : Bool} : Rd (rNe (.bl a) (.bl b) H Q) (Q (.bl (!(a == b))) H) := ⟨rNeBl⟩
instance {s : Str} : Rd (rEq (.str s) (.str s) H Q) (Q (.bl true) H) := ⟨rEqS⟩
instance : Rd (tTest te σ H QB) (te σ H fun x H' => ∃ k, x = .bl k ∧ QB k H') := ⟨fun h => h⟩
instance : Rd (tB te σ H QB) (te σ H fun x H' => ∃ k, x = .bl k ∧ QB k H') := ⟨fun h => h⟩
instance {b : Bool} {P : Bool → Prop} : Rd (∃ k, V.bl b = .bl k ∧ P k) (P b) := ⟨rBl⟩
instance {P : Int → Prop} : Rd (∃ k, V.int i = .int k ∧ P k) (P i) := ⟨rInI⟩
instance : Rd (tNot tt σ H QB) (tt σ H fun c H1 => QB (!c) H1) := ⟨fun h => h⟩
instance : Rd (tAnd tt tu σ H QB) (tt σ H fun c H1 => if c = true then tu σ H1 QB else QB false H1) := ⟨fun h => h⟩
instance : Rd (tOr tt tu σ H QB) (tt σ H fun c H1 => if c = true then QB true H1 else tu σ H1 QB) := ⟨fun h => h⟩
instance : Rd (tAndV ta tb σ H Q) (ta σ H fun x H1 => ∃ c, x = .bl c ∧ if c = true then tb σ H1 Q else Q (.bl false) H1) := ⟨fun h => h⟩
instance : Rd (tOrV ta tb σ H Q) (ta σ H fun x H1 => ∃ c, x = .bl c ∧ if c = true then Q (.bl true) H1 else tb σ H1 Q) := ⟨fun h => h⟩
instance : Rd (tNotV ta σ H Q) (ta σ H fun x H1 => ∃ c, x = .bl c ∧ Q (.bl (!c)) H1) := ⟨fun h => h⟩
instance : Rd (tIf tt ta tb σ H Q) (tt σ H fun c H1 => if c = true then ta σ H1 Q else tb σ H1 Q) := ⟨fun h => h⟩
instance {r : List V → Hp → VK → Prop} {t : TA} : Rd (tCB r t σ H Q) (t σ H fun vs H1 => r vs H1 Q) := ⟨fun h => h⟩
instance : Rd (tNil σ H QL) (QL [] H) := ⟨fun h => h⟩
instance {t : TA} : Rd (tCons te t σ H QL) (te σ H fun x H1 => t σ H1 fun xs H2 => QL (x :: xs) H2) := ⟨fun h => h⟩
instance {t : TA} : Rd (tTup t σ H Q) (t σ H fun xs H1 => xs.length ≤ sizeLine ∧ ∀ p, H1 p = none → Q (.ref p) (upd H1 p (.tup xs))) := ⟨fun h => h⟩
instance {t : TA} : Rd (tLst t σ H Q) (t σ H fun xs H1 => xs.length ≤ sizeLine ∧ ∀ p, H1 p = none → Q (.ref p) (upd H1 p (.lst xs))) := ⟨fun h => h⟩
instance {sp : Sp} {dvs : List V} {E : XK} {t : TA} : Rd (tCall sp dvs E t σ H Q) (t σ H fun vs H1 => sp (vs ++ dvs) H1 Q E) := ⟨fun h => h⟩
instance {C : Addr} {sp : Sp} {dvs : List V} {E : XK} {t : TA} : Rd (tMake C sp dvs E t σ H Q) (t σ H fun vs H1 => ∀ x dx, H1 x = none → H1 dx = none → dx ≠ x → sp (.ref x :: (vs ++ dvs)) (upd (upd H1 dx (.own x)) x (.ins C dx [])) (fun v H2 => v = .non ∧ Q (.ref x) H2) E) := ⟨fun h => h⟩
instance {C : Addr} {m : Str} {sp : Sp} {dvs : List V} {E : XK} {t : TA} : Rd (tMeth C m sp dvs E ta t σ H Q) (ta σ H fun x H1 => ∃ a dx fs, x = .ref a ∧ H1 a = some (.ins C dx fs) ∧ fs.lookup m = none ∧ t σ H1 fun vs H2 => sp (x :: (vs ++ dvs)) H2 Q E) := ⟨fun h => h⟩
instance {f : Str} : Rd (tFld K te f σ H Q) (te σ H fun x H1 => ∃ a C dx fs v, x = .ref a ∧ H1 a = some (.ins C dx fs) ∧ Cls K C ∧ NoAttr K C f ∧ fs.lookup f = some v ∧ Q v H1) := ⟨fun h => h⟩
instance {f : Str} : Rd (sFld K ta te f D σ H) (te σ H fun y H1 => ta σ H1 fun x H2 => ∃ a C dx fs, x = .ref a ∧ H2 a = some (.ins C dx fs) ∧ Cls K C ∧ NoAttr K C f ∧ fs.length < 1000 ∧ D.nx σ (upd H2 a (.ins C dx (putF f y fs)))) := ⟨fun h => h⟩
instance {r r' : R2} : Rd (tChain r r' ta tb tc σ H Q) (ta σ H fun x H1 => tb σ H1 fun y H2 => r x y H2 fun z H3 => ∃ k, z = .bl k ∧ (if k = true then tc σ H3 fun w' H4 => r' y w' H4 Q else Q (.bl false) H3)) := ⟨fun h => h⟩
instance : Rd (rInt [.int i] H Q) (Q (.int i) H) := ⟨rInt_⟩
instance : Rd (rAbs [.int i] H Q) (Q (.int (if i < 0 then -i else i)) H) := ⟨rAbs_⟩
instance {to ti : TE} {t : TSet} : Rd (gSub to ti t v σ H QS) (to σ H fun o H1 => ti σ H1 fun i H2 => t o i v H2 fun H3 => QS σ H3) := ⟨fun h => h⟩
instance {T : String} {r : V → List V → Hp → VK → Prop} {to : TE} {t : TA} : Rd (tBM K T r to t σ H Q) (to σ H fun x H1 => tyV K T x H1 ∧ t σ H1 fun xs H2 => r x xs H2 Q) := ⟨fun h => h⟩
instance {T : String} {r : V → List V → Hp → VK → Prop} {to : TE} : Rd (tBM0 K T r to σ H Q) (to σ H fun x H1 => tyV K T x H1 ∧ r x [] H1 Q) := ⟨fun h => h⟩
instance {r : V → Option Int → Option Int → Hp → VK → Prop} {tl th : TO} : Rd (tSl r te tl th σ H Q) (te σ H fun x H1 => tl σ H1 fun l H2 => th σ H2 fun u H3 => r x l u H3 Q) := ⟨fun h => h⟩
instance : Rd (tNoPart σ H QO) (QO none H) := ⟨fun h => h⟩
instance : Rd (tPart te σ H QO) (te σ H fun x H1 => ∃ i, x = .int i ∧ QO (some i) H1) := ⟨fun h => h⟩
instance {wi : TI} : Rd (tFor wi g t D σ H) (wi σ H fun J H1 => ∃ W : Nat → Nat → L2.St → Hp → Prop, (∃ m, W 0 m σ H1) ∧ ∀ i m σ H, W i m σ H →
  (J.stop i H ∧ D.nx σ H) ∨ (J.go i H ∧ ∃ N : L2.St → Hp → Prop, (∀ σ' H', N σ' H' → ∃ m', m' < m ∧ W (i + 1) m' σ' H') ∧ ∀ x H', J.yld i H x H' → g x σ H' fun σ2 H2 => t { D with nx := N, ct := N, bk := D.nx } σ2 H2)) := ⟨fun h => h⟩
instance {ta : TA} : Rd (iRng1 ta σ H QI) (ta σ H fun vs H1 => ∃ j : Int, vs = [.int j] ∧ -(2 ^ 62) ≤ j ∧ j < 2 ^ 62 ∧ QI (Itr 0 j.toNat) H1) := ⟨fun h => h⟩
instance {ta : TA} : Rd (iRng2 ta σ H QI) (ta σ H fun vs H1 => ∃ i j : Int, vs = [.int i, .int j] ∧ (-(2 ^ 62) ≤ i ∧ i < 2 ^ 62 ∧ -(2 ^ 62) ≤ j ∧ j < 2 ^ 62) ∧ QI (Itr i (j - i).toNat) H1) := ⟨fun h => h⟩
instance : Rd (iList K te σ H QI) (te σ H fun x H1 => ∃ a, x = .ref a ∧ (∃ xs, SqL K H1 a xs) ∧ QI (Itl K a) H1) := ⟨fun h => h⟩
instance : Rd (iTup K te σ H QI) (te σ H fun x H1 => ∃ a, x = .ref a ∧ (∃ xs, SqT K H1 a xs) ∧ QI (Itt K a) H1) := ⟨fun h => h⟩
instance : Rd (rIsNone .non .non H Q) (Q (.bl true) H) := ⟨rIsN_n⟩
instance : Rd (rIsNone (.int i) .non H Q) (Q (.bl false) H) := ⟨rIsN_i⟩
instance {b : Bool} : Rd (rIsNone (.bl b) .non H Q) (Q (.bl false) H) := ⟨rIsN_b⟩
instance {b : Str} : Rd (rIsNone (.str b) .non H Q) (Q (.bl false) H) := ⟨rIsN_s⟩
instance {b : Addr} : Rd (rIsNone (.ref b) .non H Q) (Q (.bl false) H) := ⟨rIsN_r⟩
instance : Rd (rNotNone .non .non H Q) (Q (.bl false) H) := ⟨rNoN_n⟩
instance : Rd (rNotNone (.int i) .non H Q) (Q (.bl true) H) := ⟨rNoN_i⟩
instance {b : Bool} : Rd (rNotNone (.bl b) .non H Q) (Q (.bl true) H) := ⟨rNoN_b⟩
instance {b : Str} : Rd (rNotNone (.str b) .non H Q) (Q (.bl true) H) := ⟨rNoN_s⟩
instance {b : Addr} : Rd (rNotNone (.ref b) .non H Q) (Q (.bl true) H) := ⟨rNoN_r⟩
instance : Rd (rIsi K [.int i, .ty "int"] H Q) (Q (.bl true) H) := ⟨isiI kit_int_int⟩
instance : Rd (rIsi K [.int i, .ty "bool"] H Q) (Q (.bl false) H) := ⟨isiI kit_int_bool⟩
instance : Rd (rIsi K [.int i, .ty "str"] H Q) (Q (.bl false) H) := ⟨isiI kit_int_str⟩
instance : Rd (rIsi K [.int i, .ty "list"] H Q) (Q (.bl false) H) := ⟨isiI kit_int_list⟩
instance : Rd (rIsi K [.int i, .ty "tuple"] H Q) (Q (.bl false) H) := ⟨isiI kit_int_tuple⟩
instance {bb : Bool} : Rd (rIsi K [.bl bb, .ty "int"] H Q) (Q (.bl true) H) := ⟨isiB kit_bool_int⟩
instance {bb : Bool} : Rd (rIsi K [.bl bb, .ty "bool"] H Q) (Q (.bl true) H) := ⟨isiB kit_bool_bool⟩
instance {bb : Bool} : Rd (rIsi K [.bl bb, .ty "str"] H Q) (Q (.bl false) H) := ⟨isiB kit_bool_str⟩
instance {bb : Bool} : Rd (rIsi K [.bl bb, .ty "list"] H Q) (Q (.bl false) H) := ⟨isiB kit_bool_list⟩
instance {bb : Bool} : Rd (rIsi K [.bl bb, .ty "tuple"] H Q) (Q (.bl false) H) := ⟨isiB kit_bool_tuple⟩
instance {ss : Str} : Rd (rIsi K [.str ss, .ty "int"] H Q) (Q (.bl false) H) := ⟨isiS kit_str_int⟩
instance {ss : Str} : Rd (rIsi K [.str ss, .ty "bool"] H Q) (Q (.bl false) H) := ⟨isiS kit_str_bool⟩
instance {ss : Str} : Rd (rIsi K [.str ss, .ty "str"] H Q) (Q (.bl true) H) := ⟨isiS kit_str_str⟩
instance {ss : Str} : Rd (rIsi K [.str ss, .ty "list"] H Q) (Q (.bl false) H) := ⟨isiS kit_str_list⟩
instance {ss : Str} : Rd (rIsi K [.str ss, .ty "tuple"] H Q) (Q (.bl false) H) := ⟨isiS kit_str_tuple⟩
instance : Rd (rIsi K [.non, .ty "int"] H Q) (Q (.bl false) H) := ⟨isiN kit_NoneType_int⟩
instance : Rd (rIsi K [.non, .ty "bool"] H Q) (Q (.bl false) H) := ⟨isiN kit_NoneType_bool⟩
instance : Rd (rIsi K [.non, .ty "str"] H Q) (Q (.bl false) H) := ⟨isiN kit_NoneType_str⟩
instance : Rd (rIsi K [.non, .ty "list"] H Q) (Q (.bl false) H) := ⟨isiN kit_NoneType_list⟩
instance : Rd (rIsi K [.non, .ty "tuple"] H Q) (Q (.bl false) H) := ⟨isiN kit_NoneType_tuple⟩
theorem iteLit : True := trivial
instance {A B : Prop} {d : Decidable ((true) = true)} : Rd (@ite Prop ((true) = true) d A B) A := ⟨fun h => by rw [if_pos (show _ from by first | rfl | (intro z; cases z))]; exact h⟩
instance {A B : Prop} {d : Decidable ((false) = true)} : Rd (@ite Prop ((false) = true) d A B) B := ⟨fun h => by rw [if_neg (show _ from by first | rfl | (intro z; cases z))]; exact h⟩
instance {A B : Prop} {d : Decidable ((!true) = true)} : Rd (@ite Prop ((!true) = true) d A B) B := ⟨fun h => by rw [if_neg (show _ from by first | rfl | (intro z; cases z))]; exact h⟩
instance {A B : Prop} {d : Decidable ((!false) = true)} : Rd (@ite Prop ((!false) = true) d A B) A := ⟨fun h => by rw [if_pos (show _ from by first | rfl | (intro z; cases z))]; exact h⟩
instance {A B : Prop} {d : Decidable ((true == true) = true)} : Rd (@ite Prop ((true == true) = true) d A B) A := ⟨fun h => by rw [if_pos (show _ from by first | rfl | (intro z; cases z))]; exact h⟩
instance {A B : Prop} {d : Decidable ((!(true == true)) = true)} : Rd (@ite Prop ((!(true == true)) = true) d A B) B := ⟨fun h => by rw [if_neg (show _ from by first | rfl | (intro z; cases z))]; exact h⟩
instance {A B : Prop} {d : Decidable ((true == false) = true)} : Rd (@ite Prop ((true == false) = true) d A B) B := ⟨fun h => by rw [if_neg (show _ from by first | rfl | (intro z; cases z))]; exact h⟩
instance {A B : Prop} {d : Decidable ((!(true == false)) = true)} : Rd (@ite Prop ((!(true == false)) = true) d A B) A := ⟨fun h => by rw [if_pos (show _ from by first | rfl | (intro z; cases z))]; exact h⟩
instance {A B : Prop} {d : Decidable ((false == true) = true)} : Rd (@ite Prop ((false == true) = true) d A B) B := ⟨fun h => by rw [if_neg (show _ from by first | rfl | (intro z; cases z))]; exact h⟩
instance {A B : Prop} {d : Decidable ((!(false == true)) = true)} : Rd (@ite Prop ((!(false == true)) = true) d A B) A := ⟨fun h => by rw [if_pos (show _ from by first | rfl | (intro z; cases z))]; exact h⟩
instance {A B : Prop} {d : Decidable ((false == false) = true)} : Rd (@ite Prop ((false == false) = true) d A B) A := ⟨fun h => by rw [if_pos (show _ from by first | rfl | (intro z; cases z))]; exact h⟩
instance {A B : Prop} {d : Decidable ((!(false == false)) = true)} : Rd (@ite Prop ((!(false == false)) = true) d A B) B := ⟨fun h => by rw [if_neg (show _ from by first | rfl | (intro z; cases z))]; exact h⟩
end
end Bar

namespace Bar
open PySem PySem.W PySem.Calls PyProof.Rows
section
variable {prog : Program} {w : World} {A : Around} {E : Value → Shared → Prop} {s : Shared} {i : Int} {t : Tok} {x : Addr} {ob : Obj} {Q : Value → Shared → Prop}
theorem int_no_floordiv (hx : s.heap.get? x = some ob) (hd : ob.data = .plain) (h : Q .notImplemented s) : wpAny (model prog w) A (call (.builtin "int.__floordiv__") [.int i t, .ref x]) Q E s := by
  refine GQ.call_here PySem.F.slot_int_floordiv (typeIs_int _ _ _) PySem.F.entry_int_floordiv (PySem.F.args_int_floordiv_2 _ _) ?_
  obtain ⟨hp, g, d, tk, os⟩ := s
  obtain ⟨c, dd, dt, sl⟩ := ob
  simp only at hd
  subst hd
  wp_walk using AutoSeq1.wpAny_loadPart' hx
  exact h
theorem int_no_mod (hx : s.heap.get? x = some ob) (hd : ob.data = .plain) (h : Q .notImplemented s) : wpAny (model prog w) A (call (.builtin "int.__mod__") [.int i t, .ref x]) Q E s := by
  refine GQ.call_here PySem.F.slot_int_mod (typeIs_int _ _ _) PySem.F.entry_int_mod (PySem.F.args_int_mod_2 _ _) ?_
  obtain ⟨hp, g, d, tk, os⟩ := s
  obtain ⟨c, dd, dt, sl⟩ := ob
  simp only at hd
  subst hd
  wp_walk using AutoSeq1.wpAny_loadPart' hx
  exact h
theorem int_no_add (hx : s.heap.get? x = some ob) (hd : ob.data = .plain) (h : Q .notImplemented s) : wpAny (model prog w) A (call (.builtin "int.__add__") [.int i t, .ref x]) Q E s := by
  refine GQ.call_here PySem.F.slot_int_add (typeIs_int _ _ _) PySem.F.entry_int_add (PySem.F.args_int_add_2 _ _) ?_
  obtain ⟨hp, g, d, tk, os⟩ := s
  obtain ⟨c, dd, dt, sl⟩ := ob
  simp only at hd
  subst hd
  wp_walk using AutoSeq1.wpAny_loadPart' hx
  exact h
theorem int_no_mul (hx : s.heap.get? x = some ob) (hd : ob.data = .plain) (h : Q .notImplemented s) : wpAny (model prog w) A (call (.builtin "int.__mul__") [.int i t, .ref x]) Q E s := by
  refine GQ.call_here PySem.F.slot_int_mul (typeIs_int _ _ _) PySem.F.entry_int_mul (PySem.F.args_int_mul_2 _ _) ?_
  obtain ⟨hp, g, d, tk, os⟩ := s
  obtain ⟨c, dd, dt, sl⟩ := ob
  simp only at hd
  subst hd
  wp_walk using AutoSeq1.wpAny_loadPart' hx
  exact h
end
theorem fillsR {M : Model} {K : Frag} {C f : Addr} {h : Heap} {nm : String} {cd : ClassData} {rest : List Value} {fo : Option Value} (X : K.In h) (hc : clsIn K C = some cd) (hm : cd.mro = .ref C :: rest)
    (hfo : findIn K (.ref C) (PySem.dunder nm) = some fo) (ho : fo = none ∨ ∃ g : Addr, fo = some (.ref g)) (hr : findIn K (.ref C) (dunderR nm) = some (some (.ref f))) : Looks M h (fillsNumberSlot (.ref C) nm) true := by
  intro A Q E s k q
  unfold fillsNumberSlot
  refine wpAny_bind ((looks_clsIn X hc).andThen (f := fun cd => pure cd.mro) .now A _ E s k ?_)
  rw [hm, List.anyM_cons]
  refine wpAny_bind ?_
  show wpAny M A (List.anyM _ [PySem.dunder nm, dunderR nm]) _ _ _
  rw [List.anyM_cons]
  refine wpAny_bind (wpAny_bind (looks_findIn X hfo A _ E s k ?_))
  rcases ho with rfl | ⟨g, rfl⟩
  · dsimp only
    refine wpAny_pure ?_
    rw [if_neg (by simp), List.anyM_cons]
    refine wpAny_bind (wpAny_bind (looks_findIn X hr A _ E s k ?_))
    dsimp only
    rw [if_pos (show (!ownNameWrapper (.ref f) (dunderR nm)) = true from rfl)]
    refine wpAny_pure ?_
    rw [if_pos rfl]
    refine wpAny_pure ?_
    rw [if_pos rfl]
    exact wpAny_pure q
  · dsimp only
    rw [if_pos (show (!ownNameWrapper (.ref g) (PySem.dunder nm)) = true from rfl)]
    refine wpAny_pure ?_
    rw [if_pos rfl]
    refine wpAny_pure ?_
    rw [if_pos rfl]
    exact wpAny_pure q
theorem own_right {prog : Program} {w : World} {A : Around} {E : Value → Shared → Prop} {s : Shared} {K : Frag} {x C L f : Addr} {h₀ : Heap} {m : Str → Option Value} {ox : Obj} {od : Option Obj} {i : Int} {t : Tok} {op : Operator} {fo : Option Value} {idl : String} {Q : Value → Shared → Prop}
    (F : Fr h₀ L s.heap m) (X₀ : K.In h₀) (I : InstAt s.heap x ox C od) (hc : selfFirst K C = true) (hfo : findIn K (.ref C) (PySem.dunder op.info.2) = some fo) (ho : fo = none ∨ ∃ g : Addr, fo = some (.ref g))
    (hr : findIn K (.ref C) (dunderR op.info.2) = some (some (.ref f))) (hf : isFn K (.ref f) = true) (hsub : subIn K (.ref C) (.type "int") = some false)
    (fillsT : fillsNumberSlot (.type "int") op.info.2 = pure true) (slot : Slot "int" (PySem.dunder op.info.2) idl)
    (dec : ∀ Q' : Value → Shared → Prop, Q' .notImplemented s → wpAny (model prog w) A (call (.builtin idl) [.int i t, .ref x]) Q' E s)
    (h : wpAny (model prog w) A (call (.ref f) [.ref x, .int i t]) (PySem.W.CmpBack Q) E s) : wpAny (model prog w) A (binaryOp op (.int i t) (.ref x)) Q E s := by
  have X := X₀.keeps F.keep
  obtain ⟨cd, rest, hcd, hm⟩ := ksp_first hc
  rcases hi : op.info with ⟨sym, nm'⟩
  rw [hi] at hfo hr fillsT slot
  dsimp only at hfo hr fillsT slot
  have one := ksp_try X I hr hf h
  have two : wpAny (model prog w) A (tryMethod (.int i t) (PySem.dunder nm') (.ref x)) (fun r s' => r = none ∧ s' = s) E s :=
    wpAny_tryMethod_declines (typeIs_int _ _ _) slot (dec _ ⟨rfl, rfl, rfl⟩)
  obtain ⟨hh, g, d, tt, os⟩ := s
  have L2 : Looks (model prog w) hh (typeOf (.ref x)) (.ref C) := I.type
  have L3 : Looks (model prog w) hh (fillsNumberSlot (.ref C) nm') true := fillsR X hcd hm hfo ho hr
  have L5 : Looks (model prog w) hh (isSubtype (.ref C) (.type "int")) false := looks_subIn X hsub
  have hne : (Value.type "int" == Value.ref C) = false := Bool.eq_false_iff.mpr fun q => by cases beq_iff_eq.mp q
  have hpy : numberSlotInPython (.type "int") nm' = pure false := rfl
  simp only [binaryOp, hi]
  refine wpAny_holding (wpAny_bind ?_)
  unfold binaryOp1
  refine wpAny_bind (wpAny_typeOf (typeIs_int _ _ _) (wpAny_bind (L2.at (wpAny_bind (wpAny_of_eq fillsT ?_)))))
  simp only [hne, Bool.false_eq_true, if_false]
  refine wpAny_bind (L3.at ?_)
  simp only [Bool.and_self, if_true]
  refine wpAny_bind (L5.at ?_)
  simp only [Bool.false_eq_true, if_false, pure_bind, Bool.not_false, Bool.and_self, if_true, hpy]
  refine wpAny_bind (wpAny_mono two (fun r s1 hr1 => ?_) fun _ _ e => e)
  obtain ⟨rfl, rfl⟩ := hr1
  dsimp only
  refine wpAny_bind (wpAny_mono one (fun r s2 hr2 => ?_) fun _ _ e => e)
  obtain ⟨v, rfl, hq⟩ := hr2
  dsimp only
  exact wpAny_bind (wpAny_rule (wpAny_pure (wpAny_pure hq)))
end Bar

namespace Bar
open PySem L2
theorem relV_back {v : V} {u : Value} {Q : Value → Shared → Prop} {s : Shared} (r : RelV v u) (h : Q u s) : PySem.W.CmpBack Q u s := by
  cases v with
  | non => cases (show u = Value.none from r); exact h
  | bl b => cases (show u = Value.bool b from r); exact h
  | int i => obtain ⟨t, rfl⟩ := (show ∃ t, u = Value.int i t from r); exact h
  | str i => obtain ⟨t, rfl⟩ := (show ∃ t, u = Value.str i t from r); exact h
  | byt i => obtain ⟨t, rfl⟩ := (show ∃ t, u = Value.bytes i t from r); exact h
  | flt i => obtain ⟨t, rfl⟩ := (show ∃ t, u = Value.float i t from r); exact h
  | ref i => cases (show u = Value.ref i from r); exact h
  | ty n => cases (show u = Value.type n from r); exact h
def oi (op : Operator) : String := op.info.2
/-- what the written part says of an own operator beside an int -/
structure OwnL (K : PySem.W.Frag) (C : Addr) (op : Operator) (f : Addr) : Prop where
  sf : PySem.W.selfFirst K C = true
  find : PySem.W.findIn K (.ref C) (PySem.dunder op.info.2) = some (some (.ref f))
  fn : PySem.W.isFn K (.ref f) = true
  rr : ∃ rc, PySem.W.findIn K (.ref C) (dunderR op.info.2) = some rc ∧ (rc = none ∨ ∃ g : Addr, rc = some (.ref g))
  i1 : ∃ fo, PySem.W.findIn K (.type "int") (PySem.dunder op.info.2) = some fo
  i2 : ∃ ro, PySem.W.findIn K (.type "int") (dunderR op.info.2) = some ro
  sub : PySem.W.subIn K (.type "int") (.ref C) = some false
structure OwnR (K : PySem.W.Frag) (C : Addr) (op : Operator) (f : Addr) : Prop where
  sf : PySem.W.selfFirst K C = true
  find : PySem.W.findIn K (.ref C) (dunderR op.info.2) = some (some (.ref f))
  fn : PySem.W.isFn K (.ref f) = true
  ll : ∃ rc, PySem.W.findIn K (.ref C) (PySem.dunder op.info.2) = some rc ∧ (rc = none ∨ ∃ g : Addr, rc = some (.ref g))
  sub : PySem.W.subIn K (.ref C) (.type "int") = some false
/-- how an int declines -/
structure IntNo (op : Operator) : Prop where
  fills : fillsNumberSlot (.type "int") op.info.2 = pure true
  ex : ∃ idl, Slot "int" (PySem.dunder op.info.2) idl ∧ ∀ {prog : Program} {w : World} {A : Around} {E : Value → Shared → Prop} {s : Shared} {i : Int} {t : Tok} {x : Addr} {ob : Obj} {Q : Value → Shared → Prop}, s.heap.get? x = some ob → ob.data = .plain → Q .notImplemented s →
    wpAny (model prog w) A (call (.builtin idl) [.int i t, .ref x]) Q E s
theorem no_floordiv : IntNo .FloorDiv := ⟨PySem.F.fills_int_floordiv, _, PySem.F.slot_int_floordiv, fun hx hd h => int_no_floordiv hx hd h⟩
theorem no_mod : IntNo .Mod := ⟨PySem.F.fills_int_mod, _, PySem.F.slot_int_mod, fun hx hd h => int_no_mod hx hd h⟩
theorem no_add : IntNo .Add := ⟨PySem.F.fills_int_add, _, PySem.F.slot_int_add, fun hx hd h => int_no_add hx hd h⟩
theorem no_mul : IntNo .Mult := ⟨PySem.F.fills_int_mul, _, PySem.F.slot_int_mul, fun hx hd h => int_no_mul hx hd h⟩
/-- o op n, n op o -/
def rOwnL (C : Addr) (sp : Sp) : R2 := fun x y H Q => ∃ a dx fs i, x = .ref a ∧ y = .int i ∧ H a = some (.ins C dx fs) ∧ sp [x, y] H Q E0
def rOwnR (C : Addr) (sp : Sp) : R2 := fun x y H Q => ∃ a dx fs i, y = .ref a ∧ x = .int i ∧ H a = some (.ins C dx fs) ∧ sp [y, x] H Q E0
structure OprL (P : Program) (w : World) (K : PySem.W.Frag) (mg : Str → Option Value) (base : Heap) (C : Addr) (op : Operator) (ps : List Str) (k : Nat) (sp : Sp) : Prop where
  ex : ∃ (f : Addr) (fd : FuncData), OwnL K C op f ∧ Binds K fd ps [] ∧ FnOk P w K mg base CX0 k f fd ps sp
structure OprR (P : Program) (w : World) (K : PySem.W.Frag) (mg : Str → Option Value) (base : Heap) (C : Addr) (op : Operator) (ps : List Str) (k : Nat) (sp : Sp) : Prop where
  ex : ∃ (f : Addr) (fd : FuncData), OwnR K C op f ∧ Binds K fd ps [] ∧ FnOk P w K mg base CX0 k f fd ps sp
section
variable {X : Cx} {C f : Addr} {ps : List Str} {k : Nat} {sp : Sp} {op : Operator}
theorem op_L (F : OprL X.prog X.w X.K X.mg X.base C op ps k sp) (hr : Room k X.A) : OpR X (binaryOp op) (rOwnL C sp) := by
  intro pins s σ H x y v u Q I rx ry h
  obtain ⟨f, fd, O, hb, ok⟩ := F.ex
  obtain ⟨a, dx, fs, i, rfl, rfl, ea, q⟩ := h
  obtain rfl : v = Value.ref a := rx
  obtain ⟨t, rfl⟩ := (show ∃ t, u = Value.int i t from ry)
  obtain ⟨mA, O', _⟩ := ins_get I.hok ea
  obtain ⟨od, J, _⟩ := O'.look
  obtain ⟨m, Fr⟩ := I.fr
  obtain ⟨rc, hrc, hp⟩ := O.rr
  obtain ⟨fo, h1⟩ := O.i1
  obtain ⟨ro, h2⟩ := O.i2
  refine PySem.W.ksp_binT Fr I.mod.kin J rfl O.sf O.find O.fn hrc hp h1 h2 O.sub ?_
  refine thn (run_fn (us := [.ref a, .int i t]) (vs := [.ref a, .int i]) ok hr hb .nil pass0 I (.cons rfl (.cons ⟨t, rfl⟩ .nil)) q) fun u' s' hq => ?_
  obtain ⟨v', H', I', rv, hv⟩ := hq
  exact relV_back rv ⟨v', H', I', rv, hv⟩
theorem op_R (F : OprR X.prog X.w X.K X.mg X.base C op ps k sp) (N : IntNo op) (hr : Room k X.A) : OpR X (binaryOp op) (rOwnR C sp) := by
  intro pins s σ H x y v u Q I rx ry h
  obtain ⟨f, fd, O, hb, ok⟩ := F.ex
  obtain ⟨a, dx, fs, i, rfl, rfl, ea, q⟩ := h
  obtain rfl : u = Value.ref a := ry
  obtain ⟨t, rfl⟩ := (show ∃ t, v = Value.int i t from rx)
  obtain ⟨mA, O', _⟩ := ins_get I.hok ea
  obtain ⟨od, J, _⟩ := O'.look
  obtain ⟨m, Fr⟩ := I.fr
  obtain ⟨rc, hrc, hp⟩ := O.ll
  obtain ⟨idl, slot, dec⟩ := N.ex
  refine own_right Fr I.mod.kin J O.sf hrc hp O.find O.fn O.sub N.fills slot (fun Q' hq => dec O'.obj rfl hq) ?_
  refine thn (run_fn (us := [.ref a, .int i t]) (vs := [.ref a, .int i]) ok hr hb .nil pass0 I (.cons rfl (.cons ⟨t, rfl⟩ .nil)) q) fun u' s' hq => ?_
  obtain ⟨v', H', I', rv, hv⟩ := hq
  exact relV_back rv ⟨v', H', I', rv, hv⟩
end
end Bar

namespace Bar
open PySem L2
section
variable {σ τ : L2.St} {H : Hp} {Q : VK} {g : TG} {tt : TT} {te : TE} {vs : List Nat}
instance {wi : TI} : Rd (tLc wi g tt te vs σ H Q) (wi σ H fun J H1 => ∀ D, H1 D = none → ∃ W : Nat → Nat → Hp → Prop, (∃ m, W 0 m (upd H1 D (.lst []))) ∧ ∀ i m H, W i m H →
  (J.stop i H ∧ Q (.ref D) H) ∨ (J.go i H ∧ ∃ Nx : Hp → Prop, (∀ H', Nx H' → ∃ m', m' < m ∧ W (i + 1) m' H') ∧ ∀ x H', J.yld i H x H' → g x (wipe σ vs) H' fun σ2 H2 => wipe σ2 vs = wipe σ vs ∧ tt σ2 H2 fun b H3 =>
    if b = true then te σ2 H3 fun y H4 => ∃ acc, H4 D = some (.lst acc) ∧ acc.length < sizeLine ∧ Nx (upd H4 D (.lst (acc ++ [y]))) else Nx H3)) := ⟨fun h => h⟩
instance {QB : Bool → Hp → Prop} : Rd (tYes σ H QB) (QB true H) := ⟨fun h => h⟩
/-- a comprehension over range(j) -/
theorem lcR {j : Int} {R : Addr → Hp → Prop} (n : Nat) (e : j.toNat = n) (ew : wipe σ vs = τ) (b : -(2 ^ 62) ≤ j ∧ j < 2 ^ 62)
    (h : ∀ D, H D = none → ∃ Pv : Nat → Hp → Prop, Pv 0 (upd H D (.lst [])) ∧
      (∀ i H', i < n → Pv i H' → g (.int (i : Int)) τ H' fun σ2 H2 => wipe σ2 vs = τ ∧ tt σ2 H2 fun b H3 =>
        if b = true then te σ2 H3 fun y H4 => ∃ acc, H4 D = some (.lst acc) ∧ acc.length < sizeLine ∧ Pv (i + 1) (upd H4 D (.lst (acc ++ [y]))) else Pv (i + 1) H3) ∧ ∀ H', Pv n H' → R D H') :
    ∃ j', [V.int j] = [V.int j'] ∧ -(2 ^ 62) ≤ j' ∧ j' < 2 ^ 62 ∧ ∀ D, H D = none → ∃ W : Nat → Nat → Hp → Prop, (∃ m, W 0 m (upd H D (.lst []))) ∧ ∀ i m H, W i m H →
      ((Itr 0 j'.toNat).stop i H ∧ R D H) ∨ ((Itr 0 j'.toNat).go i H ∧ ∃ Nx : Hp → Prop, (∀ H', Nx H' → ∃ m', m' < m ∧ W (i + 1) m' H') ∧ ∀ x H', (Itr 0 j'.toNat).yld i H x H' → g x (wipe σ vs) H' fun σ2 H2 => wipe σ2 vs = wipe σ vs ∧ tt σ2 H2 fun b H3 =>
        if b = true then te σ2 H3 fun y H4 => ∃ acc, H4 D = some (.lst acc) ∧ acc.length < sizeLine ∧ Nx (upd H4 D (.lst (acc ++ [y]))) else Nx H3) := by
  subst e ew
  refine ⟨j, rfl, b.1, b.2, fun D hD => ?_⟩
  obtain ⟨Pv, h0, hs, hd⟩ := h D hD
  refine lc_range (lo := 0) (n := j.toNat) Pv h0 (fun i H' hi p => ?_) hd
  have e : (0 : Int) + (i : Int) = (i : Int) := Int.zero_add _
  rw [e]
  exact hs i H' hi p
/-- over a list that stands still -/
theorem lcL {K : PySem.W.Frag} {a : Addr} {xs : List V} {R : Addr → Hp → Prop} (ew : wipe σ vs = τ) (hx : SqL K H a xs)
    (h : ∀ D, H D = none → ∃ Pv : Nat → Hp → Prop, Pv 0 (upd H D (.lst [])) ∧ (∀ i H', i ≤ xs.length → Pv i H' → SqL K H' a xs) ∧
      (∀ i x H', xs[i]? = some x → Pv i H' → g x τ H' fun σ2 H2 => wipe σ2 vs = τ ∧ tt σ2 H2 fun b H3 =>
        if b = true then te σ2 H3 fun y H4 => ∃ acc, H4 D = some (.lst acc) ∧ acc.length < sizeLine ∧ Pv (i + 1) (upd H4 D (.lst (acc ++ [y]))) else Pv (i + 1) H3) ∧ ∀ H', Pv xs.length H' → R D H') :
    ∃ a', V.ref a = V.ref a' ∧ (∃ xs, SqL K H a' xs) ∧ ∀ D, H D = none → ∃ W : Nat → Nat → Hp → Prop, (∃ m, W 0 m (upd H D (.lst []))) ∧ ∀ i m H, W i m H →
      ((Itl K a').stop i H ∧ R D H) ∨ ((Itl K a').go i H ∧ ∃ Nx : Hp → Prop, (∀ H', Nx H' → ∃ m', m' < m ∧ W (i + 1) m' H') ∧ ∀ x H', (Itl K a').yld i H x H' → g x (wipe σ vs) H' fun σ2 H2 => wipe σ2 vs = wipe σ vs ∧ tt σ2 H2 fun b H3 =>
        if b = true then te σ2 H3 fun y H4 => ∃ acc, H4 D = some (.lst acc) ∧ acc.length < sizeLine ∧ Nx (upd H4 D (.lst (acc ++ [y]))) else Nx H3) := by
  subst ew
  refine ⟨a, rfl, ⟨xs, hx⟩, fun D hD => ?_⟩
  obtain ⟨Pv, h0, hl, hs, hd⟩ := h D hD
  exact lc_list Pv h0 hl hs hd
theorem rSum_ {K : PySem.W.Frag} {a : Addr} {ns : List Int} (h1 : SqL K H a (ns.map V.int)) (h : Q (.int ns.sum) H) : rSum K [.ref a] H Q := ⟨a, ns, rfl, h1, h⟩
theorem sum_ones : ∀ n : Nat, (List.replicate n (1 : Int)).sum = (n : Int)
  | 0 => rfl
  | n + 1 => by
    rw [List.replicate_succ, List.sum_cons, sum_ones n]
    omega
end
end Bar

namespace Bar
open PySem PySem.W PySem.Calls PyProof.Rows
theorem ne_own {prog : Program} {w : World} {A : Around} {E : Value → Shared → Prop} {s : Shared} {K : Frag} {x C L f : Addr} {h₀ : Heap} {m : Str → Option Value} {ox : Obj} {od : Option Obj} {b tb : Value} {Q : Value → Shared → Prop}
    (hu : A.units + 1 < cLine) (F : Fr h₀ L s.heap m) (X₀ : K.In h₀) (I : InstAt s.heap x ox C od) (hb : Looks (model prog w) s.heap (typeOf b) tb) (hn : notFirst K C tb = true)
    (hne : findIn K (.ref C) "__ne__" = some (some (.builtin "object.__ne__"))) (heq : findIn K (.ref C) "__eq__" = some (some (.ref f))) (hf : isFn K (.ref f) = true) (hm : mroIn K C (.type "object") = some true)
    (h : wpAny (model prog w) A.in1 (call (.ref f) [.ref x, b]) (fun r s' => ∃ c, r = .bool c ∧ Q (.bool (!c)) s') E s) : wpAny (model prog w) A (richCompare .NotEq (.ref x) b) Q E s := by
  have X := X₀.keeps F.keep
  have one : wpAny (model prog w) A (tryCompare (.ref x) "__ne__" b) (fun r s' => ∃ v, r = some v ∧ Q v s') E s := by
    have sub : Looks (model prog w) s.heap (isInstance (.ref x) (.type "object")) true := I.type.andThen (looks_mroIn X hm)
    have back : wpAny (model prog w) A (call (.builtin "object.__ne__") [.ref x, b]) (fun v s' => ∃ c, v = .bool c ∧ Q (.bool c) s') E s := by
      refine wpAny_call (codeAny_call_builtin PySem.F.cmp_object.ne.plain PySem.F.cmpEntry_ne (@PySem.W.check_slot (model prog w) _ _ s "object.__ne__" "object" "__ne__" (.ref x) [b] [] _ PySem.F.cmpKind_ne PySem.F.cmpSplit_ne sub (PySem.F.cmpArgs_ne _ _) ?_))
      unfold Builtin.«object.__ne__»
      refine wpAny_bind (wpAny_of_eq (a := ((Value.ref x : Value), [b])) (by first | rfl | (simp only [slotArgs]; rfl)) ?_)
      refine wpAny_bind (wpAny_cRoomFor hu ?_)
      refine wpAny_bind (ifBound_K X I heq hf (wpAny_mono h (fun v s' hv => ?_) fun _ _ e => e))
      obtain ⟨c, rfl, q⟩ := hv
      dsimp only
      refine wpAny_bind (wpAny_truthy_bool ?_)
      exact wpAny_pure ⟨!c, rfl, q⟩
    simp only [tryCompare, callSpecialIfBound?, bindSpecialIfBound?]
    refine wpAny_bind (wpAny_holding (wpAny_bind (wpAny_bind (wpAny_bind (I.type.here ((looks_findIn X hne).here ?_))))))
    simp only [PySem.F.cmp_object.ne.bind]
    refine wpAny_bind (wpAny_askSetting (wpAny_ite ?_))
    have fin : wpAny (model prog w) A (call (.builtin "object.__ne__") ([.ref x] ++ [b]) >>= fun v => pure (some v)) (fun r s' => wpAny (model prog w) A (match r with | some .notImplemented => pure none | none => pure none | some v => pure (some v)) (fun r s' => ∃ v, r = some v ∧ Q v s') E s') E s :=
      wpAny_bind (wpAny_mono back (fun v s' hv => by
        obtain ⟨c, rfl, q⟩ := hv
        exact wpAny_pure (wpAny_pure ⟨_, rfl, q⟩)) fun _ _ e => e)
    split
    · exact wpAny_bind (wpAny_pure (wpAny_pure fin))
    · exact wpAny_tryCatch (wpAny_bind (wpAny_pure (wpAny_pure fin)))
  unfold richCompare
  simp only [oneThing_ref]
  refine wpAny_holding (wpAny_bind (wpAny_cRoomFor (by omega) ?_))
  refine wpAny_bind (I.type.here (wpAny_bind (hb.here ?_)))
  split
  · rename_i q
    have e : subIn K tb (.ref C) = some false := by
      rcases Bool.or_eq_true_iff.mp hn with e | e
      · rw [beq_iff_eq.mp e] at q; simp at q
      · exact beq_iff_eq.mp e
    refine wpAny_bind ((looks_subIn X e).here ?_)
    simp only [Bool.false_eq_true, if_false]
    refine wpAny_bind (wpAny_mono one (fun r s' z => ?_) fun _ _ e => e)
    obtain ⟨v, rfl, hq⟩ := z
    exact wpAny_pure hq
  · refine wpAny_bind (wpAny_pure ?_)
    simp only [Bool.false_eq_true, if_false]
    refine wpAny_bind (wpAny_mono one (fun r s' z => ?_) fun _ _ e => e)
    obtain ⟨v, rfl, hq⟩ := z
    exact wpAny_pure hq
end Bar

namespace Bar
open PySem L2
structure OwnEq (K : PySem.W.Frag) (C f : Addr) : Prop where
  eq : PySem.W.findIn K (.ref C) "__eq__" = some (some (.ref f))
  fn : PySem.W.isFn K (.ref f) = true
  ne : PySem.W.findIn K (.ref C) "__ne__" = some (some (.builtin "object.__ne__"))
  ob : PySem.W.mroIn K C (.type "object") = some true
def rOwnEq (K : PySem.W.Frag) (C : Addr) (neg : Bool) (sp : Sp) : R2 := fun x y H Q => ∃ a dx fs t, x = .ref a ∧ H a = some (.ins C dx fs) ∧ TyX K H y t ∧ PySem.W.notFirst K C t = true ∧ sp [x, y] H (fun v H' => ∃ c, v = .bl c ∧ Q (.bl (if neg then !c else c)) H') E0
structure OprEq (P : Program) (w : World) (K : PySem.W.Frag) (mg : Str → Option Value) (base : Heap) (C : Addr) (ps : List Str) (k : Nat) (sp : Sp) : Prop where
  ex : ∃ (f : Addr) (fd : FuncData), OwnEq K C f ∧ Binds K fd ps [] ∧ FnOk P w K mg base CX0 k f fd ps sp
section
variable {X : Cx} {C : Addr} {ps : List Str} {k : Nat} {sp : Sp}
theorem op_Eq (F : OprEq X.prog X.w X.K X.mg X.base C ps k sp) (hr : Room k X.A) : OpR X (compareOp .Eq) (rOwnEq X.K C false sp) := by
  intro pins s σ H x y v u Q I rx ry h
  obtain ⟨f, fd, O, hb, ok⟩ := F.ex
  obtain ⟨a, dx, fs, t, rfl, ea, ty, hn, q⟩ := h
  obtain rfl : v = Value.ref a := rx
  obtain ⟨mA, O', _⟩ := ins_get I.hok ea
  obtain ⟨od, J, _⟩ := O'.look
  obtain ⟨m, Fr⟩ := I.fr
  obtain ⟨Pz, Z, p, _⟩ := kit_of I ry ty
  show wpAny _ _ (richCompare .Eq (.ref a) u) _ _ _
  refine PySem.W.cmp_K (op := .Eq) hr.units0 Fr I.mod.kin J (Z.ty _ _ I.kIn p) hn O.eq O.fn ?_
  refine thn (run_fn (us := [.ref a, u]) (vs := [.ref a, y]) ok hr hb .nil pass0 I (.cons rfl (.cons ry .nil)) q) fun u' s' hq => ?_
  obtain ⟨v', H', I', rv, hv⟩ := hq
  obtain ⟨c, rfl, q'⟩ := hv
  exact relV_back rv ⟨_, H', I', rv, q'⟩
theorem op_Ne (F : OprEq X.prog X.w X.K X.mg X.base C ps k sp) (hr : Room (k + 1) X.A) : OpR X (compareOp .NotEq) (rOwnEq X.K C true sp) := by
  intro pins s σ H x y v u Q I rx ry h
  obtain ⟨f, fd, O, hb, ok⟩ := F.ex
  obtain ⟨a, dx, fs, t, rfl, ea, ty, hn, q⟩ := h
  obtain rfl : v = Value.ref a := rx
  obtain ⟨mA, O', _⟩ := ins_get I.hok ea
  obtain ⟨od, J, _⟩ := O'.look
  obtain ⟨m, Fr⟩ := I.fr
  obtain ⟨Pz, Z, p, _⟩ := kit_of I ry ty
  show wpAny _ _ (richCompare .NotEq (.ref a) u) _ _ _
  refine ne_own (by have := hr.units; omega) Fr I.mod.kin J (Z.ty _ _ I.kIn p) hn O.ne O.eq O.fn O.ob ?_
  have r2 : Vals [V.ref a, y] [Value.ref a, u] := .cons rfl (.cons ry .nil)
  have hl : ([Value.ref a, u] ++ ([] : List Value)).length = ps.length := by
    have e := ok.len _ _ _ _ q
    rw [← e]
    rfl
  have bnd : BindsTo s fd ⟨[Value.ref a, u], []⟩ (ps.zip [Value.ref a, u]) := by
    have e := hb s [Value.ref a, u] I.kIn hl
    rwa [List.append_nil] at e
  have run := ok.run X.A.in1 X.stack s H ⟨[Value.ref a, u], []⟩ [Value.ref a, u] [V.ref a, y] _ E0 hr.in1 I.env0.in1 bnd r2 q
  refine wpAny_call (codeAny_mono run fun r s' hq => ?_)
  cases r with
  | error e => exact False.elim hq
  | ok fl =>
    cases fl with
    | ret u' =>
      obtain ⟨v', H', I', rv, c, ev, q'⟩ := I.after hq
      subst ev
      exact ⟨c, rv, .bl (!c), H', I', rfl, q'⟩
    | next => exact False.elim hq
    | brk => exact False.elim hq
    | cont => exact False.elim hq
end
end Bar

set_option Elab.async false
set_option linter.all false
set_option maxRecDepth 100000
set_option maxHeartbeats 4000000
namespace Bar
open PySem L2
/-! ### own errors: their making -/
/-- an own error class, made by its name; sp: what its __init__ keeps -/
structure Err (P : Program) (w : World) (K : PySem.W.Frag) (mg : Str → Option Value) (base : Heap) (x : Str) (C : Addr) (ps : List Str) (k : Nat) (sp : Sp) : Prop where
  ex : ∃ (f : Addr) (fd : FuncData), mg x = some (.ref C) ∧ OexC K C ∧ PySem.W.findIn K (.ref C) "__init__" = some (some (.ref f)) ∧ PySem.W.typeIn K (.ref f) = some (.type "function") ∧ Binds K fd ps [] ∧ FnOk P w K mg base CX0 k f fd ps sp
/-- the base class's own name, and its __init__ -/
structure EBase (K : PySem.W.Frag) (mg : Str → Option Value) (bn : Str) (B : Addr) : Prop where
  g : mg bn = some (.ref B)
  r : ClX.CRead K B (.type "type")
  v : PySem.W.findCls K (.ref B) (.type "type") "__init__" = some (.val (.builtin "ValueError.__init__"))
section
variable {X : Cx} {B C : Addr} {x bn : Str} {k : Nat} {sp : Sp} {ps : List Str} {e : Expr} {es : List Expr} {ta : TA} {p p1 p2 pos : Pos}
theorem pmk_err (F : Err X.prog X.w X.K X.mg X.base x C ps k sp) (hr : Room (k + 1) X.A) (hg : Gl X x) (ha : PA X (e :: es) ta) (hdb : (x == ("__debug__" : Str)) = false := by decide)
    (he : starEach (e :: es) X.env = (false, eval e X.env) :: starEach es X.env := by rfl) (hpl : (backTo pos (starEach es X.env)).any (·.1) = false := by rfl) : PMk X (.Call (.Name x p) (e :: es) [] pos) (tMkO C sp [] ta) := by
  obtain ⟨f, fd, hm, T, iC, tI, hb, ok⟩ := F.ex
  exact pmk_oex T iC tI ok hr hb .nil (fun _ _ _ _ _ _ _ z => z.elim) hg hm ha hdb he hpl
theorem pe_baseInit {pl : Sem Bool} (N : EBase X.K X.mg bn B) (hg : Gl X bn) (ha : PA X (e :: es) ta) (hdb : (bn == ("__debug__" : Str)) = false := by decide)
    (hc : eval (.Call (.Attribute (.Name bn p1) "__init__" p2) (e :: es) [] pos) X.env = (do
      let ov ← eval (.Name bn p1) X.env; standAt p2.atName
      let (f, first) ← holding [ov] (getMethod ov "__init__" pl)
      callWith pos f first (backTo pos (starEach (e :: es) X.env)) (backToKw pos (keywordEach [] X.env))) := by rfl)
    (he : starEach (e :: es) X.env = (false, eval e X.env) :: starEach es X.env := by rfl) (hpl : (backTo pos (starEach es X.env)).any (·.1) = false := by rfl) :
    PE X (.Call (.Attribute (.Name bn p1) "__init__" p2) (e :: es) [] pos) (tVeI X.K ta) := ⟨fun pins s σ H Q I h => by
  refine PySem.W.methodCall_KW (pl := pl) (ld_glob I hg N.g ?_ hdb) hc
  refine PySem.W.method_cls I.kIn N.r.ga (PySem.W.cls_value I.kIn N.r.rd N.v rfl ?_)
  show wpAny _ _ (callWith pos (.builtin "ValueError.__init__") [] (backTo pos (starEach (e :: es) X.env)) []) _ _ _
  have I' := I.tok (s.toks + 1)
  refine PyProof.Rows.callWith_method1 (thn (ha.run pos pins _ σ H _ I' h) fun us s1 hs => ?_) he hpl
  obtain ⟨vs, H1, J, rv, a, C, ws, ev, hl, T, ea, q⟩ := hs
  subst ev
  cases rv with
  | cons ra rw' =>
    cases ra
    refine oinit_ok T J ea ?_ fun s' J' => ⟨.non, H1, J', rfl, q⟩
    rw [← Paired.length rw', sizeLine_eq]
    omega⟩
end

/-! ### defs that raise, called where what they raise is taken -/
structure FnX (P : Program) (w : World) (K : PySem.W.Frag) (mg : Str → Option Value) (base : Heap) (x : Str) (ps : List Str) (dvs : List V) (k : Nat) (sp : Sp) : Prop where
  ex : ∃ (f : Addr) (fd : FuncData) (ds : List Value), mg x = some (.ref f) ∧ PySem.W.keepIn K (.ref f) = true ∧ Binds K fd ps ds ∧ Vals dvs ds ∧ FnOk P w K mg base (L2.CX P w) k f fd ps sp
structure MadeX (P : Program) (w : World) (K : PySem.W.Frag) (mg : Str → Option Value) (base : Heap) (x : Str) (C : Addr) (ps : List Str) (dvs : List V) (k : Nat) (sp : Sp) : Prop where
  ex : ∃ (f : Addr) (fd : FuncData) (ds : List Value), mg x = some (.ref C) ∧ Mk K C f ∧ Binds K fd ps ds ∧ Vals dvs ds ∧ FnOk P w K mg base (L2.CX P w) k f fd ps sp
structure MthX (P : Program) (w : World) (K : PySem.W.Frag) (mg : Str → Option Value) (base : Heap) (C : Addr) (m : Str) (ps : List Str) (dvs : List V) (k : Nat) (sp : Sp) : Prop where
  cl : Cls K C
  ex : ∃ (f : Addr) (fd : FuncData) (ds : List Value), Meth K C m f ∧ Binds K fd ps ds ∧ Vals dvs ds ∧ FnOk P w K mg base (L2.CX P w) k f fd ps sp
/-- what is raised, wished for at the slots as they stand -/
def wAt (W : WX) (σ : L2.St) : XK := fun cls d H => W cls d σ H
def tCallX (sp : Sp) (dvs : List V) (W : WX) (t : TA) : TE := fun σ H Q => t σ H fun vs H1 => sp (vs ++ dvs) H1 Q (wAt W σ)
def tMakeX (C : Addr) (sp : Sp) (dvs : List V) (W : WX) (t : TA) : TE := fun σ H Q => t σ H fun vs H1 => ∀ x dx, H1 x = none → H1 dx = none → dx ≠ x →
  sp (.ref x :: (vs ++ dvs)) (upd (upd H1 dx (.own x)) x (.ins C dx [])) (fun v H2 => v = .non ∧ Q (.ref x) H2) (wAt W σ)
def tMethX (C : Addr) (m : Str) (sp : Sp) (dvs : List V) (W : WX) (ta : TE) (t : TA) : TE := fun σ H Q => ta σ H fun x H1 => ∃ a dx fs, x = .ref a ∧ H1 a = some (.ins C dx fs) ∧ fs.lookup m = none ∧
  t σ H1 fun vs H2 => sp (x :: (vs ++ dvs)) H2 Q (wAt W σ)
section
variable {X : Cx} {W : WX} {k : Nat} {f C : Addr} {fd : FuncData} {ps : List Str} {sp : Sp} {dvs : List V} {ds : List Value} {x m : Str} {p pos apos : Pos} {e o : Expr} {es : List Expr} {ta : TE} {t : TA}
theorem run_fnX {pins : List (Addr × Obj)} {σ : L2.St} {H : Hp} {s : Shared} {Q : VK} {us : List Value} {vs : List V} (F : FnOk X.prog X.w X.K X.mg X.base (L2.CX X.prog X.w) k f fd ps sp) (hr : Room k X.A) (hb : Binds X.K fd ps ds) (hd : Vals dvs ds)
    (tk : Takes X W) (I : Inv X pins σ H s) (r : Vals vs us) (h : sp (vs ++ dvs) H Q (wAt W σ)) : wpAny (model X.prog X.w) X.A (call (.ref f) us) (EP X pins σ Q) X.xe s := by
  have r2 : Vals (vs ++ dvs) (us ++ ds) := r.append hd
  have hl : (us ++ ds).length = ps.length := r2.length.symm.trans (F.len _ _ _ _ h)
  refine wpAny_call (codeAny_mono (F.run X.A X.stack s H ⟨us, []⟩ (us ++ ds) (vs ++ dvs) Q (wAt W σ) hr I.env0 (hb s us I.kIn hl) r2 h) fun z s' hq => ?_)
  match z, hq with
  | .error e, hq => exact tk e s' (XE.of_call I (fun _ _ _ h => h) hq)
  | .ok (.ret u), hq => exact I.after hq
theorem pe_fnX (F : FnX X.prog X.w X.K X.mg X.base x ps dvs k sp) (tk : Takes X W) (hr : Room k X.A) (hg : Gl X x) (ha : PA X (e :: es) t) (hdb : (x == ("__debug__" : Str)) = false := by decide)
    (he : starEach (e :: es) X.env = (false, eval e X.env) :: starEach es X.env := by rfl) (hpl : (backTo pos (starEach es X.env)).any (·.1) = false := by rfl) : PE X (.Call (.Name x p) (e :: es) [] pos) (tCallX sp dvs W t) := ⟨fun pins s σ H Q I h => by
  obtain ⟨f, fd, ds, hm, hk, hb, hd, ok⟩ := F.ex
  refine wpAny_Call_Name_kw (ld_glob I hg hm ?_ hdb)
  refine PySem.W.callWith_K (h₀ := X.base) I.ok.mod.kin hk (thn (ha.run pos pins s σ H _ I h) fun us s1 hs => ?_) he hpl
  obtain ⟨vs, H1, J, r, q⟩ := hs
  exact ⟨J.kIn, run_fnX ok hr hb hd tk J r q⟩⟩
theorem pe_mthX {pl : Sem Bool} (F : MthX X.prog X.w X.K X.mg X.base C m ps dvs k sp) (tk : Takes X W) (ho : PE X o ta) (hr : Room k X.A) (ha : PA X (e :: es) t)
    (hst : starEach (e :: es) X.env = (false, eval e X.env) :: starEach es X.env := by rfl) (hpl : (backTo pos (starEach es X.env)).any (·.1) = false := by rfl)
    (ht : eval (.Call (.Attribute o m apos) (e :: es) [] pos) X.env = (do
      let ov ← eval o X.env; standAt apos.atName
      let (f, first) ← holding [ov] (getMethod ov m pl)
      callWith pos f first (backTo pos (starEach (e :: es) X.env)) (backToKw pos (keywordEach [] X.env))) := by rfl) :
    PE X (.Call (.Attribute o m apos) (e :: es) [] pos) (tMethX C m sp dvs W ta t) := ⟨fun pins s σ H Q I h => by
  obtain ⟨f, fd, ds, hm, hb, hd, ok⟩ := F.ex
  refine PySem.W.methodCall_KW (pl := pl) (thn (ho.run pins s σ H _ I h) fun u s1 hs => ?_) ht
  obtain ⟨x, H1, J, rx, a, dx, fs, ex, ea, l, q⟩ := hs
  subst ex
  cases rx
  refine getmeth_ok J ea F.cl hm l (PySem.W.callWith_K (first := [.ref a]) (h₀ := X.base) J.ok.mod.kin hm.kp (thn (ha.run pos pins s1 σ H1 _ J q) fun us s2 hs => ?_) hst hpl)
  obtain ⟨vs, H2, J2, r, q2⟩ := hs
  exact ⟨J2.kIn, run_fnX (us := .ref a :: us) (vs := .ref a :: vs) ok hr hb hd tk J2 (.cons rfl r) q2⟩⟩
theorem run_makeX {pins : List (Addr × Obj)} {σ : L2.St} {H : Hp} {s : Shared} {Q : VK} {us : List Value} {vs : List V} (M : Mk X.K C f) (F : FnOk X.prog X.w X.K X.mg X.base (L2.CX X.prog X.w) k f fd ps sp) (hr : Room (k + 1) X.A) (hb : Binds X.K fd ps ds) (hd : Vals dvs ds)
    (tk : Takes X W) (I : Inv X pins σ H s) (r : Vals vs us)
    (h : ∀ x dx, H x = none → H dx = none → dx ≠ x → sp (.ref x :: (vs ++ dvs)) (upd (upd H dx (.own x)) x (.ins C dx [])) (fun v H2 => v = .non ∧ Q (.ref x) H2) (wAt W σ)) :
    wpAny (model X.prog X.w) X.A (call (.ref C) us) (EP X pins σ Q) X.xe s := by
  have hq := h (s.heap.objs.size + 1) s.heap.objs.size (I.hok.fresh (Nat.le_succ _)) (I.hok.fresh (Nat.le_refl _)) (Nat.ne_of_lt (Nat.lt_succ_self _))
  have J := Inv.made (C := C) I
  have r2 : Vals (V.ref (s.heap.objs.size + 1) :: (vs ++ dvs)) (Value.ref (s.heap.objs.size + 1) :: (us ++ ds)) := .cons rfl (r.append hd)
  have hl : (Value.ref (s.heap.objs.size + 1) :: us ++ ds).length = ps.length := r2.length.symm.trans (F.len _ _ _ _ hq)
  refine wpAny_call (make_map (f := f) I.kIn M.makes M.init (beq_iff_eq.mp M.fn) (codeAny_mono (F.run _ X.stack _ _ ⟨Value.ref (s.heap.objs.size + 1) :: us, []⟩ (Value.ref (s.heap.objs.size + 1) :: (us ++ ds)) _ _ (wAt W σ) (hr.make C us [])
    (J.env0.make C us []) (hb _ (Value.ref (s.heap.objs.size + 1) :: us) J.kIn hl) r2 hq) fun z s' hz => ?_))
  match z, hz with
  | .error e, hz => exact tk e s' (XE.of_call J (fun _ _ _ h => h) hz)
  | .ok (.ret u), hz =>
    obtain ⟨v, H', J3, rv, ev, q3⟩ := J.after hz
    subst ev
    exact ⟨rv, ⟨V.ref (s.heap.objs.size + 1), H', J3, rfl, q3⟩⟩
theorem pe_mkX (F : MadeX X.prog X.w X.K X.mg X.base x C ps dvs k sp) (tk : Takes X W) (hr : Room (k + 1) X.A) (hg : Gl X x) (ha : PA X (e :: es) t) (hdb : (x == ("__debug__" : Str)) = false := by decide)
    (he : starEach (e :: es) X.env = (false, eval e X.env) :: starEach es X.env := by rfl) (hpl : (backTo pos (starEach es X.env)).any (·.1) = false := by rfl) : PE X (.Call (.Name x p) (e :: es) [] pos) (tMakeX C sp dvs W t) := ⟨fun pins s σ H Q I h => by
  obtain ⟨f, fd, ds, hm, M, hb, hd, ok⟩ := F.ex
  refine wpAny_Call_Name_kw (ld_glob I hg hm ?_ hdb)
  refine PySem.W.callWith_K (h₀ := X.base) I.ok.mod.kin M.kp (thn (ha.run pos pins s σ H _ I h) fun us s1 hs => ?_) he hpl
  obtain ⟨vs, H1, J, r, q⟩ := hs
  exact ⟨J.kIn, run_makeX M ok hr hb hd tk J r q⟩⟩
end

/-- what raises nothing here, though it may -/
theorem FnX0 {P : Program} {w : World} {K : PySem.W.Frag} {mg : Str → Option Value} {base : Heap} {k : Nat} {f : Addr} {fd : FuncData} {ps : List Str} {sp : Sp} (F : FnOk P w K mg base (L2.CX P w) k f fd ps sp) : FnOk P w K mg base CX0 k f fd ps (fun vs H Q _ => sp vs H Q E0) :=
  ⟨fun vs H Q _ h => F.len vs H Q E0 h, fun A outer s H args us vs Q _ hr e0 hb r h => codeAny_mono (F.run A outer s H args us vs Q E0 hr e0 hb r h) fun z s' hq => by
    match z, hq with
    | .error e, hq =>
      obtain ⟨_, _, _, _, _, _, _, _, _, _, _, _, x⟩ := hq
      exact x.elim
    | .ok (.ret u), hq => exact hq⟩
/-- a block, with a word between its first statement and the rest -/
def tMid (t u : TS) : TS := fun D σ H => ∃ M : L2.St → Hp → Prop, t { D with nx := M } σ H ∧ ∀ σ' H', M σ' H' → u D σ' H'
theorem pss_mid {X : Cx} {s1 : Stmt} {ss : List Stmt} {t u : TS} (a : PS X s1 t) (b : PSs X ss u) : PSs X (s1 :: ss) (tMid t u) := ⟨fun pins s σ H D I ⟨M, hm, hu⟩ => by
  refine wpAny_execs_cons (thn (a.run pins s σ H { D with nx := M } I hm) fun z s1 q => ?_)
  match z, q with
  | .next, ⟨σ', H', I', q⟩ => exact b.run pins s1 σ' H' D I' (hu σ' H' q)
  | .ret _, q => exact q
  | .brk, q => exact q
  | .cont, q => exact q⟩
/-! ### range of two ints of any size -/
theorem turn_big {P : Program} {w : World} {K : PySem.W.Frag} {tg : Expr} (it : Addr) (lo : Int) (n : Nat) : Turn P w K tg (Itr lo n) [it] it (fun i h => IsLongIter h it (lo + (i : Nat) * 1) ((n : Int) - (i : Nat)) 1) where
  mem := List.mem_singleton.mpr rfl
  obj := fun i h st b hb => by
    cases List.mem_singleton.mp hb
    refine ⟨_, st, fun v z => ?_⟩
    have y : Data.fields _ = Data.cell v := z
    cases y
  keep := fun i h h' st k => k it (List.mem_singleton.mpr rfl) _ st
  item := by
    rintro X rfl rfl rfl hc i pins s σ H E I hf st hg
    obtain ⟨f0, f1, f2, f3, f4, f5⟩ := hf it (List.mem_singleton.mpr rfl)
    refine (Walks.longrange (prog := X.prog) (w := X.w) (I.ok.hd hc) it lo 1 n).item i s _ _ hg st fun v h' tk hv st' kk => ?_
    obtain ⟨t, rfl⟩ := hv
    have J : Inv X pins σ H { s with heap := h', toks := tk } := I.turned (fun b o hb e => kk b o (fun z => hb (List.mem_singleton.mp z)) e) f0 f1 f3 f4 f5
    exact ⟨_, rfl, go_of (s := { s with heap := h', toks := tk }) (n := "longrange_iterator") st' rfl rfl (by decide) ⟨.int (lo + i), H, J, ⟨t, by rw [Int.mul_one]⟩, ⟨rfl, rfl⟩, st', fun b hb => (hf b hb).1⟩⟩
  done := by
    rintro X rfl rfl rfl hc i pins s σ H E I hf st hg
    obtain ⟨f0, f1, f2, f3, f4, f5⟩ := hf it (List.mem_singleton.mpr rfl)
    have hn : n ≤ i := hg
    exact wpAny_pyNext_long_end (I.ok.hd hc) st (by omega) fun h' eb => ⟨rfl, I.turned (t' := s.toks) (fun b o hb e => eb b o hb e) f0 f1 f3 f4 f5⟩
  self := fun _ _ _ _ _ st h => wpAny_pyIter_longiter st h
section
variable {X : Cx} {tg : Expr}
theorem range_any {pins : List (Addr × Obj)} {σ : L2.St} {H : Hp} {s : Shared} {R : It → Hp → Prop} {E : Value → Shared → Prop} {lo hi : Int} {t u v : Tok} {tk : Nat} (I : Inv X pins σ H s) (q : R (Itr lo (hi - lo).toNat) H) :
    wpAny (model X.prog X.w) X.A (pyIter (.ref s.heap.objs.size)) (PIE X pins σ tg R) E { s with heap := s.heap.push { cls := .type "range", data := .fields #[.int lo t, .int hi u, .int 1 v] }, toks := tk } := by
  have J : Inv X pins σ H { s with heap := s.heap.push { cls := .type "range", data := .fields #[.int lo t, .int hi u, .int 1 v] }, toks := tk } := I.kept fun b o e => Heap.get?_push_of_some _ e
  have ef : ∀ b, b ∈ [(s.heap.push { cls := .type "range", data := .fields #[.int lo t, .int hi u, .int 1 v] }).objs.size] → b = (s.heap.push { cls := .type "range", data := .fields #[.int lo t, .int hi u, .int 1 v] }).objs.size := fun b hb => List.mem_singleton.mp hb
  have e1 : lo + ((0 : Nat) : Int) * 1 = lo := by simp
  have e2 : (((hi - lo).toNat : Nat) : Int) - ((0 : Nat) : Int) = Builtin.Range.rangeSize lo hi 1 := by
    rw [rangeSize_one]
    split <;> omega
  cases sm : Builtin.Range.small lo hi 1 with
  | true =>
    refine wpAny_pyIter_range (IsRange.new ..) sm ⟨_, _, _, _, H, rfl, J.kept (t' := tk) fun b o e => Heap.get?_push_of_some _ e, turn_range _ lo (hi - lo).toNat, ?_, fun b hb => ?_, q⟩
    · show IsRangeIter _ _ (lo + ((0 : Nat) : Int) * 1) ((((hi - lo).toNat : Nat) : Int) - ((0 : Nat) : Int)) 1
      rw [e1, e2]
      exact Heap.get?_push_size _ rfl
    · cases ef b hb
      exact J.fpOk (Nat.le_refl _) (J.hok.fresh (Nat.le_refl _))
  | false =>
    refine wpAny_pyIter_longrange (IsRange.new ..) sm ⟨_, _, _, _, H, rfl, J.kept (t' := tk) fun b o e => Heap.get?_push_of_some _ e, turn_big _ lo (hi - lo).toNat, ?_, fun b hb => ?_, q⟩
    · show IsLongIter _ _ (lo + ((0 : Nat) : Int) * 1) ((((hi - lo).toNat : Nat) : Int) - ((0 : Nat) : Int)) 1
      rw [e1, e2]
      exact Heap.get?_push_size _ rfl
    · cases ef b hb
      exact J.fpOk (Nat.le_refl _) (J.hok.fresh (Nat.le_refl _))
def iRngW (ta : TA) : TI := fun σ H R => ta σ H fun vs H1 => ∃ i j : Int, vs = [.int i, .int j] ∧ R (Itr i (j - i).toNat) H1
theorem pi_rangeW {a b : Expr} {ta : TA} {p pos : Pos} (hg : Gl X "range") (hm : X.mg "range" = none) (ha : PA X [a, b] ta) (hs : starEach [a, b] X.env = [(false, eval a X.env), (false, eval b X.env)] := by rfl) (hs2 : starEach [b] X.env = [(false, eval b X.env)] := by rfl) :
    PI X tg (.Call (.Name "range" p) [a, b] [] pos) (iRngW ta) := ⟨fun pins s σ H R I h => by
  refine PyProof.Rows.Call_ (ld_blt I hg hm PyProof.Rows.boot_range (PyProof.Rows.callWith_type1 (thn (ha.run pos pins s σ H _ I h) fun us s1 hu => ?_) (by rw [hs, hs2]) (by rw [hs2]; rfl)))
  obtain ⟨vs, H1, J, rv, i, j, e, q⟩ := hu
  subst e
  match us, rv with
  | [_, _], .cons ⟨t, r1⟩ (.cons ⟨t', r2⟩ .nil) =>
    cases r1
    cases r2
    exact call_range_2 (range_any J q)⟩
end
/-! ### C(e, .., k = v) -/
structure MadeN (P : Program) (w : World) (K : PySem.W.Frag) (mg : Str → Option Value) (base : Heap) (x : Str) (C : Addr) (ps ks : List Str) (n k : Nat) (sp : Sp) : Prop where
  ex : ∃ (f : Addr) (fd : FuncData) (g : List Value → List Value → List Value), mg x = some (.ref C) ∧ Mk K C f ∧ KBn K fd ps (n + 1) ks g (fun vs zs => vs ++ zs) ∧ FnOk P w K mg base CX0 k f fd ps sp
theorem pe_mkN {X : Cx} {C : Addr} {ps ks : List Str} {n k : Nat} {sp : Sp} {x : Str} {p pos : Pos} {e : Expr} {es : List Expr} {kws : List Keyword} {t tk : TA} (F : MadeN X.prog X.w X.K X.mg X.base x C ps ks n k sp) (hr : Room (k + 1) X.A) (hg : Gl X x) (ha : PA X (e :: es) t) (hkw : PK X kws tk)
    (hall : (backToKw pos (keywordEach kws X.env)).all (·.1.isSome) = true := by rfl) (hks : (backToKw pos (keywordEach kws X.env)).filterMap (·.1) = ks := by rfl)
    (hdb : (x == ("__debug__" : Str)) = false := by decide) (he : starEach (e :: es) X.env = (false, eval e X.env) :: starEach es X.env := by rfl)
    (hpl : ((backTo pos (starEach (e :: es) X.env)).any (·.1) || (backToKw pos (keywordEach kws X.env)).any (·.1.isNone)) = false := by rfl) : PE X (.Call (.Name x p) (e :: es) kws pos) (tMakeN C n ks.length sp (fun vs zs => vs ++ zs) E0 t tk) := by
  obtain ⟨f, fd, g, hm, M, hb, ok⟩ := F.ex
  exact pe_makeN M ok hr hg hm hb pass0 ha hkw hall hks hdb he hpl
theorem pe_fldK {X : Cx} {K : PySem.W.Frag} {e : Expr} {ta : TE} {f : Str} {pos : Pos} (he : PE X e ta) (hK : X.K = K) (hb : attributeBase e f X.env (eval e X.env) = eval e X.env) : PE X (.Attribute e f pos) (tFld K ta f) := by
  subst hK
  exact pe_fld he hb
/-! ### own operators that raise -/
def OpRS (X : Cx) (f : Value → Value → Sem Value) (r : L2.St → R2) : Prop :=
  ∀ (pins : List (Addr × Obj)) (s : Shared) (σ : L2.St) (H : Hp) (x y : V) (v u : Value) (Q : VK), Inv X pins σ H s → RelV x v → RelV y u → r σ x y H Q → wpAny (model X.prog X.w) X.A (f v u) (EP X pins σ Q) X.xe s
def tOpS (r : L2.St → R2) (ta tb : TE) : TE := fun σ H Q => ta σ H fun x H1 => tb σ H1 fun y H2 => r σ x y H2 Q
theorem pe_opS {X : Cx} {a b : Expr} {ta tb : TE} {pos : Pos} {op : Operator} {r : L2.St → R2} (ho : OpRS X (binaryOp op) r) (ha : PE X a ta) (hb : PE X b tb) : PE X (.BinOp a op b pos) (tOpS r ta tb) :=
  ⟨fun pins s σ H Q I h => wpAny_BinOp (binT ha hb I h fun v u s2 x y H2 J rx ry q => ho pins s2 σ H2 x y v u Q J rx ry q)⟩
def rOwnLX (C : Addr) (sp : Sp) (W : WX) : L2.St → R2 := fun σ x y H Q => ∃ a dx fs i, x = .ref a ∧ y = .int i ∧ H a = some (.ins C dx fs) ∧ sp [x, y] H Q (wAt W σ)
def rOwnRX (C : Addr) (sp : Sp) (W : WX) : L2.St → R2 := fun σ x y H Q => ∃ a dx fs i, y = .ref a ∧ x = .int i ∧ H a = some (.ins C dx fs) ∧ sp [y, x] H Q (wAt W σ)
structure OprLX (P : Program) (w : World) (K : PySem.W.Frag) (mg : Str → Option Value) (base : Heap) (C : Addr) (op : Operator) (ps : List Str) (k : Nat) (sp : Sp) : Prop where
  ex : ∃ (f : Addr) (fd : FuncData), OwnL K C op f ∧ Binds K fd ps [] ∧ FnOk P w K mg base (L2.CX P w) k f fd ps sp
structure OprRX (P : Program) (w : World) (K : PySem.W.Frag) (mg : Str → Option Value) (base : Heap) (C : Addr) (op : Operator) (ps : List Str) (k : Nat) (sp : Sp) : Prop where
  ex : ∃ (f : Addr) (fd : FuncData), OwnR K C op f ∧ Binds K fd ps [] ∧ FnOk P w K mg base (L2.CX P w) k f fd ps sp
section
variable {X : Cx} {C f : Addr} {ps : List Str} {k : Nat} {sp : Sp} {op : Operator} {W : WX}
theorem op_LX (F : OprLX X.prog X.w X.K X.mg X.base C op ps k sp) (tk : Takes X W) (hr : Room k X.A) : OpRS X (binaryOp op) (rOwnLX C sp W) := by
  rintro pins s σ H x y v u Q I rx ry ⟨a, dx, fs, i, rfl, rfl, ea, q⟩
  obtain ⟨f, fd, O, hb, ok⟩ := F.ex
  cases rx
  obtain ⟨t, rfl⟩ := ry
  obtain ⟨mA, O', _⟩ := ins_get I.hok ea
  obtain ⟨od, J, _⟩ := O'.look
  obtain ⟨m, Fr⟩ := I.fr
  obtain ⟨rc, hrc, hp⟩ := O.rr
  obtain ⟨fo, h1⟩ := O.i1
  obtain ⟨ro, h2⟩ := O.i2
  refine PySem.W.ksp_binT Fr I.mod.kin J rfl O.sf O.find O.fn hrc hp h1 h2 O.sub ?_
  refine thn (run_fnX (us := [.ref a, .int i t]) (vs := [.ref a, .int i]) ok hr hb .nil tk I (.cons rfl (.cons ⟨t, rfl⟩ .nil)) q) fun u' s' ⟨v', H', I', rv, hv⟩ => ?_
  exact relV_back rv ⟨v', H', I', rv, hv⟩
theorem op_RX (F : OprRX X.prog X.w X.K X.mg X.base C op ps k sp) (N : IntNo op) (tk : Takes X W) (hr : Room k X.A) : OpRS X (binaryOp op) (rOwnRX C sp W) := by
  rintro pins s σ H x y v u Q I rx ry ⟨a, dx, fs, i, rfl, rfl, ea, q⟩
  obtain ⟨f, fd, O, hb, ok⟩ := F.ex
  cases ry
  obtain ⟨t, rfl⟩ := rx
  obtain ⟨mA, O', _⟩ := ins_get I.hok ea
  obtain ⟨od, J, _⟩ := O'.look
  obtain ⟨m, Fr⟩ := I.fr
  obtain ⟨rc, hrc, hp⟩ := O.ll
  obtain ⟨idl, slot, dec⟩ := N.ex
  refine own_right Fr I.mod.kin J O.sf hrc hp O.find O.fn O.sub N.fills slot (fun Q' hq => dec O'.obj rfl hq) ?_
  refine thn (run_fnX (us := [.ref a, .int i t]) (vs := [.ref a, .int i]) ok hr hb .nil tk I (.cons rfl (.cons ⟨t, rfl⟩ .nil)) q) fun u' s' ⟨v', H', I', rv, hv⟩ => ?_
  exact relV_back rv ⟨v', H', I', rv, hv⟩
end

/-! ### o op p, both of one own class -/
section
open PySem.W PySem.Calls PyProof.Rows
theorem own_same {prog : Program} {w : World} {A : Around} {E : Value → Shared → Prop} {s : Shared} {K : Frag} {x C L f : Addr} {h₀ : Heap} {m : Str → Option Value} {ox : Obj} {od : Option Obj} {v : Value} {op : Operator} {Q : Value → Shared → Prop}
    (F : Fr h₀ L s.heap m) (X₀ : K.In h₀) (I : InstAt s.heap x ox C od) (hv : Looks (model prog w) s.heap (typeOf v) (.ref C)) (hc : selfFirst K C = true)
    (hs : findIn K (.ref C) (PySem.dunder op.info.2) = some (some (.ref f))) (hf : isFn K (.ref f) = true) (h : wpAny (model prog w) A (call (.ref f) [.ref x, v]) (PySem.W.CmpBack Q) E s) : wpAny (model prog w) A (binaryOp op (.ref x) v) Q E s := by
  have X := X₀.keeps F.keep
  obtain ⟨cd, rest, hcd, hm⟩ := ksp_first hc
  rcases hi : op.info with ⟨sym, nm'⟩
  rw [hi] at hs
  dsimp only at hs
  have one := ksp_try X I hs hf h
  obtain ⟨hh, g, d, tt, os⟩ := s
  have L3 : Looks (model prog w) hh (fillsNumberSlot (.ref C) nm') true := fills_K X hcd hm hs
  simp only [binaryOp, hi]
  refine wpAny_holding (wpAny_bind ?_)
  unfold binaryOp1
  refine wpAny_bind (I.type.at (wpAny_bind (hv.at (wpAny_bind (L3.at ?_)))))
  simp only [beq_self_eq_true, if_true, pure_bind, Bool.and_false, Bool.false_and, Bool.false_eq_true, if_false]
  refine wpAny_bind (wpAny_mono one (fun r s2 hr2 => ?_) fun _ _ e => e)
  obtain ⟨u, rfl, hq⟩ := hr2
  exact wpAny_pure (wpAny_pure hq)
end
structure OwnS (K : PySem.W.Frag) (C : Addr) (op : Operator) (f : Addr) : Prop where
  sf : PySem.W.selfFirst K C = true
  find : PySem.W.findIn K (.ref C) (PySem.dunder op.info.2) = some (some (.ref f))
  fn : PySem.W.isFn K (.ref f) = true
structure OprSX (P : Program) (w : World) (K : PySem.W.Frag) (mg : Str → Option Value) (base : Heap) (C : Addr) (op : Operator) (ps : List Str) (k : Nat) (sp : Sp) : Prop where
  ex : ∃ (f : Addr) (fd : FuncData), OwnS K C op f ∧ Binds K fd ps [] ∧ FnOk P w K mg base (L2.CX P w) k f fd ps sp
def rOwnSX (C : Addr) (sp : Sp) (W : WX) : L2.St → R2 := fun σ x y H Q => ∃ a dx fs b dy gs, x = .ref a ∧ y = .ref b ∧ H a = some (.ins C dx fs) ∧ H b = some (.ins C dy gs) ∧ sp [x, y] H Q (wAt W σ)
theorem op_SX {X : Cx} {C : Addr} {ps : List Str} {k : Nat} {sp : Sp} {op : Operator} {W : WX} (F : OprSX X.prog X.w X.K X.mg X.base C op ps k sp) (tk : Takes X W) (hr : Room k X.A) : OpRS X (binaryOp op) (rOwnSX C sp W) := by
  rintro pins s σ H x y v u Q I rx ry ⟨a, dx, fs, b, dy, gs, rfl, rfl, ea, eb, q⟩
  obtain ⟨f, fd, O, hb, ok⟩ := F.ex
  cases rx
  cases ry
  obtain ⟨mA, O', _⟩ := ins_get I.hok ea
  obtain ⟨od, J, _⟩ := O'.look
  obtain ⟨mB, O2, _⟩ := ins_get I.hok eb
  obtain ⟨od2, J2, _⟩ := O2.look
  obtain ⟨m, Fr⟩ := I.fr
  refine own_same Fr I.mod.kin J J2.type O.sf O.find O.fn ?_
  refine thn (run_fnX (us := [.ref a, .ref b]) (vs := [.ref a, .ref b]) ok hr hb .nil tk I (.cons rfl (.cons rfl .nil)) q) fun u' s' ⟨v', H', I', rv, hv⟩ => ?_
  exact relV_back rv ⟨v', H', I', rv, hv⟩

/-! ### C.m(..), m a staticmethod -/
structure SMth (P : Program) (w : World) (K : PySem.W.Frag) (mg : Str → Option Value) (base : Heap) (C : Addr) (m : Str) (ps : List Str) (k : Nat) (sp : Sp) : Prop where
  cr : ClX.CRead K C (.type "type")
  ex : ∃ (f p : Addr) (rest : List Value) (fd : FuncData), PySem.W.findCls K (.ref C) (.type "type") m = some (.get (.builtin "staticmethod.__get__") (.ref p) .none (.ref C)) ∧ PySem.W.recIn K p "staticmethod" = some (.ref f :: rest) ∧ PySem.W.keepIn K (.ref f) = true ∧ Binds K fd ps [] ∧ FnOk P w K mg base CX0 k f fd ps sp
def tSMth (C : Addr) (sp : Sp) (to : TE) (t : TA) : TE := fun σ H Q => to σ H fun x H1 => x = .ref C ∧ t σ H1 fun vs H2 => sp (vs ++ []) H2 Q E0
theorem pe_smth {X : Cx} {C : Addr} {m : Str} {ps : List Str} {k : Nat} {sp : Sp} {o e : Expr} {es : List Expr} {to : TE} {t : TA} {pos apos : Pos} {pl : Sem Bool} (F : SMth X.prog X.w X.K X.mg X.base C m ps k sp) (hr : Room k X.A) (ho : PE X o to) (ha : PA X (e :: es) t)
    (hst : starEach (e :: es) X.env = (false, eval e X.env) :: starEach es X.env := by rfl) (hpl : (backTo pos (starEach es X.env)).any (·.1) = false := by rfl)
    (ht : eval (.Call (.Attribute o m apos) (e :: es) [] pos) X.env = (do
      let ov ← eval o X.env; standAt apos.atName
      let (f, first) ← holding [ov] (getMethod ov m pl)
      callWith pos f first (backTo pos (starEach (e :: es) X.env)) (backToKw pos (keywordEach [] X.env))) := by rfl) :
    PE X (.Call (.Attribute o m apos) (e :: es) [] pos) (tSMth C sp to t) := ⟨fun pins s σ H Q I h => by
  obtain ⟨f, p, rest, fd, hfc, hrc, hk, hb, ok⟩ := F.ex
  refine PySem.W.methodCall_KW (pl := pl) (thn (ho.run pins s σ H _ I h) fun u s1 hs => ?_) ht
  obtain ⟨x, H1, J, rx, ex, q⟩ := hs
  subst ex
  cases rx
  refine PySem.W.method_cls J.kIn F.cr.ga (PySem.W.cls_bind J.kIn F.cr.rd hfc (wpAny_call (PySem.W.sm_get (s := { s1 with toks := s1.toks + 1 }) J.kIn hrc ?_)))
  refine PySem.W.handed_on rfl ?_
  have J' := J.tok (s1.toks + 1)
  refine PySem.W.callWith_K (h₀ := X.base) J.ok.mod.kin hk (thn (ha.run pos pins _ σ H1 _ J' q) fun us s2 hs => ?_) hst hpl
  obtain ⟨vs, H2, J2, r, q2⟩ := hs
  exact ⟨J2.kIn, run_fn ok hr hb .nil pass0 J2 r q2⟩⟩

/-! ### x not in o, by an own __contains__ -/
def rOwnNin (C : Addr) (sp : Sp) : R2 := fun x y H Q => ∃ a dx fs, y = .ref a ∧ H a = some (.ins C dx fs) ∧ sp [y, x] H (fun v H' => ∃ c, v = .bl c ∧ Q (.bl (!c)) H') E0
theorem op_notin {X : Cx} {C : Addr} {ps : List Str} {k : Nat} {sp : Sp} (F : Opr X.prog X.w X.K X.mg X.base C "__contains__" ps k sp) (hr : Room k X.A) : OpR X (compareOp .NotIn) (rOwnNin C sp) := by
  rintro pins s σ H x y v u Q I rx ry ⟨a, dx, fs, rfl, ea, q⟩
  obtain ⟨f, fd, O, hb, ok⟩ := F.ex
  cases ry
  obtain ⟨mA, O', _⟩ := ins_get I.hok ea
  obtain ⟨od, J, _⟩ := O'.look
  obtain ⟨m, Fr⟩ := I.fr
  refine PySem.W.notIn_K Fr I.mod.kin J O.find O.fn ?_
  refine thn (run_fn (us := [.ref a, v]) (vs := [.ref a, x]) ok hr hb .nil pass0 I (.cons rfl (.cons rx .nil)) q) fun u' s' hs => ?_
  obtain ⟨v', H', I', rv, b, rfl, q'⟩ := hs
  cases rv
  exact wpAny_truthy_bool ⟨.bl (!b), H', I', rfl, q'⟩

/-! ### a caught error of an own class: isinstance -/
/-- what the class D must say, so that isinstance asks its instances rightly -/
structure XIs (K : PySem.W.Frag) (D : Addr) : Prop where
  x : XfC K D
  cl : (PySem.W.clsIn K D).isSome = true
  ha : PySem.W.findIn K (.ref D) "__class__" = some (some (.builtin "object.__class__"))
  hn : PySem.W.specialIn K (.builtin "object.__class__") "__get__" = some (some (.builtin "getset_descriptor.__get__"))
  ht : PySem.W.takesIn K (.builtin "object.__class__") = some true
  hm : PySem.W.mroIn K D (.type "object") = some true
def rIsX (K : PySem.W.Frag) (a : Addr) (cls : Value) (d : Option Addr) (D : Addr) : List V → Hp → VK → Prop := fun xs H Q => ∃ (c : V) (cv : Value) (b : Bool) (dd : Addr) (fs : List (Str × V)), xs = [.ref a, c] ∧ cls = .ref D ∧ d = some dd ∧ H dd = some (.xd fs) ∧
  (∀ u, RelV c u → u = cv) ∧ PySem.W.kitOne K (.ref D) cv = some b ∧ Q (.bl b) H
theorem call_isX {X : Cx} {a D : Addr} {oe : Obj} {cls : Value} {d : Option Addr} {pn : List (Addr × Obj)} (N : XIs X.K D) (hz : Zc cls d oe) (hf : ∃ vs, oe.data = .fields vs) : CallR (X.suite a ((a, oe) :: pn)) (.builtin "isinstance") (rIsX X.K a cls d D) := by
  rintro pins s σ H xs us Q I r ⟨c, cv, b, dd, fs, rfl, rfl, rfl, ed, hcv, e, q⟩
  match us, r with
  | [u0, u1], .cons rx (.cons rt .nil) =>
    cases rx
    have ec := hcv _ rt
    subst ec
    have hget := (I.pin (a, oe) (List.mem_append.mpr (.inl List.mem_cons_self))).1
    obtain ⟨vs, hv⟩ := hf
    have hx : ObjOk X.prog X.w H s.heap dd (.xd fs) := I.hok dd _ ed
    obtain ⟨mA, hns, hrel⟩ := hx
    obtain ⟨od, ho, hl⟩ := lookIn_ns hns
    have J : PySem.W.InstAt s.heap a oe D (some od) := ⟨hget, hz.1, by unfold PySem.W.notCls; rw [hv] <;> rfl, by rw [hz.2]; exact ho⟩
    exact PySem.W.kia_one (PySem.W.kitx_exc N.cl N.x.ga N.x.gg N.x.exC N.ha N.hn N.ht N.hm) I.kIn J e (fun z => nomatch z) fun tk => ⟨.bl b, H, I.kept (t' := tk) fun _ _ z => z, rfl, q⟩
/-- the clause's test: the very class -/
theorem exm_own {K : PySem.W.Frag} {C : Addr} {cls : Value} {b : Bool} (h1 : PySem.W.subIn K (.ref C) (.type "BaseException") = some true) (hc : (PySem.W.clsIn K C).isSome = true) (ht : PySem.W.typeIn K (.ref C) = some (.type "type")) (h4 : PySem.W.subIn K cls (.ref C) = some b) :
    PySem.W.exmOne K cls (.ref C) = some b := by
  have e1 : (PySem.W.subIn K (.ref C) (.type "BaseException") == some true) = true := by rw [h1] <;> rfl
  have e2 : ((PySem.W.clsIn K C).isSome && PySem.W.typeIn K (.ref C) == some (.type "type")) = true := by rw [hc, ht] <;> rfl
  show (if (PySem.W.subIn K (.ref C) (.type "BaseException") == some true) = true then (if ((PySem.W.clsIn K C).isSome && PySem.W.typeIn K (.ref C) == some (.type "type")) = true then PySem.W.subIn K cls (.ref C) else none) else none) = some b
  rw [if_pos e1, if_pos e2, h4]
/-- all that is used of an own error class -/
structure ETxt (K : PySem.W.Frag) (mg : Str → Option Value) (x : Str) (C : Addr) : Prop where
  g : mg x = some (.ref C)
  oex : OexC K C
  is : XIs K C
  te : PySem.W.exmOne K (.ref C) (.ref C) = some true
theorem kit_xC {K : PySem.W.Frag} {t : Value} {D : Addr} {b : Bool} (h1 : PySem.W.isClsIn K D = true) (h2 : PySem.W.typeIn K (.ref D) = some (.type "type")) (h3 : PySem.W.subIn K t (.ref D) = some b) : (t = .ref D → b = true) → PySem.W.kitOne K t (.ref D) = some b := fun hb => by
  unfold PySem.W.kitOne
  by_cases e : t = .ref D
  · rw [if_pos (beq_iff_eq.mpr e), hb e]
  · rw [if_neg (fun z => e (beq_iff_eq.mp z))]
    have q : ((PySem.W.clsIn K D).isSome && PySem.W.typeIn K (.ref D) == some (.type "type")) = true := by
      rw [h2, show (PySem.W.clsIn K D).isSome = true from h1]
      rfl
    show (if ((PySem.W.clsIn K D).isSome && PySem.W.typeIn K (.ref D) == some (.type "type")) = true then PySem.W.subIn K t (.ref D) else none) = some b
    rw [if_pos q, h3]
theorem kit_xT {K : PySem.W.Frag} {C : Addr} {b : Bool} (h3 : PySem.W.subIn K (.ref C) (.type "ValueError") = some b) : PySem.W.kitOne K (.ref C) (.type "ValueError") = some b := by
  have km : PySem.W.kitMeta "ValueError" = true := by decide +kernel
  have e : PySem.W.kitCls K (.ref C) (.type "ValueError") = some b := by
    show (if PySem.W.kitMeta "ValueError" = true then PySem.W.subIn K (.ref C) (.type "ValueError") else none) = some b
    rw [if_pos km]
    exact h3
  show (if ((Value.ref C) == (.type "ValueError")) = true then some true else PySem.W.kitCls K (.ref C) (.type "ValueError")) = some b
  have ne : ¬ ((Value.ref C == .type "ValueError") = true) := fun z => by cases beq_iff_eq.mp z
  rw [if_neg ne]
  exact e
/-! ### what such an __init__ leaves, and raise -/
/-- __init__(self, x): self.f = x -/
def spErr1 (C : Addr) (f : Str) (ok : V → Prop) : Sp := fun vs H Q _ => ∃ (a : Addr) (v : V), vs = [.ref a, v] ∧ H a = some (exo a C none) ∧ ok v ∧ ∀ d, H d = none → d ≠ a → Q .non (upd (upd H d (exd d [(f, v)])) a (exo a C (some d)))
/-- __init__(self, x, y): self.f = x; self.g = y -/
def spErr2 (C : Addr) (f g : Str) (ok : V → V → Prop) : Sp := fun vs H Q _ => ∃ (a : Addr) (v u : V), vs = [.ref a, v, u] ∧ H a = some (exo a C none) ∧ ok v u ∧ ∀ d, H d = none → d ≠ a → Q .non (upd (upd (upd H d (exd d [(f, v)])) a (exo a C (some d))) d (exd d [(g, u), (f, v)]))
section
variable {K : PySem.W.Frag} {H : Hp} {C : Addr} {f g : Str}
/-- an error with one field is made -/
theorem rErr1 {ok : V → Prop} {v : V} {R : XK} (o : ok v) (h : ∀ d H', H d = none → Same H H' → H' d = some (.xd [(f, v)]) → R (.ref C) (some d) H') :
    [v].length ≤ 1000 ∧ ∀ a, H a = none → spErr1 C f ok (.ref a :: ([v] ++ [])) (upd H a (exo a C none)) (fun z H2 => z = .non ∧ ∃ (d : Addr) (fs : List (Str × V)), H2 a = some (exo a C (some d)) ∧ H2 d = some (exd d fs) ∧ H d = none ∧ R (.ref C) (some d) (upd (del H2 a) d (.xd fs))) (fun _ _ _ => False) := by
  refine ⟨(by show 1 ≤ 1000; decide), fun a ha => ⟨a, v, rfl, upd_same, o, fun d hd ne => ⟨rfl, d, _, upd_same, ?_, ?_, h _ _ ?_ (fun b u e => ?_) upd_same⟩⟩⟩
  · rw [upd_ne ne, upd_same]
  · rwa [upd_ne ne] at hd
  · rwa [upd_ne ne] at hd
  · have hd' : H d = none := by rwa [upd_ne ne] at hd
    have nd : b ≠ d := ne_of_none e hd'
    have na : b ≠ a := ne_of_none e ha
    rw [upd_ne nd, del_ne na, upd_ne na, upd_ne nd, upd_ne na, e]
theorem rErr2 {ok : V → V → Prop} {v u : V} {R : XK} (o : ok v u) (h : ∀ d H', H d = none → Same H H' → H' d = some (.xd [(g, u), (f, v)]) → R (.ref C) (some d) H') :
    [v, u].length ≤ 1000 ∧ ∀ a, H a = none → spErr2 C f g ok (.ref a :: ([v, u] ++ [])) (upd H a (exo a C none)) (fun z H2 => z = .non ∧ ∃ (d : Addr) (fs : List (Str × V)), H2 a = some (exo a C (some d)) ∧ H2 d = some (exd d fs) ∧ H d = none ∧ R (.ref C) (some d) (upd (del H2 a) d (.xd fs))) (fun _ _ _ => False) := by
  refine ⟨(by show 2 ≤ 1000; decide), fun a ha => ⟨a, v, u, rfl, upd_same, o, fun d hd ne => ⟨rfl, d, _, ?_, upd_same, ?_, h _ _ ?_ (fun b u e => ?_) upd_same⟩⟩⟩
  · rw [upd_ne (Ne.symm ne), upd_same]
  · rwa [upd_ne ne] at hd
  · rwa [upd_ne ne] at hd
  · have hd' : H d = none := by rwa [upd_ne ne] at hd
    have nd : b ≠ d := ne_of_none e hd'
    have na : b ≠ a := ne_of_none e ha
    rw [upd_ne nd, del_ne na, upd_ne nd, upd_ne na, upd_ne nd, upd_ne na, e]
theorem lk_hd {f : Str} {v : V} {fs : List (Str × V)} : ((f, v) :: fs).lookup f = some v := by simp [List.lookup]
theorem lk_tl {f g : Str} {v u : V} {fs : List (Str × V)} (n : (f == g) = false) (h : fs.lookup f = some v) : ((g, u) :: fs).lookup f = some v := by simp [List.lookup, n, h]
theorem rCat_ {l b : Addr} {xs zs : List V} {Q : VK} (h1 : H l = some (.lst xs)) (h2 : H b = some (.lst zs)) (hz : xs.length + zs.length ≤ sizeLine) (h : ∀ p, H p = none → Q (.ref p) (upd H p (.lst (xs ++ zs)))) : rCat (.ref l) (.ref b) H Q := ⟨l, b, xs, zs, rfl, rfl, h1, h2, hz, h⟩
/-- a tuple is unpacked -/
theorem rTupU {a : Addr} {n : Nat} {xs : List V} {t : TGs} {σ : L2.St} {R : L2.St → Hp → Prop} (h : SqT K H a xs) (l : xs.length = n) (q : t xs σ H R) : gTup K n t (.ref a) σ H R := ⟨a, xs, rfl, h, l, q⟩
/-- the clause takes it -/
theorem rTake {c cls : Value} {i : Nat} {ts : Addr → Value → Option Addr → TS} {Wout : WX} {D : Ends} {σ : L2.St} {d : Option Addr} (te : PySem.W.exmOne K cls c = some true)
    (h : ∀ a, H a = none → ts a cls d { nx := fun σ' H' => D.nx (σ'.set i none) H', rt := D.rt, bk := fun σ' H' => D.bk (σ'.set i none) H', ct := fun σ' H' => D.ct (σ'.set i none) H' } (σ.set i (some (.ref a))) H) : wAs K c i ts Wout D cls d σ H :=
  ⟨true, te, fun _ => h, fun z => nomatch z⟩
/-- e.f of the caught error -/
theorem rXf {a dd : Addr} {fs : List (Str × V)} {v : V} {R : V → Prop} (hd : H dd = some (.xd fs)) (l : fs.lookup f = some v) (r : R v) :
    (V.ref a : V) = .ref a ∧ (Value.ref C : Value) = .ref C ∧ ∃ (d' : Addr) (fs : List (Str × V)) (v : V), some dd = some d' ∧ H d' = some (.xd fs) ∧ fs.lookup f = some v ∧ R v := ⟨rfl, rfl, dd, fs, v, rfl, hd, l, r⟩
theorem rIsX_ {c : V} {cv : Value} {b : Bool} {a dd D : Addr} {fs : List (Str × V)} {Q : VK} (hd : H dd = some (.xd fs)) (hc : ∀ u, RelV c u → u = cv) (k : PySem.W.kitOne K (.ref D) cv = some b) (q : Q (.bl b) H) : rIsX K a (.ref D) (some dd) D [.ref a, c] H Q :=
  ⟨c, cv, b, dd, fs, rfl, rfl, rfl, hd, hc, k, q⟩
theorem rIsXC {E : Addr} {b : Bool} {a dd D : Addr} {fs : List (Str × V)} {Q : VK} (hd : H dd = some (.xd fs)) (k : PySem.W.kitOne K (.ref D) (.ref E) = some b) (q : Q (.bl b) H) : rIsX K a (.ref D) (some dd) D [.ref a, .ref E] H Q :=
  rIsX_ hd (fun _ h => h) k q
theorem rIsXT {T : String} {b : Bool} {a dd D : Addr} {fs : List (Str × V)} {Q : VK} (hd : H dd = some (.xd fs)) (k : PySem.W.kitOne K (.ref D) (.type T) = some b) (q : Q (.bl b) H) : rIsX K a (.ref D) (some dd) D [.ref a, .ty T] H Q :=
  rIsX_ hd (fun _ h => h) k q
end
/-- a loop over range(i, j) -/
theorem forW {D : Ends} {σ : L2.St} {H : Hp} {g : TG} {tb : TS} {i j : Int} (n : Nat) (e : (j - i).toNat = n) (Pv : Nat → L2.St → Hp → Prop) (h0 : Pv 0 σ H)
    (hs : ∀ k σ H, k < n → Pv k σ H → g (.int (i + (k : Int))) σ H fun σ2 H2 => tb ⟨Pv (k + 1), D.rt, D.nx, Pv (k + 1)⟩ σ2 H2) (hd : ∀ σ H, Pv n σ H → D.nx σ H) :
    ∃ i' j', [V.int i, V.int j] = [V.int i', V.int j'] ∧ ∃ W : Nat → Nat → L2.St → Hp → Prop, (∃ m, W 0 m σ H) ∧ ∀ k m σ H, W k m σ H →
      ((Itr i' (j' - i').toNat).stop k H ∧ D.nx σ H) ∨ ((Itr i' (j' - i').toNat).go k H ∧ ∃ N : L2.St → Hp → Prop, (∀ σ' H', N σ' H' → ∃ m', m' < m ∧ W (k + 1) m' σ' H') ∧ ∀ x H', (Itr i' (j' - i').toNat).yld k H x H' → g x σ H' fun σ2 H2 => tb { D with nx := N, ct := N, bk := D.nx } σ2 H2) := by
  subst e
  exact ⟨i, j, rfl, for_range (lo := i) (n := (j - i).toNat) Pv h0 hs hd⟩
theorem rMin2 {i j : Int} {H : Hp} {Q : VK} (h : Q (.int (if j < i then j else i)) H) : ∃ i' j', [V.int i, V.int j] = [V.int i', V.int j'] ∧ Q (.int (if j' < i' then j' else i')) H := ⟨i, j, rfl, h⟩
section
variable {D : Ends} {σ : L2.St} {H : Hp} {Q : VK} {sp : Sp} {dvs : List V} {W : WX} {t : TA} {ta tb te : TE} {C : Addr} {R : XK} {K : PySem.W.Frag} {f m : Str}
instance : Rd (tCallX sp dvs W t σ H Q) (t σ H fun vs H1 => sp (vs ++ dvs) H1 Q (wAt W σ)) := ⟨fun h => h⟩
instance : Rd (tMakeX C sp dvs W t σ H Q) (t σ H fun vs H1 => ∀ x dx, H1 x = none → H1 dx = none → dx ≠ x →
  sp (.ref x :: (vs ++ dvs)) (upd (upd H1 dx (.own x)) x (.ins C dx [])) (fun v H2 => v = .non ∧ Q (.ref x) H2) (wAt W σ)) := ⟨fun h => h⟩
instance : Rd (tMethX C m sp dvs W ta t σ H Q) (ta σ H fun x H1 => ∃ a dx fs, x = .ref a ∧ H1 a = some (.ins C dx fs) ∧ fs.lookup m = none ∧ t σ H1 fun vs H2 => sp (x :: (vs ++ dvs)) H2 Q (wAt W σ)) := ⟨fun h => h⟩
instance {to : TE} : Rd (tSMth C sp to t σ H Q) (to σ H fun x H1 => x = .ref C ∧ t σ H1 fun vs H2 => sp (vs ++ []) H2 Q E0) := ⟨fun h => h⟩
instance {r : L2.St → R2} : Rd (tOpS r ta tb σ H Q) (ta σ H fun x H1 => tb σ H1 fun y H2 => r σ x y H2 Q) := ⟨fun h => h⟩
instance : Rd (tMkO C sp dvs t σ H R) (t σ H fun vs H1 => vs.length ≤ 1000 ∧ ∀ a, H1 a = none → sp (.ref a :: (vs ++ dvs)) (upd H1 a (exo a C none))
  (fun v H2 => v = .non ∧ ∃ (d : Addr) (fs : List (Str × V)), H2 a = some (exo a C (some d)) ∧ H2 d = some (exd d fs) ∧ H1 d = none ∧ R (.ref C) (some d) (upd (del H2 a) d (.xd fs))) (fun _ _ _ => False)) := ⟨fun h => h⟩
instance : Rd (tVeI K t σ H Q) (t σ H fun vs H1 => ∃ (a C : Addr) (ws : List V), vs = .ref a :: ws ∧ ws.length ≤ 1000 ∧ OexC K C ∧ H1 a = some (exo a C none) ∧ Q .non H1) := ⟨fun h => h⟩
instance : Rd (tOst K f ta te D σ H) (te σ H fun y H1 => ta σ H1 fun x H2 => ∃ a C : Addr, x = .ref a ∧ OexC K C ∧ PySem.W.findIn K (.ref C) f = some none ∧
  ((H2 a = some (exo a C none) ∧ ∀ dx, H2 dx = none → dx ≠ a → D.nx σ (upd (upd H2 dx (exd dx [(f, y)])) a (exo a C (some dx)))) ∨
    ∃ (dx : Addr) (fs : List (Str × V)), H2 a = some (exo a C (some dx)) ∧ H2 dx = some (exd dx fs) ∧ fs.length ≤ 900 ∧ D.nx σ (upd H2 dx (exd dx ((f, y) :: fs))))) := ⟨fun h => h⟩
instance {a : Addr} {cls : Value} {d : Option Addr} : Rd (tXf a cls d C f te σ H Q) (te σ H fun x H1 => x = .ref a ∧ cls = .ref C ∧ ∃ (dd : Addr) (fs : List (Str × V)) (v : V), d = some dd ∧ H1 dd = some (.xd fs) ∧ fs.lookup f = some v ∧ Q v H1) := ⟨fun h => h⟩
instance {n m : Nat} {gV : List V → List V → List V} {E : XK} {tk : TA} : Rd (tMakeN C n m sp gV E t tk σ H Q) (t σ H fun vs H1 => tk σ H1 fun zs H2 => vs.length = n ∧ zs.length = m ∧
  ∀ x dx, H2 x = none → H2 dx = none → dx ≠ x → sp (gV (.ref x :: vs) zs) (upd (upd H2 dx (.own x)) x (.ins C dx [])) (fun v H3 => v = .non ∧ Q (.ref x) H3) E) := ⟨fun h => h⟩
instance {i j : Nat} : Rd (tPar i j t D σ H) (t σ H fun vs H1 => ∃ v w, vs = [v, w] ∧ D.nx ((σ.set i (some v)).set j (some w)) H1) := ⟨fun h => h⟩
instance {x y : V} {R : V → V → Prop} : Rd (∃ v w, [x, y] = [v, w] ∧ R v w) (R x y) := ⟨fun h => ⟨x, y, rfl, h⟩⟩
instance {QI : It → Hp → Prop} : Rd (iRngW t σ H QI) (t σ H fun vs H1 => ∃ i j : Int, vs = [.int i, .int j] ∧ QI (Itr i (j - i).toNat) H1) := ⟨fun h => h⟩
instance : Rd (tRevL K te σ H Q) (te σ H fun x H1 => ∃ a xs, x = .ref a ∧ SqL K H1 a xs ∧ ∀ p, H1 p = none → Q (.ref p) (upd H1 p (.lst xs.reverse))) := ⟨fun h => h⟩
instance {y : V} {ys : List V} {S : V → List V → Prop} : Rd (∃ v r, (y :: ys) = v :: r ∧ S v r) (S y ys) := ⟨fun h => ⟨y, ys, rfl, h⟩⟩
instance {R : Prop} : Rd (([] : List V) = [] ∧ R) R := ⟨fun h => ⟨rfl, h⟩⟩
instance {tg : TG} {u : TGs} {vs : List V} {QS : L2.St → Hp → Prop} : Rd (gCons tg u vs σ H QS) (∃ v r, vs = v :: r ∧ tg v σ H fun σ' H' => u r σ' H' QS) := ⟨fun h => h⟩
instance {vs : List V} {QS : L2.St → Hp → Prop} : Rd (gNil vs σ H QS) (vs = [] ∧ QS σ H) := ⟨fun h => h⟩
instance {d : Option Addr} {cls : Value} : Rd (wAt W σ cls d H) (W cls d σ H) := ⟨fun h => h⟩
end
section
variable {σ τ : L2.St} {H : Hp} {g : TG} {tt : TT} {te : TE} {vs : List Nat}
/-- over a tuple that stands still -/
theorem lcT {K : PySem.W.Frag} {a : Addr} {xs : List V} {R : Addr → Hp → Prop} (ew : wipe σ vs = τ) (hx : SqT K H a xs)
    (h : ∀ D, H D = none → ∃ Pv : Nat → Hp → Prop, Pv 0 (upd H D (.lst [])) ∧ (∀ i H', i ≤ xs.length → Pv i H' → SqT K H' a xs) ∧
      (∀ i x H', xs[i]? = some x → Pv i H' → g x τ H' fun σ2 H2 => wipe σ2 vs = τ ∧ tt σ2 H2 fun b H3 =>
        if b = true then te σ2 H3 fun y H4 => ∃ acc, H4 D = some (.lst acc) ∧ acc.length < sizeLine ∧ Pv (i + 1) (upd H4 D (.lst (acc ++ [y]))) else Pv (i + 1) H3) ∧ ∀ H', Pv xs.length H' → R D H') :
    ∃ a', V.ref a = V.ref a' ∧ (∃ xs, SqT K H a' xs) ∧ ∀ D, H D = none → ∃ W : Nat → Nat → Hp → Prop, (∃ m, W 0 m (upd H D (.lst []))) ∧ ∀ i m H, W i m H →
      ((Itt K a').stop i H ∧ R D H) ∨ ((Itt K a').go i H ∧ ∃ Nx : Hp → Prop, (∀ H', Nx H' → ∃ m', m' < m ∧ W (i + 1) m' H') ∧ ∀ x H', (Itt K a').yld i H x H' → g x (wipe σ vs) H' fun σ2 H2 => wipe σ2 vs = wipe σ vs ∧ tt σ2 H2 fun b H3 =>
        if b = true then te σ2 H3 fun y H4 => ∃ acc, H4 D = some (.lst acc) ∧ acc.length < sizeLine ∧ Nx (upd H4 D (.lst (acc ++ [y]))) else Nx H3) := by
  subst ew
  refine ⟨a, rfl, ⟨xs, hx⟩, fun D hD => ?_⟩
  obtain ⟨Pv, h0, hl, hs, hd⟩ := h D hD
  exact lc_tup Pv h0 hl hs hd
end
end Bar

set_option Elab.async false
set_option linter.all false
set_option maxRecDepth 100000
set_option maxHeartbeats 4000000
namespace Bar
open PySem L2 PySem.Spec PyProof.Rows
/-- several clauses that give what they take one and the same name -/
abbrev TakeL := List (Value × (Addr → Value → Option Addr → TS))
def wAll (K : PySem.W.Frag) (i : Nat) (Wout : WX) (D : Ends) : TakeL → WX
  | [] => Wout
  | p :: r => wAs K p.1 i p.2 (wAll K i Wout D r) D
/-- the clauses as they are written, and what is read of each -/
inductive Clauses (X : Cx) (n : Str) : List ExceptHandler → TakeL → Prop
  | nil : Clauses X n [] []
  | cons {x : Str} {c : Value} {ts : Addr → Value → Option Addr → TS} {st : Stmt} {rest : List Stmt} {q q' : Pos} {more : List ExceptHandler} {l : TakeL} (names : Names X x c)
      (body : ∀ (a : Addr) (ob : Obj) (k : Value) (d : Option Addr) (pn : List (Addr × Obj)), Zc k d ob → (∃ fs, ob.data = .fields fs) → PSs (X.suite a ((a, ob) :: pn)) (st :: rest) (ts a k d))
      (tail : Clauses X n more l) : Clauses X n (.ExceptHandler (some (.Name x q)) (some n) (st :: rest) q' :: more) ((c, ts) :: l)
section
variable {X : Cx} {n : Str} {i : Nat} {body : List Stmt} {hd : ExceptHandler} {hds : List ExceptHandler} {l : TakeL} {pos : Pos} {tb : WX → TS} {Wout : WX}
theorem ps_try_all (st : X.stack = X.env :: X.outer) (fr : X.env.frame = some X.env.locals) (nd : X.N.Nodup) (at_i : X.N[i]? = some n) (loc : X.env.kindOf n = some .local) (tk : Takes X Wout)
    (run : ∀ (W : WX) (pn : List (Addr × Obj)) (xe : Value → Shared → Prop), Takes (X.tr pn xe) W → PassesOwn (model X.prog X.w) X.A X.env xe → PSs (X.tr pn xe) body (tb W))
    (cs : Clauses X n (hd :: hds) l) : PS X (.Try body (hd :: hds) [] [] pos) (fun D σ H => tb (wAll X.K i Wout D l) D σ H) := by
  constructor
  intro pins s σ H D I h
  have ok := I.ok
  have frs_eq : X.A.frames = some (X.env :: X.outer) := ok.frames.trans (by rw [st])
  have catches : Takes (X.tr (X.pn ++ pins) fun e s₁ => wpAny (model X.prog X.w) X.A (noteFrame e X.env) (fun _ s₂ => wpAny (model X.prog X.w) X.A (setFlight e none) (fun _ s₃ => wpAny (model X.prog X.w) X.A (handleBy e X.env (hd :: hds)) (SP X pins D) X.xe s₃) X.xe s₂) X.xe s₁)
      (wAll X.K i Wout D l) := by
    intro u s' hx
    obtain ⟨a, B, sI, pins', τ, G, k, d, rfl, J0, nb, up, sky, na, os, ag, w⟩ := hx
    have J : Inv X pins τ G sI := J0.ofTry ok
    rw [show (X.tr (X.pn ++ pins) _).stack = X.stack from rfl, st] at sky
    refine Sky.land Zc.steady frs_eq fr sky fun h3 fly up3 => ?_
    have J3 : Inv X pins τ G { s' with heap := h3 } := J.landed nb fly.1 (up.trans up3) os ag
    obtain ⟨ob, fs, e_ob, z_ob, f_ob⟩ := fly.there
    have apart : a ∉ frs (X.env :: X.outer) := fun hm => by
      obtain ⟨_, o', e', no⟩ := fly.2.2.1.mem hm
      cases e_ob.symm.trans e'
      exact no _ f_ob
    have n1 : a ≠ X.env.locals := fun z => apart (List.mem_filterMap.mpr ⟨X.env, .head _, by rw [fr, z]⟩)
    have n2 : a ∉ X.fs := fun hm => by
      obtain ⟨e, he, q⟩ := List.mem_filterMap.mp hm
      exact apart (List.mem_filterMap.mpr ⟨e, .tail _ he, q⟩)
    have S3 := J3.suite e_ob f_ob na n1 n2
    suffices go : ∀ {hs : List ExceptHandler} {m : TakeL}, Clauses X n hs m → wAll X.K i Wout D m k d τ G → wpAny (model X.prog X.w) X.A (handleBy (.ref a) X.env hs) (SP X pins D) X.xe { s' with heap := h3 } from go cs w
    intro hs m hk
    induction hk with
    | nil =>
      intro w
      refine wpAny_handleBy_nil ?_
      obtain ⟨_, _, _, oe, vs, Tr, oT, ts', he, hz, hd', h1, _⟩ := id fly
      unfold PySem.passOn
      refine wpAny_bind (wpAny_field he hd' h1 ?_)
      rw [if_neg (show ¬ ((Value.ref Tr == Value.none) = true) by simp)]
      have out : wpAny (model X.prog X.w) X.A (setFlight (.ref a) X.env.frame) (fun _ s4 => wpAny (model X.prog X.w) X.A (throw (.ref a) : Sem Flow) (SP X pins D) X.xe s4) X.xe { s' with heap := h3 } := by
        rw [fr]
        refine HandSPX.setFlight_upZ fly fun h4 hh4 up4 => wpAny_throw (tk _ _ ⟨a, B, sI, pins, τ, G, k, d, rfl, J, nb, (up.trans up3).trans up4, .inr (.inr (by rw [st]; exact hh4)), na, os, ag, w⟩)
      first
        | exact wpAny_bind (wpAny_pure (wpAny_bind out))
        | exact wpAny_bind out
    | @cons x c ts s0 rest q q' more m2 names suite tail ih =>
      intro w
      obtain ⟨b, e1, yes, no⟩ := w
      refine wpAny_handleBy_cons (codeAny_handlers_test ?_) (by intro q; cases q)
      have ty : PySem.W.Looks (model X.prog X.w) h3 (typeOf (.ref a)) k := fun A Q E s kk q => wpAny_typeOf_ref (kk _ _ e_ob) (by rw [z_ob.1]; exact q)
      have match_ := PySem.W.exm_one (M := model X.prog X.w) J3.kIn ty e1
      have reads : ∀ {Q : Value → Shared → Prop} {E : Value → Shared → Prop}, Q c { s' with heap := h3 } → wpAny (model X.prog X.w) (X.A.mark (some (.ref a))) (eval (.Name x q) X.env) Q E { s' with heap := h3 } := fun {Q E} hq => by
        obtain ⟨g, db, hm | ⟨hm, hv, nn⟩⟩ := names
        · exact ld_glob (X := X.suite a ((a, ob) :: (X.pn ++ pins))) S3 g hm hq db
        · exact ld_blt (X := X.suite a ((a, ob) :: (X.pn ++ pins))) S3 g hm hv hq nn db
      refine reads (match_.here ?_)
      cases b with
      | false => exact ih (no rfl)
      | true =>
        refine codeAny_handlers_suite_as ?_
        refine HandSPX.lands_againZ fly fun h4 fly4 up4 => ?_
        have J4 : Inv X pins τ G { s' with heap := h4 } := J.landed nb fly4.1 ((up.trans up3).trans up4) os ag
        obtain ⟨ob4, fs4, e4, z4, f4⟩ := fly4.there
        have S4 := J4.suite e4 f4 na n1 n2
        refine store_ok (X := X.suite a ((a, ob4) :: (X.pn ++ pins))) (v := .ref a) S4 nd at_i (.inl loc) rfl (fun s5 S5 => ?_) (.inr loc)
        refine wpAny_mono ((suite a ob4 k d (X.pn ++ pins) z4 ⟨_, f4⟩).run [] s5 _ G _ S5 (yes rfl a na)) (fun f s6 sp => ?_) (fun _ _ z => z.elim)
        have ends : ∀ {ρ : L2.St} {H6 : Hp} {Q : Shared → Prop}, Inv (X.suite a ((a, ob4) :: (X.pn ++ pins))) [] ρ H6 s6 → (∀ s7, Inv X pins (ρ.set i none) H6 s7 → Q s7) → wpAny (model X.prog X.w) X.A (do bindName X.env n .none; unbindBehindTheSuite X.env n q') (fun _ s7 => Q s7) X.xe s6 :=
          fun S6 hq => gone_ok (S6.unsuite ok) nd at_i loc hq
        cases f with
        | next => obtain ⟨_, _, S6, z⟩ := sp; exact ends S6 fun s7 J7 => ⟨_, _, J7, z⟩
        | brk => obtain ⟨_, _, S6, z⟩ := sp; exact ends S6 fun s7 J7 => ⟨_, _, J7, z⟩
        | cont => obtain ⟨_, _, S6, z⟩ := sp; exact ends S6 fun s7 J7 => ⟨_, _, J7, z⟩
        | ret u => obtain ⟨_, _, _, S6, r6, z⟩ := sp; exact ends S6 fun s7 J7 => ⟨_, _, _, J7, r6, z⟩
  refine wpAny_Try_except (wpAny_mono ((run _ (X.pn ++ pins) _ catches PassesOwn.looking).run [] s σ H D (I.toTry _) h) (fun f s1 sp => ?_) (fun _ _ z => z))
  cases f with
  | next => obtain ⟨_, _, J', z⟩ := sp; exact wpAny_execs_nil ⟨_, _, J'.ofTry ok, z⟩
  | brk => obtain ⟨_, _, J', z⟩ := sp; exact ⟨_, _, J'.ofTry ok, z⟩
  | cont => obtain ⟨_, _, J', z⟩ := sp; exact ⟨_, _, J'.ofTry ok, z⟩
  | ret u => obtain ⟨_, _, _, J', r, z⟩ := sp; exact ⟨_, _, _, J'.ofTry ok, r, z⟩
end
instance {K : PySem.W.Frag} {i : Nat} {W : WX} {D : Ends} {c : Value} {ts : Addr → Value → Option Addr → TS} {r : TakeL} {cls : Value} {d : Option Addr} {σ : L2.St} {H : Hp} : Rd (wAll K i W D ((c, ts) :: r) cls d σ H) (wAs K c i ts (wAll K i W D r) D cls d σ H) := ⟨fun h => h⟩
/-- the clause leaves it to the next one -/
theorem rPass {K : PySem.W.Frag} {c cls : Value} {i : Nat} {ts : Addr → Value → Option Addr → TS} {Wout : WX} {D : Ends} {σ : L2.St} {H : Hp} {d : Option Addr} (te : PySem.W.exmOne K cls c = some false) (h : Wout cls d σ H) : wAs K c i ts Wout D cls d σ H :=
  ⟨false, te, (fun z => nomatch z), fun _ => h⟩
end Bar

set_option Elab.async false
set_option linter.all false
set_option maxRecDepth 100000
set_option maxHeartbeats 4000000
/-! calls through super() in the first statement of a method -/
namespace Bar
open PySem L2 PySem.Spec PyProof.Rows ClX NdefX

/-! ### an expression, a statement, a block at the code that is known to run -/
structure PEa (X : Cx) (c : Code) (e : Expr) (t : TE) : Prop where
  run : ∀ (pins : List (Addr × Obj)) (s : Shared) (σ : L2.St) (H : Hp) (Q : VK), Inv X pins σ H s → t σ H Q → _root_.PySem.wpAt (model X.prog X.w) X.A c (eval e X.env) (EP X pins σ Q) X.xe s
structure PSa (X : Cx) (c : Code) (st : Stmt) (t : TS) : Prop where
  run : ∀ (pins : List (Addr × Obj)) (s : Shared) (σ : L2.St) (H : Hp) (D : Ends), Inv X pins σ H s → t D σ H → _root_.PySem.wpAt (model X.prog X.w) X.A c (exec st X.env) (SP X pins D) X.xe s
structure PSsa (X : Cx) (c : Code) (ss : List Stmt) (t : TS) : Prop where
  run : ∀ (pins : List (Addr × Obj)) (s : Shared) (σ : L2.St) (H : Hp) (D : Ends), Inv X pins σ H s → t D σ H → _root_.PySem.wpAt (model X.prog X.w) X.A c (execs ss X.env) (SP X pins D) X.xe s
section
variable {X : Cx} {c : Code} {a b e : Expr} {s1 : Stmt} {ss : List Stmt} {ta tb te : TE} {t u : TS} {pos p' : Pos} {i : Nat} {x : Str}
theorem PSsa.nox (h : PSsa X.nox c ss t) : PSsa X c ss t := ⟨fun pins s σ H D I hw => ks_wpAt_mono (h.run pins s σ H D (I.wish _) hw) (fun _ _ q => q.unwish) fun _ _ z => z.elim⟩
theorem pea_op {op : Operator} {r : R2} (hr : OpR X (binaryOp op) r) (ha : PEa X c a ta) (hb : PE X b tb) : PEa X c (.BinOp a op b pos) (tOp r ta tb) := ⟨fun pins s σ H Q I h => by
  refine ks_wpAt_BinOp (ks_wpAt_mono (ha.run pins s σ H _ I h) (fun v s1 q => ?_) fun _ _ z => z)
  obtain ⟨y, H1, I1, r1, q1⟩ := q
  refine thn (hb.run pins s1 σ H1 _ I1 q1) fun w s2 q => ?_
  obtain ⟨z, H2, I2, r2, q2⟩ := q
  exact hr pins s2 σ H2 y z v w Q I2 r1 r2 q2⟩
theorem psa_expr (he : PEa X c e te) (hs : swapsWith e none pos.line X.env = pure false := by rfl) : PSa X c (.Expr e pos) (tDrop te) := ⟨fun pins s σ H D I h => by
  refine ks_wpAt_Expr_any (ks_wpAt_mono (he.run pins s σ H _ I h) (fun v s1 q => ?_) fun _ _ z => z) I.quiet hs
  obtain ⟨y, H1, I1, r1, q1⟩ := q
  exact ⟨σ, H1, I1, q1⟩⟩
theorem psa_ret (he : PEa X c e te) : PSa X c (.Return (some e) pos) (tRet te) := ⟨fun pins s σ H D I h => by
  refine ks_wpAt_Return_some (ks_wpAt_mono (he.run pins s σ H _ I h) (fun v s1 q => ?_) fun _ _ z => z)
  obtain ⟨y, H1, I1, r1, q1⟩ := q
  exact ⟨y, σ, H1, I1, r1, q1⟩⟩
theorem psa_set (hN : X.N.Nodup) (hi : X.N[i]? = some x) (hx : Loc X.env.scope x) (he : PEa X c e te) (hs : swapsWith e (some (.Name x p')) pos.line X.env = pure false := by rfl)
    (hf : X.fn x = true ∨ X.env.scope.names.lookup x = some .local := by first | exact .inl rfl | exact .inr rfl | assumption) : PSa X c (.Assign [.Name x p'] e pos) (tAsg te (gName i)) := ⟨fun pins s σ H D I h => by
  refine ks_wpAt_Assign_Name (ks_wpAt_mono (he.run pins s σ H _ I h) (fun v s1 q => ?_) fun _ _ z => z) hs
  obtain ⟨y, H1, I1, r1, q1⟩ := q
  exact store_ok I1 hN hi hx r1 (fun s2 I2 => ⟨_, H1, I2, q1⟩) hf⟩
theorem pssa_cons (h : PSa X c s1 t) (hs : PSs X ss u) : PSsa X c (s1 :: ss) (tSeq t u) := ⟨fun pins s σ H D I q => by
  refine ks_wpAt_execs_cons (ks_wpAt_mono (h.run pins s σ H _ I q) (fun f s1 z => ?_) fun _ _ z => z)
  match f, z with
  | .next, ⟨σ', H', J, q'⟩ => exact wpAt_of_wpAny (hs.run pins s1 σ' H' D J q')
  | .ret _, z => exact z
  | .brk, z => exact z
  | .cont, z => exact z⟩
end

/-! ### what super().m stands for -/
/-- in the def f (of class D, its cell at cc, its record at cda), called for an instance of the class C: super().m is f2 -/
structure Sup (P : Program) (K : PySem.W.Frag) (mg : Str → Option Value) (f cda cc C : Addr) (slf m : Str) (f2 : Addr) : Prop where
  fn : ∃ (oc : Value) (od : Option Addr) (fd : FuncData) (osl : Array (Option Value)) (ar : Arg), K.lookup f = some ⟨oc, od, .func fd, osl⟩ ∧ (fd.params.posonlyargs ++ fd.params.args).head? = some ar ∧ ar.arg = slf
  code : ∃ (ccl : Value) (cdd : Option Addr) (vs : Array Value) (ccs : Array (Option Value)) (file : Str) (tf : Tok), K.lookup cda = some ⟨ccl, cdd, .fields vs, ccs⟩ ∧ vs[2]? = some (.str file tf) ∧ ((P.main.file : Str) == file) = true
  top : (P.main.scope.names.lookup ("super" : Str)).isSome = false
  cell : ∃ (D : Addr) (cl : Value) (cld : Option Addr) (csl : Array (Option Value)) (cdD : ClassData), K.lookup cc = some ⟨cl, cld, .cell (some (.ref D)), csl⟩ ∧ PySem.W.clsIn K D = some cdD ∧ PySem.W.mroIn K C (.ref D) = some true ∧ PySem.W.ks_superIn K C D m = some (some (.ref f2))
  sup : mg "super" = none
  none' : PySem.W.nsIn K cStatics "thirdparty.any" = some none
  ty : PySem.W.typeIn K (.ref f2) = some (.type "function")
  fi : PySem.W.fnIn K f2 = true
  nm : (m == ("__class__" : Str)) = false
theorem boot_super : bootBuiltins "super" = some (.type "super") := by boot_by_name
/-- a call of the function at f2 -/
structure Runs (X : Cx) (f2 : Addr) (R : List V → L2.St → Hp → VK → Prop) : Prop where
  run : ∀ (pins : List (Addr × Obj)) (s : Shared) (σ : L2.St) (H : Hp) (us : List Value) (vs : List V) (Q : VK), Inv X pins σ H s → Vals vs us → R vs σ H Q →
    codeAny (model X.prog X.w) X.A (.call (.ref f2) ⟨us, []⟩) (fun r s' => match r with | .ok (.ret v) => EP X pins σ Q v s' | .ok _ => False | .error e => X.xe e s') s
section
variable {X : Cx} {W : WX} {k : Nat} {f : Addr} {fd : FuncData} {ps : List Str} {sp : Sp} {dvs : List V} {ds : List Value}
theorem runs_fnX (F : FnOk X.prog X.w X.K X.mg X.base (L2.CX X.prog X.w) k f fd ps sp) (hr : Room k X.A) (hb : Binds X.K fd ps ds) (hd : Vals dvs ds) (tk : Takes X W) : Runs X f fun vs σ H Q => sp (vs ++ dvs) H Q (wAt W σ) := ⟨fun pins s σ H us vs Q I r h => by
  have r2 : Vals (vs ++ dvs) (us ++ ds) := r.append hd
  have hl : (us ++ ds).length = ps.length := r2.length.symm.trans (F.len _ _ _ _ h)
  refine codeAny_mono (F.run X.A X.stack s H ⟨us, []⟩ (us ++ ds) (vs ++ dvs) Q (wAt W σ) hr I.env0 (hb s us I.kIn hl) r2 h) fun z s' hq => ?_
  match z, hq with
  | .error e, hq => exact tk e s' (XE.of_call I (fun _ _ _ h => h) hq)
  | .ok (.ret u), hq => exact I.after hq⟩
theorem runs_fn (F : FnOk X.prog X.w X.K X.mg X.base CX0 k f fd ps sp) (hr : Room k X.A) (hb : Binds X.K fd ps ds) (hd : Vals dvs ds) : Runs X f fun vs σ H Q => sp (vs ++ dvs) H Q E0 := ⟨fun pins s σ H us vs Q I r h => by
  have r2 : Vals (vs ++ dvs) (us ++ ds) := r.append hd
  have hl : (us ++ ds).length = ps.length := r2.length.symm.trans (F.len _ _ _ _ h)
  refine codeAny_mono (F.run X.A X.stack s H ⟨us, []⟩ (us ++ ds) (vs ++ dvs) Q E0 hr I.env0 (hb s us I.kIn hl) r2 h) fun z s' hq => ?_
  match z, hq with
  | .error e, hq => exact pass0 pins σ H s e s' I hq
  | .ok (.ret u), hq => exact I.after hq⟩
end
/-- super().m(..) of the instance in slot 0 -/
def tSup (C : Addr) (R : List V → L2.St → Hp → VK → Prop) (t : TA) : TE := fun σ H Q => ∃ (a dx : Addr) (fs : List (Str × V)), σ[0]? = some (some (.ref a)) ∧ H a = some (.ins C dx fs) ∧ t σ H fun vs H1 => R (.ref a :: vs) σ H1 Q
instance {C : Addr} {R : List V → L2.St → Hp → VK → Prop} {t : TA} {a : Addr} {σ : L2.St} {H : Hp} {Q : VK} : Rd (tSup C R t (some (.ref a) :: σ) H Q) (∃ (dx : Addr) (fs : List (Str × V)), H a = some (.ins C dx fs) ∧ t (some (.ref a) :: σ) H fun vs H1 => R (.ref a :: vs) (some (.ref a) :: σ) H1 Q) :=
  ⟨fun ⟨dx, fs, h, q⟩ => ⟨a, dx, fs, rfl, h, q⟩⟩
section
variable {X : Cx} {body : List Stmt} {f cda cc C f2 : Addr} {slf m : Str} {R : List V → L2.St → Hp → VK → Prop} {p0 p1 p2 pos : Pos} {e : Expr} {es : List Expr} {t : TA} {pl : Sem Bool}
/-- the way to the bound method -/
theorem sup_bound {pins : List (Addr × Obj)} {s : Shared} {σ : L2.St} {H : Hp} {a dx : Addr} {fs : List (Str × V)} {Q : Value → Shared → Prop} {whole : Sem Value} (S : Sup X.prog X.K X.mg f cda cc C slf m f2) (hks : Gl X "super") (hkc : X.env.kindOf ("__class__" : Str) = some .free) (hfu : X.env.func = some f) (hco : X.env.code = .ref cda)
    (hcl : X.env.cells.lookup ("__class__" : Str) = some cc) (h0 : X.N[0]? = some slf) (hself : X.env.kindOf slf = some .local) (I : Inv X pins σ H s) (ea : σ[0]? = some (some (.ref a))) (eh : H a = some (.ins C dx fs))
    (h : ∀ q s', Inv X ((q, PySem.W.methodObj (.ref f2) (.ref a)) :: pins) σ H s' → X.base.get? q = none → Q (.ref q) s') :
    _root_.PySem.wpAt (model X.prog X.w) X.A (.func body X.env) (attributeBase (.Call (.Name "super" p0) [] [] p1) m X.env whole) (fun ov s₁ => wpAny (model X.prog X.w) X.A (getMethod ov m pl) (fun fx s₂ => fx.2 = [] ∧ Q fx.1 s₂) X.xe s₁) X.xe s := by
  obtain ⟨oc, od, fd, osl, ar, lf, hp, rfl⟩ := S.fn
  obtain ⟨ccl, cdd, vs, ccs, file, tf, lc, hvs, hfile⟩ := S.code
  obtain ⟨D, cl, cld, csl, cdD, lcell, hD, hsub, hsup⟩ := S.cell
  have kx := I.kIn
  obtain ⟨oD, hD1, hD2⟩ : ∃ oD, s.heap.get? D = some oD ∧ oD.data = .cls cdD := by
    unfold PySem.W.clsIn at hD
    split at hD
    · rename_i c d cd' sl ho
      cases hD
      exact ⟨_, kx _ _ ho, rfl⟩
    · cases hD
  refine ks_wpAt_super_base (env := X.env) hks hkc S.nm hfu (kx _ _ lf) rfl hp hco (kx _ _ lc) rfl hvs hfile S.top ?_
  obtain ⟨mb, b1, b2⟩ := I.mod.blt
  refine PySem.W.ks_loadName_global I.ok.kind hks (Calls.loadGlobal_builtin (by rw [I.ok.glob]; exact I.mod.glob.keeps I.bk) S.sup (by rw [I.ok.blt]; exact b1.keeps I.bk) ((b2 "super" (by decide)).trans boot_super) ⟨rfl, ?_⟩)
  refine wpAny_loadName_free I.ok.kind hkc hcl ⟨_, kx _ _ lcell, rfl⟩ ?_
  obtain ⟨ns, hn, hl⟩ := id I.loc
  obtain ⟨u, ru, lk⟩ := hl 0 ar.arg (.ref a) h0 ea (.inl hself)
  obtain rfl : u = Value.ref a := ru
  have hv : ns ar.arg = some (.ref a) := by
    rcases lk with ⟨_, hv⟩ | ⟨z, _⟩
    · exact hv
    · rw [hself] at z
      rcases z with z | z <;> cases z
  refine wpAny_loadName_local I.ok.kind hself hn hv ?_
  obtain ⟨mA, O', _⟩ := ins_get I.hok eh
  obtain ⟨odo, J, _⟩ := O'.look
  obtain ⟨hh, g, d, tk, os⟩ := s
  refine ks_wpAny_isType_cls hD1 hD2 ⟨rfl, ?_⟩
  refine ks_wpAny_call_super hD1 hD2 J.at_ J.cls (fun c e => ?_) (PySem.W.looks_mroIn kx hsub) (fun h' e kp => ?_)
  · have := J.no
    unfold PySem.W.notCls at this
    rw [e] at this
    exact Bool.noConfusion this
  · have J1 : Inv X ((hh.objs.size, PySem.W.ks_superObj D a C) :: pins) σ H { heap := h', gens := g, drawn := d, toks := tk, os := os } := pin_new (t' := tk) I kp (Nat.le_refl _) e fun v z => nomatch z
    have kx1 := J1.kIn
    obtain ⟨of, hof, hofc⟩ : ∃ of, h'.get? f2 = some of ∧ of.cls = .type "function" := by
      have ht : (X.K.lookup f2).map (·.cls) = some (.type "function") := S.ty
      cases z : X.K.lookup f2 with
      | none => rw [z] at ht; cases ht
      | some of => rw [z] at ht; exact ⟨of, kx1 _ _ z, Option.some.inj ht⟩
    obtain ⟨cd, hc, hal⟩ := Option.bind_eq_some_iff.mp (show (PySem.W.clsIn X.K C).bind _ = _ from hsup)
    have ne : a ≠ C := PySem.W.ks_ne kx J hc
    refine ks_wpAny_getMethod_super (pin_at J1) (PySem.W.looks_opaque kx1 S.none') (l₀ := cd.mro) (fun A Q E s kk q => wpAny_bind ((PySem.W.looks_clsIn kx1 hc) A _ E s kk (wpAny_pure q))) rfl kx1 hal hof hofc ne S.nm ?_
    have J2 : Inv X ((h'.objs.size, PySem.W.methodObj (.ref f2) (.ref a)) :: (hh.objs.size, PySem.W.ks_superObj D a C) :: pins) σ H { heap := h'.push (PySem.W.methodObj (.ref f2) (.ref a)), gens := g, drawn := d, toks := tk + 1, os := os } :=
      pin_new (t' := tk + 1) J1 (fun _ _ z => Heap.get?_push_of_some _ z) (Nat.le_refl _) (Heap.get?_push_size h' rfl) fun v z => nomatch z
    refine ⟨rfl, h _ _ (J2.pins_of fun p hp => ?_) (base_none J1 (Nat.le_refl _))⟩
    rcases List.mem_cons.mp hp with e | hp
    · exact J2.pin p (List.mem_append_right _ (by rw [e]; exact .head _))
    · exact J2.pin p (List.mem_append_right _ (.tail _ (.tail _ hp)))
/-- super().m(e, ..) -/
theorem pea_sup (S : Sup X.prog X.K X.mg f cda cc C slf m f2) (ru : Runs X f2 R) (hks : Gl X "super") (hkc : X.env.kindOf ("__class__" : Str) = some .free) (hfu : X.env.func = some f) (hco : X.env.code = .ref cda) (hcl : X.env.cells.lookup ("__class__" : Str) = some cc)
    (h0 : X.N[0]? = some slf) (hself : X.env.kindOf slf = some .local) (ha : PA X (e :: es) t) (hst : starEach (e :: es) X.env = (false, eval e X.env) :: starEach es X.env := by rfl) (hpl : (backTo pos (starEach es X.env)).any (·.1) = false := by rfl)
    (ht : eval (.Call (.Attribute (.Call (.Name "super" p0) [] [] p1) m p2) (e :: es) [] pos) X.env = (do
      let ov ← attributeBase (.Call (.Name "super" p0) [] [] p1) m X.env (eval (.Call (.Name "super" p0) [] [] p1) X.env)
      standAt p2.atName
      let (f, first) ← holding [ov] (getMethod ov m pl)
      callWith pos f first (backTo pos (starEach (e :: es) X.env)) []) := by rfl) :
    PEa X (.func body X.env) (.Call (.Attribute (.Call (.Name "super" p0) [] [] p1) m p2) (e :: es) [] pos) (tSup C R t) := ⟨fun pins s σ H Q I h => by
  obtain ⟨a, dx, fs, ea, eh, q⟩ := h
  refine ks_wpAt_MethodCall (pl := pl) (ks_wpAt_mono (sup_bound (pl := pl) (Q := fun u s₂ => wpAny (model X.prog X.w) X.A (callWith pos u [] (backTo pos (starEach (e :: es) X.env)) []) (EP X pins σ Q) X.xe s₂) S hks hkc hfu hco hcl h0 hself I ea eh fun q' s' J hb => ?_) (fun ov s₁ z => thn z fun fx s₂ z => ?_) fun _ _ z => z) ht
  · have hq := pin_at J
    have hL : q' ≠ X.env.locals := (J.pin (q', PySem.W.methodObj (.ref f2) (.ref a)) (List.mem_append_right _ (.head _))).2.2.1
    refine PySem.W.callWith_M (K := X.K) (h₀ := X.base) (first := []) J.ok.mod.kin (news_at hL hb hq) (.head _) S.fi (thn (ha.run pos _ s' σ H _ J q) fun us s3 z => ?_) hst hpl
    obtain ⟨vs, H2, J3, rv, q2⟩ := z
    refine ⟨⟨pin_at J3, J3.kIn⟩, ?_⟩
    exact thn (wpAny_call (PySem.W.method_call (pin_at J3) (codeAny_mono (ru.run _ s3 σ H2 (.ref a :: us) (.ref a :: vs) Q J3 (.cons rfl rv) q2) fun r s' z => z))) fun _ _ y => unpinE y
  · obtain ⟨u, l⟩ := fx
    obtain ⟨rfl, z⟩ := z
    exact z⟩
/-- super().m() -/
theorem pea_sup0 (S : Sup X.prog X.K X.mg f cda cc C slf m f2) (ru : Runs X f2 R) (hks : Gl X "super") (hkc : X.env.kindOf ("__class__" : Str) = some .free) (hfu : X.env.func = some f) (hco : X.env.code = .ref cda) (hcl : X.env.cells.lookup ("__class__" : Str) = some cc)
    (h0 : X.N[0]? = some slf) (hself : X.env.kindOf slf = some .local)
    (ht : eval (.Call (.Attribute (.Call (.Name "super" p0) [] [] p1) m p2) [] [] pos) X.env = (do
      let ov ← attributeBase (.Call (.Name "super" p0) [] [] p1) m X.env (eval (.Call (.Name "super" p0) [] [] p1) X.env)
      standAt p2.atName
      let (f, first) ← holding [ov] (getMethod ov m pl)
      callWith pos f first (backTo pos (starEach [] X.env)) []) := by rfl) :
    PEa X (.func body X.env) (.Call (.Attribute (.Call (.Name "super" p0) [] [] p1) m p2) [] [] pos) (tSup C R tNil) := ⟨fun pins s σ H Q I h => by
  obtain ⟨a, dx, fs, ea, eh, q⟩ := h
  refine ks_wpAt_MethodCall (pl := pl) (ks_wpAt_mono (sup_bound (pl := pl) (Q := fun u s₂ => wpAny (model X.prog X.w) X.A (callWith pos u [] (backTo pos (starEach [] X.env)) []) (EP X pins σ Q) X.xe s₂) S hks hkc hfu hco hcl h0 hself I ea eh fun q' s' J hb => ?_) (fun ov s₁ z => thn z fun fx s₂ z => ?_) fun _ _ z => z) ht
  · refine PySem.W.callWith_M0 (K := X.K) (first := []) ⟨pin_at J, J.kIn⟩ S.fi ?_
    exact thn (wpAny_call (PySem.W.method_call (pin_at J) (codeAny_mono (ru.run _ s' σ H [.ref a] [.ref a] Q J (.cons rfl .nil) q) fun r s' z => z))) fun _ _ y => unpinE y
  · obtain ⟨u, l⟩ := fx
    obtain ⟨rfl, z⟩ := z
    exact z⟩
end

/-! ### a def that reads the cell __class__ -/
/-- the text of such a def, with its records -/
structure FunC (K : PySem.W.Frag) (x qual : Str) (st : Stmt) (kws : List (Str × V)) (f cda cc : Addr) (fd : FuncData) : Prop where
  ex : ∃ (oc : Value) (od : Option Addr) (kV doc pm : Value) (an : Option Addr) (ct : Value) (osl : Array (Option Value)),
    fd = PySem.W.fnX x qual (defArgs st) (defBody st) (defScope st) [("__class__", cc)] .none kV doc pm an (.ref cda) ct ∧ K.lookup f = some ⟨oc, od, .func fd, osl⟩ ∧ PySem.W.codeIn K (.ref cda) qual = true ∧ L2.KwdV K kV kws
  cell : ∃ (D : Addr) (cl : Value) (cld : Option Addr) (csl : Array (Option Value)), K.lookup cc = some ⟨cl, cld, .cell (some (.ref D)), csl⟩
  kp : PySem.W.keepIn K (.ref f) = true
abbrev nfOf (x qual : Str) (st : Stmt) (cda cc : Addr) : NF := ⟨x, qual, defArgs st, defBody st, defScope st, [("__class__", cc)], cda⟩
section
variable {CX : CXT} {P : Program} {w : World} {K : PySem.W.Frag} {mg : Str → Option Value} {base : Heap} {x qual : Str} {st : Stmt} {kws : List (Str × V)} {f cda cc : Addr} {fd : FuncData} {N ps : List Str} {k : Nat} {sp : Sp}
/-- the context of its body -/
abbrev scx (CX : CXT) (P : Program) (w : World) (K : PySem.W.Frag) (mg : Str → Option Value) (base : Heap) (N : List Str) (x qual : Str) (st : Stmt) (cda cc f : Addr) (A : Around) (outer : List Env) (s : Shared) (H : Hp) (E : XK) : Cx := ncx CX P w K mg base N (nfOf x qual st cda cc) f A outer s H E
theorem FunC.ok (F : FunC K x qual st kws f cda cc fd) (S : NScope N ps ["__class__"] (defScope st)) (len : ∀ vs H Q E, sp vs H Q E → vs.length = ps.length)
    (hbody : ∀ (A : Around) (outer : List Env) (s : Shared) (H : Hp) (vs : List V) (Q : VK) (E : XK) (D : Addr), Room k (A.deeper (envF (nfOf x qual st cda cc) f s.heap.objs.size)) → sp vs H Q E →
      ∃ t, PSsa (scx CX P w K mg base N x qual st cda cc f A outer s H E) (.func (defBody st) (envF (nfOf x qual st cda cc) f s.heap.objs.size)) (defBody st) t ∧ t { nx := fun _ H' => Q .non H', rt := Q } (startF N vs [some (.ref D)]) H) : FnOk P w K mg base CX (k + 1) f fd ps sp := by
  obtain ⟨oc, od, kV, doc, pm, an, ct, osl, rfl, lk, hcd, hK⟩ := F.ex
  obtain ⟨D, cl, cld, csl, lc⟩ := F.cell
  refine ⟨len, fun A outer s H args us vs Q E hr e0 hb r hsp => ?_⟩
  have hl := len _ _ _ _ hsp
  have KX : K.In s.heap := e0.mod.kin.keeps fun b o e => (e0.bs b o e).1
  have lim : s.heap.NoLimit := e0.mod.nolimit.keeps fun b o e => (e0.bs b o e).1
  have hcc : H cc = none := (e0.bs cc _ (e0.mod.kin _ _ lc)).2
  have C : CellsAt [("__class__", cc)] ["__class__"] [some (V.ref D)] s.heap H := by
    refine ⟨rfl, fun y c e => ?_, fun x y c e1 e2 => ?_, fun i y e => ?_⟩
    · have : c = cc := by
        simp only [List.lookup] at e
        split at e
        · cases e; rfl
        · cases e
      subst this
      exact ⟨hcc, _, _, KX _ _ lc, rfl⟩
    · simp only [List.lookup] at e1 e2
      split at e1
      · rename_i h1
        split at e2
        · rename_i h2
          rw [beq_iff_eq] at h1 h2
          rw [h1, h2]
        · cases e2
      · cases e1
    · cases i with
      | zero =>
        cases e
        refine ⟨cc, by simp [List.lookup], fun v ev => ?_⟩
        cases ev
        exact ⟨.ref D, rfl, _, KX _ _ lc, rfl⟩
      | succ i => cases e
  refine ks_codeAny_call_defAt (fd := PySem.W.fnX x qual (defArgs st) (defBody st) (defScope st) [("__class__", cc)] .none kV doc pm an (.ref cda) ct) (body := defBody st) (binds := ps.zip us) hr.depth (KX _ _ lk) rfl lim (PySem.W.codeRec_of KX hcd) rfl hb S.nocell (fun y hy => S.par _ (List.of_mem_zip hy).1) (fun h₁ hns kp => ?_) S.co S.gen S.kind
  obtain ⟨t, ht, hq⟩ := hbody A outer s H vs Q E D (hr.deeper _) hsp
  have I : Inv (scx CX P w K mg base N x qual st cda cc f A outer s H E) [] (startF N vs [some (V.ref D)]) H { s with heap := h₁, toks := s.toks + (ps.zip us).length } := inv_startN S hr.hd e0 hl r C hns kp
  have fin : ∀ {σ' : L2.St} {H' : Hp} {v : V} {u : Value} {s' : Shared}, Inv (scx CX P w K mg base N x qual st cda cc f A outer s H E) [] σ' H' s' → RelV v u → Q v H' → CE outer P w H s Q u s' := fun {σ' H' v u s'} J rv q => ⟨v, H', J.os, J.bare, J.base, J.hok, rv, q⟩
  refine ks_wpAt_mono (ht.run [] _ _ H _ I hq) (fun fl s' hs => ?_) fun e s' hs => hs
  match fl, hs with
  | .ret u, ⟨v, σ', H', J, rv, q⟩ => exact fin J rv q
  | .next, ⟨σ', H', J, q⟩ => exact fin (v := V.non) (u := Value.none) J rfl q
  | .brk, ⟨_, _, _, q⟩ => exact q.elim
  | .cont, ⟨_, _, _, q⟩ => exact q.elim
theorem FunC.ok0 (F : FunC K x qual st kws f cda cc fd) (S : NScope N ps ["__class__"] (defScope st)) (len : ∀ vs H Q E, sp vs H Q E → vs.length = ps.length)
    (hbody : ∀ (A : Around) (outer : List Env) (s : Shared) (H : Hp) (vs : List V) (Q : VK) (E : XK) (D : Addr), Room k (A.deeper (envF (nfOf x qual st cda cc) f s.heap.objs.size)) → sp vs H Q E →
      ∃ t, PSsa (scx CX0 P w K mg base N x qual st cda cc f A outer s H E).nox (.func (defBody st) (envF (nfOf x qual st cda cc) f s.heap.objs.size)) (defBody st) t ∧ t { nx := fun _ H' => Q .non H', rt := Q } (startF N vs [some (.ref D)]) H) : FnOk P w K mg base CX0 (k + 1) f fd ps sp :=
  F.ok S len fun A outer s H vs Q E D hr h => by
    obtain ⟨t, ht, q⟩ := hbody A outer s H vs Q E D hr h
    exact ⟨t, ht.nox, q⟩
/-- keywords: n values, the keywords named ks, those of ms left out -/
theorem FunC.kbinds (F : FunC K x qual st kws f cda cc fd) (n : Nat) (ks : List Str) (ms : List (Str × V)) (g : {α : Type} → List α → List α → List α → List α) (hk : kws ≠ []) (hms : ∀ q ∈ ms, q ∈ kws)
    (hrel : ∀ {vs mz zs : List V} {us mv ws : List Value}, Vals vs us → Vals mz mv → Vals zs ws → Vals (g vs mz zs) (g us mv ws))
    (h : ∀ (D : Addr) (doc pm : Value) (an : Option Addr) (ct : Value) (us mv ws : List Value), us.length = n → mv.length = ms.length → ws.length = ks.length →
      KwChain D ((ms.map (·.1)).zip mv) (bindArgs (PySem.W.fnX x qual (defArgs st) (defBody st) (defScope st) [("__class__", cc)] .none (.ref D) doc pm an (.ref cda) ct) ⟨us, ks.zip ws⟩) (ps.zip (g us mv ws))) :
    ∃ mv : List Value, KBn K fd ps n ks (fun us ws => g us mv ws) (fun vs zs => g vs (ms.map (·.2)) zs) := by
  obtain ⟨oc, od, kV, doc, pm, an, ct, osl, rfl, lk, hcd, hK⟩ := F.ex
  rcases hK with e | ⟨D, rfl, hq⟩
  · exact absurd e hk
  · obtain ⟨mv, hl, rk, hks⟩ := kwd_vals (ms := ms) fun q hm => hq q (hms q hm)
    exact ⟨mv, ⟨fun s us ws X l1 l2 => BindsTo.of_looks fun M => KwChain.looks X hks (h D doc pm an ct us mv ws l1 hl l2), fun r1 r2 => hrel r1 rk r2⟩⟩
theorem FunC.binds (F : FunC K x qual st kws f cda cc fd) (h : ∀ (kV doc pm : Value) (an : Option Addr) (ct : Value) (us : List Value), us.length = ps.length → bindArgs (PySem.W.fnX x qual (defArgs st) (defBody st) (defScope st) [("__class__", cc)] .none kV doc pm an (.ref cda) ct) ⟨us, []⟩ = pure (ps.zip us)) : Binds K fd ps [] := by
  obtain ⟨oc, od, kV, doc, pm, an, ct, osl, rfl, lk, hcd, hK⟩ := F.ex
  exact .all (h kV doc pm an ct)
end
end Bar
namespace Bar
open PySem L2 PySem.Spec PyProof.Rows ClX NdefX
/-! ### super().m, a property, a class that is made with keywords: with what they promise -/
structure SupFn (P : Program) (w : World) (K : PySem.W.Frag) (mg : Str → Option Value) (base : Heap) (CX : CXT) (f cda cc C : Addr) (slf m : Str) (ps : List Str) (dvs : List V) (k : Nat) (sp : Sp) : Prop where
  ex : ∃ (f2 : Addr) (fd : FuncData) (ds : List Value), Sup P K mg f cda cc C slf m f2 ∧ Binds K fd ps ds ∧ Vals dvs ds ∧ FnOk P w K mg base CX k f2 fd ps sp
section
variable {X : Cx} {W : WX} {body : List Stmt} {f cda cc C : Addr} {slf m : Str} {ps : List Str} {dvs : List V} {k : Nat} {sp : Sp} {p0 p1 p2 pos : Pos} {e : Expr} {es : List Expr} {t : TA} {pl : Sem Bool}
theorem pea_supX (F : SupFn X.prog X.w X.K X.mg X.base (L2.CX X.prog X.w) f cda cc C slf m ps dvs k sp) (tk : Takes X W) (hr : Room k X.A) (hks : Gl X "super") (hkc : X.env.kindOf ("__class__" : Str) = some .free) (hfu : X.env.func = some f) (hco : X.env.code = .ref cda) (hcl : X.env.cells.lookup ("__class__" : Str) = some cc)
    (h0 : X.N[0]? = some slf) (hself : X.env.kindOf slf = some .local) (ha : PA X (e :: es) t) (hst : starEach (e :: es) X.env = (false, eval e X.env) :: starEach es X.env := by rfl) (hpl : (backTo pos (starEach es X.env)).any (·.1) = false := by rfl)
    (ht : eval (.Call (.Attribute (.Call (.Name "super" p0) [] [] p1) m p2) (e :: es) [] pos) X.env = (do
      let ov ← attributeBase (.Call (.Name "super" p0) [] [] p1) m X.env (eval (.Call (.Name "super" p0) [] [] p1) X.env)
      standAt p2.atName
      let (f, first) ← holding [ov] (getMethod ov m pl)
      callWith pos f first (backTo pos (starEach (e :: es) X.env)) []) := by rfl) :
    PEa X (.func body X.env) (.Call (.Attribute (.Call (.Name "super" p0) [] [] p1) m p2) (e :: es) [] pos) (tSup C (fun vs σ H Q => sp (vs ++ dvs) H Q (wAt W σ)) t) := by
  obtain ⟨f2, fd, ds, S, hb, hd, ok⟩ := F.ex
  exact pea_sup (pl := pl) S (runs_fnX ok hr hb hd tk) hks hkc hfu hco hcl h0 hself ha hst hpl ht
theorem pea_supN (F : SupFn X.prog X.w X.K X.mg X.base CX0 f cda cc C slf m ps dvs k sp) (hr : Room k X.A) (hks : Gl X "super") (hkc : X.env.kindOf ("__class__" : Str) = some .free) (hfu : X.env.func = some f) (hco : X.env.code = .ref cda) (hcl : X.env.cells.lookup ("__class__" : Str) = some cc)
    (h0 : X.N[0]? = some slf) (hself : X.env.kindOf slf = some .local) (ha : PA X (e :: es) t) (hst : starEach (e :: es) X.env = (false, eval e X.env) :: starEach es X.env := by rfl) (hpl : (backTo pos (starEach es X.env)).any (·.1) = false := by rfl)
    (ht : eval (.Call (.Attribute (.Call (.Name "super" p0) [] [] p1) m p2) (e :: es) [] pos) X.env = (do
      let ov ← attributeBase (.Call (.Name "super" p0) [] [] p1) m X.env (eval (.Call (.Name "super" p0) [] [] p1) X.env)
      standAt p2.atName
      let (f, first) ← holding [ov] (getMethod ov m pl)
      callWith pos f first (backTo pos (starEach (e :: es) X.env)) []) := by rfl) :
    PEa X (.func body X.env) (.Call (.Attribute (.Call (.Name "super" p0) [] [] p1) m p2) (e :: es) [] pos) (tSup C (fun vs _ H Q => sp (vs ++ dvs) H Q E0) t) := by
  obtain ⟨f2, fd, ds, S, hb, hd, ok⟩ := F.ex
  exact pea_sup (pl := pl) S (runs_fn ok hr hb hd) hks hkc hfu hco hcl h0 hself ha hst hpl ht
theorem pea_supN0 (F : SupFn X.prog X.w X.K X.mg X.base CX0 f cda cc C slf m ps dvs k sp) (hr : Room k X.A) (hks : Gl X "super") (hkc : X.env.kindOf ("__class__" : Str) = some .free) (hfu : X.env.func = some f) (hco : X.env.code = .ref cda) (hcl : X.env.cells.lookup ("__class__" : Str) = some cc)
    (h0 : X.N[0]? = some slf) (hself : X.env.kindOf slf = some .local)
    (ht : eval (.Call (.Attribute (.Call (.Name "super" p0) [] [] p1) m p2) [] [] pos) X.env = (do
      let ov ← attributeBase (.Call (.Name "super" p0) [] [] p1) m X.env (eval (.Call (.Name "super" p0) [] [] p1) X.env)
      standAt p2.atName
      let (f, first) ← holding [ov] (getMethod ov m pl)
      callWith pos f first (backTo pos (starEach [] X.env)) []) := by rfl) :
    PEa X (.func body X.env) (.Call (.Attribute (.Call (.Name "super" p0) [] [] p1) m p2) [] [] pos) (tSup C (fun vs _ H Q => sp (vs ++ dvs) H Q E0) tNil) := by
  obtain ⟨f2, fd, ds, S, hb, hd, ok⟩ := F.ex
  exact pea_sup0 (pl := pl) S (runs_fn ok hr hb hd) hks hkc hfu hco hcl h0 hself ht
end
structure PrpF (P : Program) (w : World) (K : PySem.W.Frag) (mg : Str → Option Value) (base : Heap) (C : Addr) (f : Str) (ps : List Str) (k : Nat) (sp : Sp) : Prop where
  cl : Cls K C
  ex : ∃ (p g : Addr) (fd : FuncData), PropOf K C f p g ∧ Binds K fd ps [] ∧ FnOk P w K mg base CX0 k g fd ps sp
theorem pe_prp {X : Cx} {C : Addr} {f : Str} {ps : List Str} {k : Nat} {sp : Sp} {e : Expr} {pos : Pos} {ta : TE} (F : PrpF X.prog X.w X.K X.mg X.base C f ps k sp) (hr : Room (k + 1) X.A) (he : PE X e ta) (hab : attributeBase e f X.env (eval e X.env) = eval e X.env) :
    PE X (.Attribute e f pos) (tProp C sp [] E0 ta) := by
  obtain ⟨p, g, fd, hp, hb, ok⟩ := F.ex
  exact pe_prop he F.cl hp ok hr hb .nil pass0 hab
instance {C : Addr} {sp : Sp} {dvs : List V} {E : XK} {ta : TE} {σ : L2.St} {H : Hp} {Q : VK} : Bar.Rd (tProp C sp dvs E ta σ H Q) (ta σ H fun x H1 => ∃ a dx fs, x = .ref a ∧ H1 a = some (.ins C dx fs) ∧ sp (.ref a :: dvs) H1 Q E) := ⟨fun h => h⟩
/-- made with n values and keywords; gV: what its __init__ is given -/
structure MadeK (P : Program) (w : World) (K : PySem.W.Frag) (mg : Str → Option Value) (base : Heap) (CX : CXT) (x : Str) (C : Addr) (ps ks : List Str) (n : Nat) (gV : List V → List V → List V) (k : Nat) (sp : Sp) : Prop where
  ex : ∃ (f : Addr) (fd : FuncData) (g : List Value → List Value → List Value), mg x = some (.ref C) ∧ Mk K C f ∧ KBn K fd ps (n + 1) ks g gV ∧ FnOk P w K mg base CX k f fd ps sp
def tMakeK' (C : Addr) (n m : Nat) (sp : Sp) (gV : List V → List V → List V) (W : WX) (t tk : TA) : TE := fun σ H Q => t σ H fun vs H1 => tk σ H1 fun zs H2 => vs.length = n ∧ zs.length = m ∧ ∀ x dx, H2 x = none → H2 dx = none → dx ≠ x →
  sp (gV (.ref x :: vs) zs) (upd (upd H2 dx (.own x)) x (.ins C dx [])) (fun v H3 => v = .non ∧ Q (.ref x) H3) (wAt W σ)
section
variable {X : Cx} {W : WX} {C : Addr} {ps ks : List Str} {n k : Nat} {gV : List V → List V → List V} {sp : Sp} {x : Str} {p pos : Pos} {e : Expr} {es : List Expr} {kws : List Keyword} {t tk : TA} {σ : L2.St} {H : Hp} {Q : VK}
theorem pe_mkK (F : MadeK X.prog X.w X.K X.mg X.base CX0 x C ps ks n gV k sp) (hr : Room (k + 1) X.A) (hg : Gl X x) (ha : PA X (e :: es) t) (hkw : PK X kws tk)
    (hall : (backToKw pos (keywordEach kws X.env)).all (·.1.isSome) = true := by rfl) (hks : (backToKw pos (keywordEach kws X.env)).filterMap (·.1) = ks := by rfl) (hdb : (x == ("__debug__" : Str)) = false := by decide)
    (he : starEach (e :: es) X.env = (false, eval e X.env) :: starEach es X.env := by rfl) (hpl : ((backTo pos (starEach (e :: es) X.env)).any (·.1) || (backToKw pos (keywordEach kws X.env)).any (·.1.isNone)) = false := by rfl) :
    PE X (.Call (.Name x p) (e :: es) kws pos) (tMakeN C n ks.length sp gV E0 t tk) := by
  obtain ⟨f, fd, g, hm, M, hb, ok⟩ := F.ex
  exact pe_makeN M ok hr hg hm hb pass0 ha hkw hall hks hdb he hpl
theorem pe_mkKX (F : MadeK X.prog X.w X.K X.mg X.base (L2.CX X.prog X.w) x C ps ks n gV k sp) (tk' : Takes X W) (hr : Room (k + 1) X.A) (hg : Gl X x) (ha : PA X (e :: es) t) (hkw : PK X kws tk)
    (hall : (backToKw pos (keywordEach kws X.env)).all (·.1.isSome) = true := by rfl) (hks : (backToKw pos (keywordEach kws X.env)).filterMap (·.1) = ks := by rfl) (hdb : (x == ("__debug__" : Str)) = false := by decide)
    (he : starEach (e :: es) X.env = (false, eval e X.env) :: starEach es X.env := by rfl) (hpl : ((backTo pos (starEach (e :: es) X.env)).any (·.1) || (backToKw pos (keywordEach kws X.env)).any (·.1.isNone)) = false := by rfl) :
    PE X (.Call (.Name x p) (e :: es) kws pos) (tMakeK' C n ks.length sp gV W t tk) := ⟨fun pins s σ H Q I h => by
  obtain ⟨f, fd, g, hm, M, hb, ok⟩ := F.ex
  refine wpAny_Call_Name_kw (ld_glob I hg hm ?_ hdb)
  refine PySem.W.callWith_KW (h₀ := X.base) I.ok.mod.kin M.kp hall (thn (ha.run pos pins s σ H _ I h) fun us s1 q => ?_) hpl he
  obtain ⟨vs, H1, I1, r, q⟩ := q
  refine thn (hkw.run pos pins s1 σ H1 _ I1 q) fun ws s2 q => ?_
  obtain ⟨zs, H2, I2, rz, l1, l2, q2⟩ := q
  refine ⟨I2.kIn, ?_⟩
  rw [hks]
  have start := q2 (s2.heap.objs.size + 1) s2.heap.objs.size (I2.hok.fresh (Nat.le_succ _)) (I2.hok.fresh (Nat.le_refl _)) (Nat.ne_of_lt (Nat.lt_succ_self _))
  have J := Inv.made (C := C) I2
  have r1 : Vals (V.ref (s2.heap.objs.size + 1) :: vs) (Value.ref (s2.heap.objs.size + 1) :: us) := .cons rfl r
  have n1 : (Value.ref (s2.heap.objs.size + 1) :: us).length = n + 1 := r1.length.symm.trans (congrArg Nat.succ l1)
  have n2 : ws.length = ks.length := rz.length.symm.trans l2
  refine wpAny_call (make_map (f := f) I2.kIn M.makes M.init (beq_iff_eq.mp M.fn) (codeAny_mono (ok.run _ X.stack _ _ ⟨Value.ref (s2.heap.objs.size + 1) :: us, ks.zip ws⟩ (g (Value.ref (s2.heap.objs.size + 1) :: us) ws) _ _ (wAt W σ) (hr.make C us (ks.zip ws))
    (J.env0.make C us (ks.zip ws)) (hb.to _ _ ws J.kIn n1 n2) (hb.rel r1 rz) start) fun z s' hz => ?_))
  match z, hz with
  | .error e, hz => exact tk' e s' (XE.of_call J (fun _ _ _ h => h) hz)
  | .ok (.ret u), hz =>
    obtain ⟨v, H', J3, rv, ev, q3⟩ := J.after hz
    subst ev
    exact ⟨rv, ⟨V.ref (s2.heap.objs.size + 1), H', J3, rfl, q3⟩⟩⟩
instance {t tk : TA} {n m : Nat} : Bar.Rd (tMakeK' C n m sp gV W t tk σ H Q) (t σ H fun vs H1 => tk σ H1 fun zs H2 => vs.length = n ∧ zs.length = m ∧ ∀ x dx, H2 x = none → H2 dx = none → dx ≠ x →
  sp (gV (.ref x :: vs) zs) (upd (upd H2 dx (.own x)) x (.ins C dx [])) (fun v H3 => v = .non ∧ Q (.ref x) H3) (wAt W σ)) := ⟨fun h => h⟩
end
theorem MadeK0 {P : Program} {w : World} {K : PySem.W.Frag} {mg : Str → Option Value} {base : Heap} {x : Str} {C : Addr} {ps ks : List Str} {n k : Nat} {gV : List V → List V → List V} {sp : Sp} (F : MadeK P w K mg base (L2.CX P w) x C ps ks n gV k sp) : MadeK P w K mg base CX0 x C ps ks n gV k (fun vs H Q _ => sp vs H Q E0) := by
  obtain ⟨f, fd, g, hm, M, hb, ok⟩ := F.ex
  exact ⟨f, fd, g, hm, M, hb, FnX0 ok⟩
instance {K : PySem.W.Frag} {ta : TE} {f : Str} {σ : L2.St} {H : Hp} {Q : VK} : Bar.Rd (tCVal K ta f σ H Q) (ta σ H fun x H1 => ∃ C mc v u, x = .ref C ∧ CRead K C mc ∧ CVal K C mc f v u ∧ Q v H1) := ⟨fun h => h⟩
theorem rStartF {N : List Str} {vs : List V} {ws : List (Option V)} {t : TS} {D : Ends} {σ : L2.St} {H : Hp} (e : startF N vs ws = σ) (h : t D σ H) : t D (startF N vs ws) H := by
  rw [e]
  exact h
end Bar

set_option Elab.async false
set_option linter.all false
set_option maxRecDepth 100000
set_option maxHeartbeats 4000000
/-! texts -/
namespace Bar
open PySem L2
section
variable {σ τ : L2.St} {H : Hp} {Q : VK} {QI : It → Hp → Prop} {z y : Str} {i : Int} {c : Nat} {te : TE} {K : PySem.W.Frag}
/-- one sign in a text, or not -/
def rInSg : R2 := fun x y H Q => ∃ (c : Nat) (z : Str), x = .str ⟨#[c]⟩ ∧ y = .str z ∧ Q (.bl (decide (c ∈ z.cps.toList))) H
def rNoSg : R2 := fun x y H Q => ∃ (c : Nat) (z : Str), x = .str ⟨#[c]⟩ ∧ y = .str z ∧ Q (.bl (!decide (c ∈ z.cps.toList))) H
theorem o_inSg {X : Cx} : OpR X (compareOp .In) rInSg := op_in_sign
theorem o_noSg {X : Cx} : OpR X (compareOp .NotIn) rNoSg := op_notIn_sign
instance : Rd (rInSg (.str ⟨#[c]⟩) (.str z) H Q) (Q (.bl (decide (c ∈ z.cps.toList))) H) := ⟨fun h => ⟨c, z, rfl, rfl, h⟩⟩
instance : Rd (rNoSg (.str ⟨#[c]⟩) (.str z) H Q) (Q (.bl (!decide (c ∈ z.cps.toList))) H) := ⟨fun h => ⟨c, z, rfl, rfl, h⟩⟩
/-- two texts, one behind the other -/
def rCatS : R2 := fun x y H Q => ∃ i j : Str, x = .str i ∧ y = .str j ∧ i.length + j.length ≤ sizeLine ∧ Q (.str (i ++ j)) H
theorem o_catS {X : Cx} : OpR X (binaryOp .Add) rCatS := op_add_str
theorem rCatS_ (l : z.length + y.length ≤ sizeLine) (h : Q (.str (z ++ y)) H) : rCatS (.str z) (.str y) H Q := ⟨z, y, rfl, rfl, l, h⟩
theorem rIxS_ (l : z.length ≤ sizeLine) (e : atI z.cps.toList i = some c) (h : Q (.str ⟨#[c]⟩) H) : rIxS (.str z) (.int i) H Q := ⟨z, i, c, rfl, rfl, l, e, h⟩
theorem rSlS_ {lo hi : Option Int} (l : z.length ≤ sizeLine) (h : Q (.str (cutS z lo hi)) H) : rSlS (.str z) lo hi H Q := ⟨z, rfl, l, h⟩
theorem dStr (a b : Str) : decide (V.str a = V.str b) = decide (a = b) := by
  by_cases q : a = b
  · subst q; rw [decide_eq_true rfl, decide_eq_true rfl]
  · rw [decide_eq_false q, decide_eq_false (fun z => q (V.str.inj z))]
theorem rEqSt (h : Q (.bl (decide (z = y))) H) : rEq (.str z) (.str y) H Q := ⟨rfl, by rw [dStr]; exact h⟩
theorem rNeSt (h : Q (.bl (!decide (z = y))) H) : rNe (.str z) (.str y) H Q := ⟨rfl, by rw [dStr]; exact h⟩
instance : Rd (iStr te σ H QI) (te σ H fun v H1 => ∃ x, v = .str x ∧ QI (Its x) H1) := ⟨fun h => h⟩
instance {R : Str → Prop} : Rd (∃ x, V.str z = .str x ∧ R x) (R z) := ⟨fun h => ⟨z, rfl, h⟩⟩
theorem str_ext {a b : Str} (h : a.cps.toList = b.cps.toList) : a = b := by
  obtain ⟨a⟩ := a
  obtain ⟨b⟩ := b
  have : a = b := Array.toList_inj.mp h
  rw [this]
theorem cat_cps (a b : Str) : (a ++ b).cps.toList = a.cps.toList ++ b.cps.toList := by
  show (a.cps ++ b.cps).toList = _
  rw [Array.toList_append]
theorem len_cps (a : Str) : a.length = a.cps.toList.length := rfl
theorem cut_cps (z : Str) (lo hi : Option Int) : (cutS z lo hi).cps.toList = (z.cps.toList.drop (HT.sIx z.length 0 lo)).take (HT.sIx z.length z.length hi - HT.sIx z.length 0 lo) := by
  unfold cutS
  rw [List.toList_toArray]
theorem cut_to {z : Str} {n : Int} (h : 0 ≤ n) : (cutS z none (some n)).cps.toList = z.cps.toList.take n.toNat := by
  rw [cut_cps]
  have e1 : HT.sIx z.length 0 none = 0 := rfl
  have e2 : HT.sIx z.length z.length (some n) = min n.toNat z.length := by
    show (if n < 0 then _ else _) = _
    rw [if_neg (by omega)]
  rw [e1, e2, List.drop_zero, Nat.sub_zero, len_cps, ← List.take_eq_take_min]
theorem cut_from {z : Str} {n : Int} (h : 0 ≤ n) : (cutS z (some n) none).cps.toList = z.cps.toList.drop n.toNat := by
  rw [cut_cps]
  have e1 : HT.sIx z.length 0 (some n) = min n.toNat z.length := by
    show (if n < 0 then _ else _) = _
    rw [if_neg (by omega)]
  have e2 : HT.sIx z.length z.length none = z.length := rfl
  rw [e1, e2, len_cps]
  by_cases l : n.toNat ≤ z.cps.toList.length
  · rw [Nat.min_eq_left l]
    exact List.take_of_length_le (by rw [List.length_drop]; exact Nat.le_refl _)
  · rw [Nat.min_eq_right (by omega), List.drop_length, List.drop_eq_nil_of_le (by omega), List.take_nil]
end
section
variable {D : Ends} {σ τ : L2.St} {H : Hp} {g : TG} {tb : TS} {tt : TT} {te : TE} {vs : List Nat}
/-- a loop over the signs of a text -/
theorem forS {z : Str} (Pv : Nat → L2.St → Hp → Prop) (h0 : Pv 0 σ H) (hs : ∀ i c σ H, z.cps.toList[i]? = some c → Pv i σ H → g (.str ⟨#[c]⟩) σ H fun σ2 H2 => tb ⟨Pv (i + 1), D.rt, D.nx, Pv (i + 1)⟩ σ2 H2) (hd : ∀ σ H, Pv z.cps.toList.length σ H → D.nx σ H) :
    ∃ W : Nat → Nat → L2.St → Hp → Prop, (∃ m, W 0 m σ H) ∧ ∀ i m σ H, W i m σ H →
      ((Its z).stop i H ∧ D.nx σ H) ∨ ((Its z).go i H ∧ ∃ N : L2.St → Hp → Prop, (∀ σ' H', N σ' H' → ∃ m', m' < m ∧ W (i + 1) m' σ' H') ∧ ∀ x H', (Its z).yld i H x H' → g x σ H' fun σ2 H2 => tb { D with nx := N, ct := N, bk := D.nx } σ2 H2) := by
  have sz : z.cps.size = z.cps.toList.length := rfl
  refine ⟨fun i m σ H => m = z.cps.size - i ∧ i ≤ z.cps.size ∧ Pv i σ H, ⟨_, rfl, Nat.zero_le _, h0⟩, ?_⟩
  rintro i m σ H ⟨rfl, hi, p⟩
  by_cases lt : i < z.cps.size
  · refine .inr ⟨lt, Pv (i + 1), fun σ' H' p' => ⟨z.cps.size - (i + 1), by omega, rfl, lt, p'⟩, fun x H' y => ?_⟩
    obtain ⟨e, c, hc, ex⟩ := y
    subst e ex
    exact hs i c σ _ (by rw [Array.getElem?_toList]; exact hc) p
  · have e : i = z.cps.size := by omega
    subst e
    exact .inl ⟨Nat.le_refl _, hd σ H p⟩
/-- a comprehension over the signs of a text -/
theorem lcS {z : Str} {R : Addr → Hp → Prop} (ew : wipe σ vs = τ)
    (h : ∀ D, H D = none → ∃ Pv : Nat → Hp → Prop, Pv 0 (upd H D (.lst [])) ∧
      (∀ i c H', z.cps.toList[i]? = some c → Pv i H' → g (.str ⟨#[c]⟩) τ H' fun σ2 H2 => wipe σ2 vs = τ ∧ tt σ2 H2 fun b H3 =>
        if b = true then te σ2 H3 fun y H4 => ∃ acc, H4 D = some (.lst acc) ∧ acc.length < sizeLine ∧ Pv (i + 1) (upd H4 D (.lst (acc ++ [y]))) else Pv (i + 1) H3) ∧ ∀ H', Pv z.cps.toList.length H' → R D H') :
    ∀ D, H D = none → ∃ W : Nat → Nat → Hp → Prop, (∃ m, W 0 m (upd H D (.lst []))) ∧ ∀ i m H, W i m H →
      ((Its z).stop i H ∧ R D H) ∨ ((Its z).go i H ∧ ∃ Nx : Hp → Prop, (∀ H', Nx H' → ∃ m', m' < m ∧ W (i + 1) m' H') ∧ ∀ x H', (Its z).yld i H x H' → g x (wipe σ vs) H' fun σ2 H2 => wipe σ2 vs = wipe σ vs ∧ tt σ2 H2 fun b H3 =>
        if b = true then te σ2 H3 fun y H4 => ∃ acc, H4 D = some (.lst acc) ∧ acc.length < sizeLine ∧ Nx (upd H4 D (.lst (acc ++ [y]))) else Nx H3) := by
  subst ew
  intro D hD
  obtain ⟨Pv, h0, hs, hd⟩ := h D hD
  have sz : z.cps.size = z.cps.toList.length := rfl
  refine ⟨fun i m H => m = z.cps.size - i ∧ i ≤ z.cps.size ∧ Pv i H, ⟨_, rfl, Nat.zero_le _, h0⟩, ?_⟩
  rintro i m H ⟨rfl, hi, p⟩
  by_cases lt : i < z.cps.size
  · refine .inr ⟨lt, Pv (i + 1), fun H' p' => ⟨z.cps.size - (i + 1), by omega, rfl, lt, p'⟩, fun x H' y => ?_⟩
    obtain ⟨e, c, hc, ex⟩ := y
    subst e ex
    exact hs i c _ (by rw [Array.getElem?_toList]; exact hc) p
  · have e : i = z.cps.size := by omega
    subst e
    exact .inl ⟨Nat.le_refl _, hd H p⟩
end
instance {te : TE} {σ : L2.St} {H : Hp} {Q : VK} : Rd (tFmtR te σ H Q) (te σ H fun x H1 => (∃ y : Str, x = .str y ∧ (reprText y).length ≤ sizeLine ∧ Q (.str (reprText y)) H1) ∨ ∃ i : Int, x = .int i ∧ i.natAbs.log2 < 1920 ∧ Q (.str (toString i)) H1) := ⟨fun h => h⟩
/-! ### names -/
abbrev lettersS : Str := "abcdefghijklmnopqrstuvwxyz"
abbrev signsS : Str := "abcdefghijklmnopqrstuvwxyz0123456789"
def letL : List Nat := lettersS.cps.toList
def sgnL : List Nat := signsS.cps.toList
/-- the form of a name -/
def nameL (l : List Nat) : Bool := decide (1 ≤ l.length) && decide (l.length ≤ 12) && l.head?.any (fun c => decide (c ∈ letL)) && l.all (fun c => decide (c ∈ sgnL))
abbrev nameB (z : Str) : Bool := nameL z.cps.toList
theorem let_sub : ∀ c ∈ letL, c ∈ sgnL := by decide +kernel
theorem let_ix {r : Int} (h0 : 0 ≤ r) (h1 : r < 26) : ∃ c, atI letL r = some c ∧ c ∈ letL := by
  have : ∀ n : Nat, n < 26 → ∃ c, letL[n]? = some c := fun n hn => ⟨_, List.getElem?_eq_getElem (show n < letL.length from hn)⟩
  obtain ⟨c, hc⟩ := this r.toNat (by omega)
  refine ⟨c, ?_, List.mem_of_getElem? hc⟩
  rw [show r = ((r.toNat : Nat) : Int) by omega]
  exact atI_nat hc
theorem sgn_ix {r : Int} (h0 : 0 ≤ r) (h1 : r < 36) : ∃ c, atI sgnL r = some c ∧ c ∈ sgnL := by
  have : ∀ n : Nat, n < 36 → ∃ c, sgnL[n]? = some c := fun n hn => ⟨_, List.getElem?_eq_getElem (show n < sgnL.length from hn)⟩
  obtain ⟨c, hc⟩ := this r.toNat (by omega)
  refine ⟨c, ?_, List.mem_of_getElem? hc⟩
  rw [show r = ((r.toNat : Nat) : Int) by omega]
  exact atI_nat hc
end Bar

set_option Elab.async false
set_option linter.all false
set_option maxRecDepth 100000
set_option maxHeartbeats 4000000
/-! str of own objects, methods of texts, classmethods that raise, a class in a local name -/
namespace Bar
open PySem L2 PySem.Spec PyProof.Rows ClX

/-! ### str(o), o of a class with its own __str__ -/
structure StrF (P : Program) (w : World) (K : PySem.W.Frag) (mg : Str → Option Value) (base : Heap) (C : Addr) (ps : List Str) (k : Nat) (sp : Sp) : Prop where
  ex : ∃ (f : Addr) (fd : FuncData), PySem.W.findIn K (.ref C) "__str__" = some (some (.ref f)) ∧ PySem.W.isFn K (.ref f) = true ∧ Binds K fd ps [] ∧ FnOk P w K mg base CX0 k f fd ps sp
def rStrO (C : Addr) (sp : Sp) : List V → Hp → VK → Prop := fun xs H Q => ∃ (a dx : Addr) (fs : List (Str × V)), xs = [.ref a] ∧ H a = some (.ins C dx fs) ∧ sp [.ref a] H (fun v H' => ∃ y : Str, v = .str y ∧ Q (.str y) H') E0
theorem c_strO {X : Cx} {C : Addr} {ps : List Str} {k : Nat} {sp : Sp} (F : StrF X.prog X.w X.K X.mg X.base C ps k sp) (hr : Room (k + 2) X.A) : CallR X (.type "str") (rStrO C sp) := by
  intro pins s σ H xs us Q I r h
  obtain ⟨f, fd, hs, hf, hb, ok⟩ := F.ex
  obtain ⟨a, dx, fs, rfl, ea, q⟩ := h
  cases r with
  | cons r1 r2 =>
    cases r2
    cases r1
    obtain ⟨mA, O', _⟩ := ins_get I.hok ea
    obtain ⟨od, J, _⟩ := O'.look
    have hl : ([Value.ref a] ++ ([] : List Value)).length = ps.length := by
      have e := ok.len _ _ _ _ q
      rw [← e]
      rfl
    have bnd : BindsTo s fd ⟨[Value.ref a], []⟩ (ps.zip [Value.ref a]) := by
      have e := hb s [Value.ref a] I.kIn hl
      rwa [List.append_nil] at e
    have run := ok.run X.A.in1.in1 X.stack s H ⟨[Value.ref a], []⟩ [Value.ref a] [V.ref a] _ E0 hr.in1.in1 I.env0.in1.in1 bnd (.cons rfl .nil) q
    refine PySem.W.kso_call (hr.in1.in1.units0) I.kIn J hs hf (wpAny_call (codeAny_mono run fun r s' hq => ?_))
    cases r with
    | error e => exact False.elim hq
    | ok fl =>
      cases fl with
      | ret u' =>
        obtain ⟨v', H', I', rv, y, ev, q'⟩ := I.after hq
        subst ev
        obtain ⟨t, rfl⟩ := rv
        exact ⟨.str y, H', I', ⟨t, rfl⟩, q'⟩
      | next => exact False.elim hq
      | brk => exact False.elim hq
      | cont => exact False.elim hq
instance {C : Addr} {sp : Sp} {a : Addr} {H : Hp} {Q : VK} : Rd (rStrO C sp [.ref a] H Q) (∃ (dx : Addr) (fs : List (Str × V)), H a = some (.ins C dx fs) ∧ sp [.ref a] H (fun v H' => ∃ y : Str, v = .str y ∧ Q (.str y) H') E0) := ⟨fun ⟨dx, fs, h, q⟩ => ⟨a, dx, fs, rfl, h, q⟩⟩
/-! ### s.index(y) -/
def rIdx : V → List V → Hp → VK → Prop := fun x xs H Q => ∃ (a b : Str) (k : Nat), x = .str a ∧ xs = [.str b] ∧ Txt.index0 a b = some k ∧ Q (.int (k : Nat)) H
theorem mt_idx {X : Cx} : MtR X "str.index" rIdx := by
  intro pins s σ H x xs v us Q I rx rs h
  obtain ⟨a, b, k, rfl, rfl, e, q⟩ := h
  obtain ⟨t, rfl⟩ := rx
  cases rs with
  | cons r1 rs =>
    cases rs
    obtain ⟨u, rfl⟩ := r1
    unfold Txt.index0 at e
    cases z : Builtin.Str.occurrences a b 0 a.length 1 with
    | nil =>
      rw [z] at e
      cases e
    | cons k' rest =>
      rw [z] at e
      cases e
      exact PySem.SC.index z ⟨.int (k : Nat), H, I.tok _, ⟨_, rfl⟩, q⟩
/-! ### C.m(..), a classmethod that may raise -/
structure CMthX (P : Program) (w : World) (K : PySem.W.Frag) (mg : Str → Option Value) (base : Heap) (C : Addr) (m : Str) (ps : List Str) (k : Nat) (sp : Sp) : Prop where
  cr : ClX.CRead K C (.type "type")
  ex : ∃ (p g : Addr) (fd : FuncData), CMet K C (.type "type") m p g ∧ Binds K fd ps [] ∧ FnOk P w K mg base (L2.CX P w) k g fd ps sp
def tCMthX (C : Addr) (sp : Sp) (W : WX) (ta : TE) (t : TA) : TE := fun σ H Q => ta σ H fun x H1 => x = .ref C ∧ t σ H1 fun vs H2 => sp (.ref C :: vs ++ []) H2 Q (wAt W σ)
theorem pe_cmthX {X : Cx} {W : WX} {C : Addr} {m : Str} {ps : List Str} {k : Nat} {sp : Sp} {o e : Expr} {es : List Expr} {ta : TE} {t : TA} {pos apos : Pos} {pl : Sem Bool} (F : CMthX X.prog X.w X.K X.mg X.base C m ps k sp) (tk : Takes X W) (hr : Room k X.A) (he : PE X o ta) (ha : PA X (e :: es) t)
    (hst : starEach (e :: es) X.env = (false, eval e X.env) :: starEach es X.env := by rfl) (hpl : (backTo pos (starEach es X.env)).any (·.1) = false := by rfl)
    (ht : eval (.Call (.Attribute o m apos) (e :: es) [] pos) X.env = (do
      let ov ← eval o X.env
      standAt apos.atName
      let (f, first) ← holding [ov] (getMethod ov m pl)
      callWith pos f first (backTo pos (starEach (e :: es) X.env)) (backToKw pos (keywordEach [] X.env))) := by rfl) :
    PE X (.Call (.Attribute o m apos) (e :: es) [] pos) (tCMthX C sp W ta t) := ⟨fun pins s σ H Q I h => by
  obtain ⟨p, g, fd, c, hb, ok⟩ := F.ex
  refine PySem.W.methodCall_KW (pl := pl) (thn (he.run pins s σ H _ I h) fun u s1 ⟨x, H1, I1, rx, ex, q⟩ => ?_) ht
  subst ex
  obtain rfl : u = Value.ref C := rx
  refine getmethcm_ok I1 F.cr c fun s2 I2 => ?_
  refine callwith_cm I2 (base_none I1 (Nat.le_refl _)) c.fi (thn (ha.run pos _ s2 σ H1 _ I2 q) fun us s3 ⟨vs, H2, I3, rv, q2⟩ => ⟨⟨pin_at I3, I3.kIn⟩, ?_⟩) hst hpl
  refine thn (wpAny_call (PySem.W.method_call (pin_at I3) (codeAny_mono ((runs_fnX ok hr hb .nil tk).run _ s3 σ H2 (.ref C :: us) (.ref C :: vs) Q I3 (.cons rfl rv) q2) fun r s' z => z))) fun _ _ y => unpinE y⟩
instance {C : Addr} {sp : Sp} {W : WX} {ta : TE} {t : TA} {σ : L2.St} {H : Hp} {Q : VK} : Rd (tCMthX C sp W ta t σ H Q) (ta σ H fun x H1 => x = .ref C ∧ t σ H1 fun vs H2 => sp (.ref C :: vs ++ []) H2 Q (wAt W σ)) := ⟨fun h => h⟩
/-! ### x(e, ..), a local name that holds the class at C -/
def tMakeL (C : Addr) (i : Nat) (sp : Sp) (dvs : List V) (t : TA) : TE := fun σ H Q => σ[i]? = some (some (.ref C)) ∧ t σ H fun vs H1 => ∀ x dx, H1 x = none → H1 dx = none → dx ≠ x → sp (.ref x :: (vs ++ dvs)) (upd (upd H1 dx (.own x)) x (.ins C dx [])) (fun v H2 => v = .non ∧ Q (.ref x) H2) E0
structure MadeL (P : Program) (w : World) (K : PySem.W.Frag) (mg : Str → Option Value) (base : Heap) (C : Addr) (ps : List Str) (dvs : List V) (k : Nat) (sp : Sp) : Prop where
  ex : ∃ (f : Addr) (fd : FuncData) (ds : List Value), Mk K C f ∧ Binds K fd ps ds ∧ Vals dvs ds ∧ FnOk P w K mg base CX0 k f fd ps sp
theorem pe_mkL {X : Cx} {C : Addr} {i : Nat} {ps : List Str} {dvs : List V} {k : Nat} {sp : Sp} {x : Str} {p pos : Pos} {e : Expr} {es : List Expr} {t : TA} (F : MadeL X.prog X.w X.K X.mg X.base C ps dvs k sp) (hr : Room (k + 1) X.A) (ha : PA X (e :: es) t) (hN : X.N[i]? = some x := by rfl) (hv : Vis X.env.scope x := by first | exact Or.inl rfl | exact Or.inr (Or.inl rfl) | exact Or.inr (Or.inr rfl)) (hd : (x == ("__debug__" : Str)) = false := by decide) (hcd : (x == ("__classdict__" : Str)) = false := by decide)
    (he : starEach (e :: es) X.env = (false, eval e X.env) :: starEach es X.env := by rfl) (hpl : (backTo pos (starEach es X.env)).any (·.1) = false := by rfl) : PE X (.Call (.Name x p) (e :: es) [] pos) (tMakeL C i sp dvs t) := ⟨fun pins s σ H Q I h => by
  obtain ⟨hs, h⟩ := h
  obtain ⟨f, fd, ds, M, hb, hd', ok⟩ := F.ex
  refine wpAny_Call_Name_kw (thn ((pe_var (pos := p) (i := i) hN hv hd hcd).run pins s σ H (fun v H1 => v = .ref C ∧ H1 = H) I ⟨.ref C, hs, rfl, rfl⟩) fun u s1 hq => ?_)
  obtain ⟨v, H1, I1, rv, ev, eH⟩ := hq
  subst ev eH
  obtain rfl : u = Value.ref C := rv
  refine PySem.W.callWith_K (h₀ := X.base) I1.ok.mod.kin M.kp (thn (ha.run pos pins s1 σ H1 _ I1 h) fun us s2 hs => ?_) he hpl
  obtain ⟨vs, H2, J, r, q⟩ := hs
  exact ⟨J.kIn, run_make M ok hr hb hd' pass0 J r q⟩⟩
instance {C : Addr} {i : Nat} {sp : Sp} {dvs : List V} {t : TA} {σ : L2.St} {H : Hp} {Q : VK} : Rd (tMakeL C i sp dvs t σ H Q) (σ[i]? = some (some (.ref C)) ∧ t σ H fun vs H1 => ∀ x dx, H1 x = none → H1 dx = none → dx ≠ x → sp (.ref x :: (vs ++ dvs)) (upd (upd H1 dx (.own x)) x (.ins C dx [])) (fun v H2 => v = .non ∧ Q (.ref x) H2) E0) := ⟨fun h => h⟩
/-! ### a sign many times -/
def rRepS : R2 := fun x y H Q => ∃ (c n : Nat), x = .str ⟨#[c]⟩ ∧ y = .int (n : Int) ∧ 2 ≤ n ∧ n ≤ 10000 ∧ ∀ z : Str, z.cps.toList = List.replicate n c → Q (.str z) H
theorem fold_rep (c : Nat) : ∀ (n : Nat) (a : Array Nat), ((List.replicate n #[c]).foldl (· ++ ·) a).toList = a.toList ++ List.replicate n c
  | 0, a => by simp
  | n + 1, a => by
    rw [List.replicate_succ, List.foldl_cons, fold_rep c n, Array.toList_append, List.replicate_succ, List.append_assoc]
    rfl
theorem op_repS {X : Cx} : OpR X (binaryOp .Mult) rRepS := by
  intro pins s σ H x y v u Q I rx ry h
  obtain ⟨c, n, rfl, rfl, h1, h2, q⟩ := h
  obtain ⟨t, rfl⟩ := rx
  obtain ⟨t', rfl⟩ := ry
  have l1 : (⟨#[c]⟩ : Str).length = 1 := rfl
  have n1 : ((n : Int) == 1 || (⟨#[c]⟩ : Str).length == 0) = false := by
    rw [l1]
    have : ((n : Int) == 1) = false := by
      rw [beq_eq_false_iff_ne]
      omega
    rw [this]
    rfl
  refine PySem.P.mul_str ?_ (fun _ _ => ?_) (fun _ _ => ?_) ?_
  · rw [decide_eq_false (show ¬ (n : Int) < -(2 ^ 63 : Int) by omega), decide_eq_false (show ¬ (n : Int) ≥ 2 ^ 63 by omega)]
    rfl
  · rw [l1]
    intro h
    have : (1 : Int) ≤ (2 ^ 63 - 1) / (n : Int) := by
      rw [Int.le_ediv_iff_mul_le (by omega)]
      omega
    omega
  · rw [l1, Nat.one_mul, Int.toNat_natCast]
    exact decide_eq_false (show ¬ n > sizeLine from Nat.not_lt.mpr (Nat.le_trans h2 (by decide)))
  · rw [if_neg (by omega), n1, if_neg (by decide), Int.toNat_natCast]
    have e := fold_rep c n #[]
    have e : ((List.replicate n #[c]).foldl (· ++ ·) #[]).toList = List.replicate n c := e
    refine ⟨?_, ⟨.str _, H, I.tok _, ⟨_, rfl⟩, q _ e⟩⟩
    show _ ≤ sizeLine
    rw [len_cps]
    rw [e, List.length_replicate]
    exact Nat.le_trans h2 (by decide)
/-! ### methods of texts -/
def rFindS : V → List V → Hp → VK → Prop := fun x xs H Q => ∃ a b, x = .str a ∧ xs = [.str b] ∧ Q (.int (Txt.find a b)) H
theorem mt_findS {X : Cx} : MtR X "str.find" rFindS := mt_find
def rStartS : V → List V → Hp → VK → Prop := fun x xs H Q => ∃ a b, x = .str a ∧ xs = [.str b] ∧ Q (.bl (Txt.startswith a b)) H
theorem mt_startS {X : Cx} : MtR X "str.startswith" rStartS := mt_startswith
def rAsciiS : V → List V → Hp → VK → Prop := fun x xs H Q => ∃ a, x = .str a ∧ xs = [] ∧ True ∧ Q (.bl (Txt.isascii a)) H
theorem mt_asciiS {X : Cx} : MtR X "str.isascii" rAsciiS := mt_isascii
def rDigitS : V → List V → Hp → VK → Prop := fun x xs H Q => ∃ a, x = .str a ∧ xs = [] ∧ True ∧ Q (.bl (Txt.isdigit a)) H
theorem mt_digitS {X : Cx} : MtR X "str.isdigit" rDigitS := mt_isdigit
def rPartS : V → List V → Hp → VK → Prop := fun x xs H Q => ∃ a b, x = .str a ∧ xs = [.str b] ∧ (b.length == 0) = false ∧ a.length ≤ sizeLine ∧ ∀ p, H p = none → Q (.ref p) (upd H p (.tup [.str (Txt.partition a b).1, .str (Txt.partition a b).2.1, .str (Txt.partition a b).2.2]))
theorem mt_partS {X : Cx} : MtR X "str.partition" rPartS := mt_partition
def rIntS : List V → Hp → VK → Prop := fun xs H Q => ∃ a n, xs = [.str a] ∧ PySem.intText? a = some n ∧ a.length ≤ 640 ∧ Q (.int n) H
theorem c_intS {X : Cx} : CallR X (.type "int") rIntS := call_int_str
section
variable {a b : Str} {H : Hp} {Q : VK} {r : V → List V → Hp → VK → Prop} {to te : TE} {σ : L2.St}
instance : Rd (tM0 r to σ H Q) (to σ H fun x H1 => (∃ a, x = .str a) ∧ r x [] H1 Q) := ⟨fun h => h⟩
instance : Rd (tM1 r to te σ H Q) (to σ H fun x H1 => (∃ a, x = .str a) ∧ te σ H1 fun y H2 => r x [y] H2 Q) := ⟨fun h => h⟩
instance {R : Prop} : Rd ((∃ c : Str, V.str a = .str c) ∧ R) R := ⟨fun h => ⟨⟨a, rfl⟩, h⟩⟩
instance : Rd (rFindS (.str a) [.str b] H Q) (Q (.int (Txt.find a b)) H) := ⟨fun h => ⟨a, b, rfl, rfl, h⟩⟩
instance : Rd (rStartS (.str a) [.str b] H Q) (Q (.bl (Txt.startswith a b)) H) := ⟨fun h => ⟨a, b, rfl, rfl, h⟩⟩
instance : Rd (rAsciiS (.str a) [] H Q) (Q (.bl (Txt.isascii a)) H) := ⟨fun h => ⟨a, rfl, rfl, trivial, h⟩⟩
instance : Rd (rDigitS (.str a) [] H Q) (Q (.bl (Txt.isdigit a)) H) := ⟨fun h => ⟨a, rfl, rfl, trivial, h⟩⟩
end
theorem pe_fn0 {X : Cx} {x : Str} {ps : List Str} {dvs : List V} {k : Nat} {sp : Sp} {p pos : Pos} (F : Fn X.prog X.w X.K X.mg X.base x ps dvs k sp) (hr : Room k X.A) (hg : Gl X x) (hdb : (x == ("__debug__" : Str)) = false := by decide) : PE X (.Call (.Name x p) [] [] pos) (tCall sp dvs E0 tNil) := by
  obtain ⟨f, fd, ds, hm, hk, hb, hd, ok⟩ := F.ex
  exact pe_call0 ok hr hg hm hk hb hd pass0 hdb
end Bar

local macro_rules | `(tactic| walk_at "rc") => `(tactic| first
  | decide | assumption | omega
  | exact Or.inr ⟨by decide, by decide⟩ | exact Or.inl ⟨by decide, by decide⟩ | exact ⟨by decide, by decide⟩)
local macro_rules | `(tactic| walk_at "lk1") => `(tactic| ((with_reducible refine Bar.lkNew ?hp ?h); (case hp => with_reducible assumption); (case h => walk_at "lk")))
local macro_rules | `(tactic| walk_at "lk2") => `(tactic| ((with_reducible refine Bar.lkNe ?n ?h); (case n => with_reducible first | assumption | exact Ne.symm (by assumption)); (case h => walk_at "lk")))
local macro_rules | `(tactic| walk_at "lk3") => `(tactic| ((with_reducible refine Bar.lkMut (o' := ?o) ?h ?hp ?d); (case h => walk_at "lk"); (case hp => walk_at "lk"); (case d => (intro z; cases z))))
local macro_rules | `(tactic| walk_at "lk4") => `(tactic| ((with_reducible refine Bar.lkKn (b := ?b) (H := ?H) ?k ?n ?h); (case k => with_reducible assumption); (case n => with_reducible first | assumption | exact Ne.symm (by assumption)); (case h => walk_at "lk")))
local macro_rules | `(tactic| walk_at "lk5") => `(tactic| ((with_reducible refine Bar.lkKp (b := ?b) (H := ?H) (u := ?u) ?k ?h ?hb ?d); (case k => with_reducible assumption); (case h => walk_at "lk"); (case hb => walk_at "lk"); (case d => (intro z; cases z))))
local macro_rules | `(tactic| walk_at "lk6") => `(tactic| ((with_reducible refine Bar.lkSm (H := ?H) ?k ?h); (case k => with_reducible assumption); (case h => walk_at "lk")))
local macro_rules | `(tactic| walk_at "lk") => `(tactic| first
  | with_reducible assumption | with_reducible exact L2.upd_same | walk_at "lk1" | walk_at "lk2" | walk_at "lk3" | walk_at "lk4" | walk_at "lk5" | walk_at "lk6")
local macro_rules | `(tactic| walk_at "sqL") => `(tactic| first | with_reducible assumption | ((with_reducible refine L2.SqL.of ?_); walk_at "lk") | assumption)
local macro_rules | `(tactic| walk_at "sqT") => `(tactic| first | with_reducible assumption | ((with_reducible refine L2.SqT.of ?_); walk_at "lk") | assumption)
local macro_rules | `(tactic| walk_at "kit") => `(tactic| first | exact Bar.kit_list_int | exact Bar.kit_list_bool | exact Bar.kit_list_str | exact Bar.kit_list_list | exact Bar.kit_list_tuple | exact Bar.kit_tuple_int | exact Bar.kit_tuple_bool | exact Bar.kit_tuple_str | exact Bar.kit_tuple_list | exact Bar.kit_tuple_tuple)
local macro_rules | `(tactic| walk_at "rx1") => `(tactic| ((with_reducible refine Bar.rI_ ?c ?_); (case c => walk_at "rc")))
local macro_rules | `(tactic| walk_at "rx2") => `(tactic| ((with_reducible refine Bar.rEq_ ?e ?_); (case e => exact rfl)))
local macro_rules | `(tactic| walk_at "rx3") => `(tactic| ((with_reducible refine Bar.rNe_ ?e ?_); (case e => exact rfl)))
local macro_rules | `(tactic| walk_at "rx4") => `(tactic| ((with_reducible refine Bar.rIxL_ (v := ?v) (xs := ?xs) ?h1 ?h2 ?_); (case h1 => walk_at "sqL"); (case h2 => exact rfl)))
local macro_rules | `(tactic| walk_at "rx5") => `(tactic| ((with_reducible refine Bar.rIxT_ (v := ?v) (xs := ?xs) ?h1 ?h2 ?_); (case h1 => walk_at "sqT"); (case h2 => exact rfl)))
local macro_rules | `(tactic| walk_at "rx6") => `(tactic| ((with_reducible refine Bar.rSetL_ (xs := ?xs) (j := ?j) ?h1 ?h2 ?_); (case h1 => walk_at "lk"); (case h2 => exact rfl)))
local macro_rules | `(tactic| walk_at "rx7") => `(tactic| ((with_reducible refine Bar.rLenL (ys := ?ys) ?h1 ?_); (case h1 => walk_at "sqL")))
local macro_rules | `(tactic| walk_at "rx8") => `(tactic| ((with_reducible refine Bar.tyL (xs := ?xs) ?h1 ?_); (case h1 => walk_at "sqL")))
local macro_rules | `(tactic| walk_at "rx9") => `(tactic| ((with_reducible refine Bar.rNew ?e ?_); (case e => exact Bar.szLe (by simp))))
local macro_rules | `(tactic| walk_at "rx10") => `(tactic| ((with_reducible refine Bar.rIxSL (xs := ?xs) (v := ?v) ?h1 ?h2 ?_); (case h1 => walk_at "lk"); (case h2 => exact rfl)))
local macro_rules | `(tactic| walk_at "rx11") => `(tactic| ((with_reducible refine Bar.rIxST (xs := ?xs) (v := ?v) ?h1 ?h2 ?_); (case h1 => walk_at "lk"); (case h2 => exact rfl)))
local macro_rules | `(tactic| walk_at "rx12") => `(tactic| ((with_reducible refine Bar.rLenT (ys := ?ys) ?h1 ?_); (case h1 => walk_at "sqT")))
local macro_rules | `(tactic| walk_at "rx13") => `(tactic| ((with_reducible refine Bar.rTupU (xs := ?xs) ?h1 ?h2 ?_); (case h1 => walk_at "sqT"); (case h2 => exact rfl)))
local macro_rules | `(tactic| walk_at "ry4") => `(tactic| ((with_reducible refine Bar.isiL (xs := ?xs) (r := ?r) ?e ?h ?_); (case e => walk_at "lk"); (case h => walk_at "kit")))
local macro_rules | `(tactic| walk_at "ry5") => `(tactic| ((with_reducible refine Bar.isiT (xs := ?xs) (r := ?r) ?e ?h ?_); (case e => walk_at "lk"); (case h => walk_at "kit")))
local macro_rules | `(tactic| walk_at "rs") => `(tactic| first | with_reducible refine Bar.rd ?_ | walk_at "rx1" | walk_at "rx4" | walk_at "rx5" | walk_at "rx6" | walk_at "rx7" | walk_at "rx8" | walk_at "rx9" | walk_at "rx10" | walk_at "rx11" | walk_at "rx12" | walk_at "rx13" | walk_at "ry4" | walk_at "ry5" | walk_at "rx2" | walk_at "rx3")
local macro_rules | `(tactic| walk_at "rd") => `(tactic| repeat walk_at "rs")

namespace Lw
open PySem L2 Bar
def top (i : Nat) : Stmt := PySem.Challenge.pw_barclips_k10_grid_words.main.body.getD i (.Pass ⟨0, 0, 0, 0⟩)
abbrev s_law_box : Stmt := top 15
abbrev N_law_box : List Str := ["_law_script", "_law_at", "_law_cell", "_law_salt", "_law_one"]
abbrev P_law_box : List Str := ["_law_script", "_law_at"]
theorem sc_law_box : FnScope N_law_box P_law_box (defScope s_law_box) := ⟨rfl, rfl, rfl, by decide +kernel, rfl, by decide +kernel, by decide +kernel⟩
abbrev s_law_draw : Stmt := top 16
abbrev N_law_draw : List Str := ["_law_box_here", "_law_many", "_law_found", "_law_total", "_law_turn", "_law_once", "_law_twice"]
abbrev P_law_draw : List Str := ["_law_box_here", "_law_many"]
theorem sc_law_draw : FnScope N_law_draw P_law_draw (defScope s_law_draw) := ⟨rfl, rfl, rfl, by decide +kernel, rfl, by decide +kernel, by decide +kernel⟩
abbrev s_law_int : Stmt := top 17
abbrev N_law_int : List Str := ["_law_x"]
abbrev P_law_int : List Str := ["_law_x"]
theorem sc_law_int : FnScope N_law_int P_law_int (defScope s_law_int) := ⟨rfl, rfl, rfl, by decide +kernel, rfl, by decide +kernel, by decide +kernel⟩
abbrev s_law_same : Stmt := top 18
abbrev N_law_same : List Str := ["_law_got", "_law_due", "_law_k"]
abbrev P_law_same : List Str := ["_law_got", "_law_due"]
theorem sc_law_same : FnScope N_law_same P_law_same (defScope s_law_same) := ⟨rfl, rfl, rfl, by decide +kernel, rfl, by decide +kernel, by decide +kernel⟩
abbrev s_law_row : Stmt := top 19
abbrev N_law_row : List Str := ["_law_box_here", "_law_size", "_law_kind"]
abbrev P_law_row : List Str := ["_law_box_here"]
theorem sc_law_row : FnScope N_law_row P_law_row (defScope s_law_row) := ⟨rfl, rfl, rfl, by decide +kernel, rfl, by decide +kernel, by decide +kernel⟩
abbrev s_law_word : Stmt := top 20
abbrev N_law_word : List Str := ["_law_size", "_law_rest"]
abbrev P_law_word : List Str := ["_law_size", "_law_rest"]
theorem sc_law_word : FnScope N_law_word P_law_word (defScope s_law_word) := ⟨rfl, rfl, rfl, by decide +kernel, rfl, by decide +kernel, by decide +kernel⟩
abbrev s_law_figures : Stmt := top 21
abbrev N_law_figures : List Str := ["_law_word_here", "_law_found", "_law_sign_here"]
abbrev P_law_figures : List Str := ["_law_word_here"]
theorem sc_law_figures : FnScope N_law_figures P_law_figures (defScope s_law_figures) := ⟨rfl, rfl, rfl, by decide +kernel, rfl, by decide +kernel, by decide +kernel⟩
abbrev s_law_class_of : Stmt := top 22
abbrev N_law_class_of : List Str := ["_law_word_here", "_law_at", "_law_size", "_law_rest"]
abbrev P_law_class_of : List Str := ["_law_word_here"]
theorem sc_law_class_of : FnScope N_law_class_of P_law_class_of (defScope s_law_class_of) := ⟨rfl, rfl, rfl, by decide +kernel, rfl, by decide +kernel, by decide +kernel⟩
abbrev s_law_sign : Stmt := top 23
abbrev N_law_sign : List Str := ["_law_box_here", "_law_signs"]
abbrev P_law_sign : List Str := ["_law_box_here"]
theorem sc_law_sign : FnScope N_law_sign P_law_sign (defScope s_law_sign) := ⟨rfl, rfl, rfl, by decide +kernel, rfl, by decide +kernel, by decide +kernel⟩
abbrev s_law_spoilt : Stmt := top 24
abbrev N_law_spoilt : List Str := ["_law_box_here", "_law_word_here", "_law_at", "_law_kind"]
abbrev P_law_spoilt : List Str := ["_law_box_here", "_law_word_here"]
theorem sc_law_spoilt : FnScope N_law_spoilt P_law_spoilt (defScope s_law_spoilt) := ⟨rfl, rfl, rfl, by decide +kernel, rfl, by decide +kernel, by decide +kernel⟩
abbrev s_law_any : Stmt := top 25
abbrev N_law_any : List Str := ["_law_box_here", "_law_many", "_law_word_here", "_law_k"]
abbrev P_law_any : List Str := ["_law_box_here"]
theorem sc_law_any : FnScope N_law_any P_law_any (defScope s_law_any) := ⟨rfl, rfl, rfl, by decide +kernel, rfl, by decide +kernel, by decide +kernel⟩
abbrev s_law_odd : Stmt := top 26
abbrev N_law_odd : List Str := ["_law_words"]
abbrev P_law_odd : List Str := []
theorem sc_law_odd : FnScope N_law_odd P_law_odd (defScope s_law_odd) := ⟨rfl, rfl, rfl, by decide +kernel, rfl, by decide +kernel, by decide +kernel⟩
abbrev s_law_read : Stmt := top 27
abbrev N_law_read : List Str := ["_law_word_here", "_law_back", "_law_told", "e"]
abbrev P_law_read : List Str := ["_law_word_here"]
theorem sc_law_read : FnScope N_law_read P_law_read (defScope s_law_read) := ⟨rfl, rfl, rfl, by decide +kernel, rfl, by decide +kernel, by decide +kernel⟩
abbrev s_Grid___init__ : Stmt := inClass (top 13) 0
abbrev N_Grid___init__ : List Str := ["self", "step", "offset"]
abbrev P_Grid___init__ : List Str := ["self", "step", "offset"]
theorem sc_Grid___init__ : FnScope N_Grid___init__ P_Grid___init__ (defScope s_Grid___init__) := ⟨rfl, rfl, rfl, by decide +kernel, rfl, by decide +kernel, by decide +kernel⟩
abbrev s_Grid___str__ : Stmt := inClass (top 13) 19
abbrev N_Grid___str__ : List Str := ["self"]
abbrev P_Grid___str__ : List Str := ["self"]
theorem sc_Grid___str__ : FnScope N_Grid___str__ P_Grid___str__ (defScope s_Grid___str__) := ⟨rfl, rfl, rfl, by decide +kernel, rfl, by decide +kernel, by decide +kernel⟩
abbrev s_Grid_read : Stmt := inClass (top 13) 20
abbrev N_Grid_read : List Str := ["cls", "word", "step", "plus", "offset", "grid"]
abbrev P_Grid_read : List Str := ["cls", "word"]
theorem sc_Grid_read : FnScope N_Grid_read P_Grid_read (defScope s_Grid_read) := ⟨rfl, rfl, rfl, by decide +kernel, rfl, by decide +kernel, by decide +kernel⟩
abbrev s_BadWord___init__ : Stmt := inClass (top 5) 0
abbrev N_BadWord___init__ : List Str := ["self", "word"]
abbrev P_BadWord___init__ : List Str := ["self", "word"]
theorem sc_BadWord___init__ : FnScope N_BadWord___init__ P_BadWord___init__ (defScope s_BadWord___init__) := ⟨rfl, rfl, rfl, by decide +kernel, rfl, by decide +kernel, by decide +kernel⟩
abbrev s_is_number : Stmt := top 9
abbrev N_is_number : List Str := ["text"]
abbrev P_is_number : List Str := ["text"]
theorem sc_is_number : FnScope N_is_number P_is_number (defScope s_is_number) := ⟨rfl, rfl, rfl, by decide +kernel, rfl, by decide +kernel, by decide +kernel⟩
abbrev s_law : Stmt := top 28
abbrev N_law : List Str := ["_law_script", "_law_box_here", "_law_row_here", "_law_word_here", "_law_late", "_law_once", "_law_words", "_law_top", "_law_one", "_law_due"]
abbrev P_law : List Str := ["_law_script"]
theorem sc_law : FnScope N_law P_law (defScope s_law) := ⟨rfl, rfl, rfl, by decide +kernel, rfl, by decide +kernel, by decide +kernel⟩

/-! ### the law's draws -/
/-- the facts of the built-in names -/
structure Txt (mg : Str → Option Value) : Prop where
  b_len : mg "len" = none
  b_int : mg "int" = none
  b_abs : mg "abs" = none
  b_str : mg "str" = none
  b_range : mg "range" = none
  b_isinstance : mg "isinstance" = none
  b_bool : mg "bool" = none
  b_list : mg "list" = none
  b_tuple : mg "tuple" = none
  b_sum : mg "sum" = none
  b_min : mg "min" = none
  b_max : mg "max" = none
  b_any : mg "any" = none
  b_all : mg "all" = none
  b_sorted : mg "sorted" = none
  b_enumerate : mg "enumerate" = none
abbrev big : Int := 10 ^ 399
abbrev box (c s n : Int) : HO := .lst [.int c, .int s, .int n]
abbrev kinds : List V := [.int 60, .int (10 ^ Int.toNat 6), .int (10 ^ Int.toNat 30), .int 60, .int (10 ^ Int.toNat 6), .int ((10 ^ Int.toNat 57) ^ Int.toNat 7), .int (10 ^ Int.toNat 6), .int 60, .int (10 ^ Int.toNat 30), .int 60, .int (10 ^ Int.toNat 6), .int 60]
theorem kinds_at {r : Int} (h0 : 0 ≤ r) (h1 : r < 12) : ∃ m, atI kinds r = some (.int m) ∧ 0 < m ∧ m ≤ big := by
  have h : r = 0 ∨ r = 1 ∨ r = 2 ∨ r = 3 ∨ r = 4 ∨ r = 5 ∨ r = 6 ∨ r = 7 ∨ r = 8 ∨ r = 9 ∨ r = 10 ∨ r = 11 := by omega
  rcases h with h | h | h | h | h | h | h | h | h | h | h | h <;> (subst h; exact ⟨_, rfl, by decide, by decide⟩)
def spDraw : Sp := fun vs H Q _ => ∃ (b : Addr) (c s n m : Int), vs = [.ref b, .int m] ∧ H b = some (box c s n) ∧ 0 < m ∧ m ≤ big ∧
  ∀ r c' n', 0 ≤ r → r < m → Q (.int r) (upd H b (box c' s n'))
theorem log_big {m : Int} (h0 : 0 < m) (h : m ≤ big) : m.natAbs < 2 ^ 1326 := by
  have h1 : m.natAbs ≤ 10 ^ 399 := by
    have e : big = ((10 ^ 399 : Nat) : Int) := by decide
    omega
  exact Nat.lt_of_le_of_lt h1 (by decide)
section
variable {P : Program} {w : World} {K : PySem.W.Frag} {mg : Str → Option Value} {base : Heap}
theorem ok_draw {f : Addr} {fd : FuncData} (F : Fun K "_law_draw" "_law_draw" s_law_draw f fd) (T : Txt mg) : FnOk P w K mg base CX0 1 f fd P_law_draw spDraw := by
  refine F.ok sc_law_draw (fun vs H Q E h => ?_) (fun cdv A outer s H vs Q E hr h => ?_)
  · obtain ⟨b, c, z, n, m, rfl, _⟩ := h
    rfl
  · obtain ⟨b, c, z, n, m, rfl, hb, m0, m1, k⟩ := h
    have lb := log_big m0 m1
    refine ⟨_, (pss_cons (ps_if (pt_cmpR op_gt (pe_ix ix_list (pv 0) pe_int (fun _ _ => rfl)) pe_int (nomark _)) (pss_cons (ps_set (i := 2) sc_law_draw.nd rfl (Or.inl rfl) (pe_op op_mod (pe_callTy c_int rfl T.b_int (by decide +kernel) (pa_cons (pe_ix ix_list (pv 0) pe_int (fun _ _ => rfl)) pa_nil)) (pv 1)))
    (pss_cons (ps_asg (pe_op op_fdivW (pe_ix ix_list (pv 0) pe_int (fun _ _ => rfl)) (pv 1)) (pg_sub (pv 0) pe_int set_list))
    (pss_one (ps_ret (pv 2))))) pss_nil)
    (pss_cons (ps_asg (pe_op op_add (pe_ix ix_list (pv 0) pe_int (fun _ _ => rfl)) pe_int) (pg_sub (pv 0) pe_int set_list))
    (pss_cons (ps_set (i := 3) sc_law_draw.nd rfl (Or.inl rfl) pe_int)
    (pss_cons (ps_for PassesOwn.never rfl  (pi_range1 rfl T.b_range (pa_cons (pe_op op_add pe_int (pe_op op_fdiv (pe_callB c_lenStr rfl T.b_len PySem.boot_len (pa_cons (pe_callTy c_str rfl T.b_str (by decide +kernel) (pa_cons (pv 1) pa_nil)) pa_nil)) pe_int)) pa_nil)) (pg_name (i := 4) sc_law_draw.nd rfl (Or.inl rfl)) (pss_cons (ps_set (i := 5) sc_law_draw.nd rfl (Or.inl rfl) (pe_op op_mod (pe_callTy c_int rfl T.b_int (by decide +kernel) (pa_cons (pe_op op_add (pe_op op_add (pe_op op_add (pe_op op_mul (pe_ix ix_list (pv 0) pe_int (fun _ _ => rfl)) pe_int) (pe_op op_mul (pe_ix ix_list (pv 0) pe_int (fun _ _ => rfl)) pe_int)) (pe_op op_mul (pv 4) pe_int)) pe_int) pa_nil)) pe_int))
    (pss_cons (ps_set (i := 5) sc_law_draw.nd rfl (Or.inl rfl) (pe_op op_mod (pe_callTy c_int rfl T.b_int (by decide +kernel) (pa_cons (pe_op op_add (pe_op op_add (pe_op op_mulW (pv 5) (pv 5)) (pe_op op_mul pe_int (pe_ix ix_list (pv 0) pe_int (fun _ _ => rfl)))) (pv 4)) pa_nil)) pe_int))
    (pss_cons (ps_set (i := 6) sc_law_draw.nd rfl (Or.inl rfl) (pe_op op_mod (pe_callTy c_int rfl T.b_int (by decide +kernel) (pa_cons (pe_op op_add (pe_op op_add (pe_op op_mulW (pv 5) (pv 5)) (pe_op op_mul pe_int (pv 5))) (pe_ix ix_list (pv 0) pe_int (fun _ _ => rfl))) pa_nil)) pe_int))
    (pss_one (ps_set (i := 3) sc_law_draw.nd rfl (Or.inl rfl) (pe_op op_add (pe_op op_mul (pv 3) pe_int) (pv 6))))))))
    (pss_one (ps_ret (pe_op op_mod (pe_callTy c_int rfl T.b_int (by decide +kernel) (pa_cons (pv 3) pa_nil)) (pv 1)))))))), ?_⟩
    refine Bar.rStart (σ := [some (.ref b), some (.int m), none, none, none, none, none]) rfl ?_
    have lg : m.natAbs.log2 < 1920 := Nat.lt_of_lt_of_le (PySem.Flt.log2_lt_of (by decide) lb) (by decide)
    have ls := PyProof.Rows.int_text_len_1921 lg
    walk_at "rd"
    refine ite2 (fun h => ?_) (fun h => ?_)
    · walk_at "rd"
      refine Bar.rI_ (wide_div m0 lb (by decide) (by decide)) ?_
      walk_at "rd"
      exact k _ _ _ (Int.emod_nonneg _ (by omega)) (Int.emod_lt_of_pos _ m0)
    · walk_at "rd"
      refine Bar.rStr_ lg ?_
      walk_at "rd"
      refine Bar.rLenStr_ (Nat.le_trans ls (by decide)) ?_
      walk_at "rd"
      refine Bar.forR _ rfl (fun _ σ H' => H' = upd H b (box c z (n + 1)) ∧ ∃ (t : Int) (x y u : Option V), σ = [some (.ref b), some (.int m), none, some (.int t), x, y, u]) (by omega) ⟨rfl, 0, none, none, none, rfl⟩ ?_ ?_
      · rintro i σ H' hi ⟨rfl, t, x, y, u, rfl⟩
        walk_at "rd"
        refine Bar.rI_ (sqW _ (by decide) (by decide)) ?_
        walk_at "rd"
        refine Bar.rI_ (sqW _ (by decide) (by decide)) ?_
        walk_at "rd"
        exact ⟨rfl, _, _, _, _, rfl⟩
      · rintro σ H' ⟨rfl, t, x, y, u, rfl⟩
        walk_at "rd"
        exact k _ _ _ (Int.emod_nonneg _ (by omega)) (Int.emod_lt_of_pos _ m0)
def spBox (K : PySem.W.Frag) : Sp := fun vs H Q _ => ∃ (a : Addr) (ns : List Int) (j : Nat), vs = [.ref a, .int (j : Int)] ∧ SqL K H a (ns.map V.int) ∧
  ∀ p H' c s, Same H H' → H p = none → H' p = some (box c s 0) → Q (.ref p) H'
theorem ok_box {f : Addr} {fd : FuncData} (F : Fun K "_law_box" "_law_box" s_law_box f fd) (T : Txt mg) : FnOk P w K mg base CX0 1 f fd P_law_box (spBox K) := by
  refine F.ok sc_law_box (fun vs H Q E h => ?_) (fun cdv A outer s H vs Q E hr h => ?_)
  · obtain ⟨a, ns, j, rfl, _⟩ := h
    rfl
  · obtain ⟨a, ns, j, rfl, ha, k⟩ := h
    refine ⟨_, (pss_cons (ps_set (i := 2) sc_law_box.nd rfl (Or.inl rfl) pe_int)
    (pss_cons (ps_if (pt_cmpR op_lt (pv 1) (pe_callB c_len rfl T.b_len PySem.boot_len (pa_cons (pv 0) pa_nil)) (nomark _)) (pss_one (ps_set (i := 2) sc_law_box.nd rfl (Or.inl rfl) (pe_callB c_abs rfl T.b_abs (by decide +kernel) (pa_cons (pe_ix ix_list (pv 0) (pv 1) (fun _ _ => rfl)) pa_nil)))) pss_nil)
    (pss_cons (ps_set (i := 3) sc_law_box.nd rfl (Or.inl rfl) (pe_op op_add (pe_op op_add (pe_op op_mul (pe_callB c_len rfl T.b_len PySem.boot_len (pa_cons (pv 0) pa_nil)) pe_int) (pe_op op_mul (pv 1) pe_int)) pe_int))
    (pss_cons (ps_for PassesOwn.never rfl  (pi_list (pe_slice sl_list (pv 0) po_none (po_some pe_int))) (pg_name (i := 4) sc_law_box.nd rfl (Or.inl rfl)) (pss_one (ps_set (i := 3) sc_law_box.nd rfl (Or.inl rfl) (pe_op op_mod (pe_callTy c_int rfl T.b_int (by decide +kernel) (pa_cons (pe_op op_add (pe_op op_mul (pv 3) pe_int) (pe_callB c_abs rfl T.b_abs (by decide +kernel) (pa_cons (pv 4) pa_nil))) pa_nil)) pe_int))))
    (pss_cons (ps_if (pt_cmpR op_ge (pv 2) (pe_op op_powW pe_int pe_int) (nomark _)) (pss_one (ps_ret (pe_lst (pa_cons (pv 2) (pa_cons (pv 3) (pa_cons pe_int pa_nil)))))) pss_nil)
    (pss_one (ps_ret (pe_lst (pa_cons pe_int (pa_cons (pe_op op_mod (pe_callTy c_int rfl T.b_int (by decide +kernel) (pa_cons (pe_op op_add (pv 3) (pe_op op_mul (pv 2) pe_int)) pa_nil)) pe_int) (pa_cons pe_int pa_nil))))))))))), ?_⟩
    refine Bar.rStart (σ := [some (.ref a), some (.int (j : Int)), none, none, none]) rfl ?_
    walk_at "rd"
    refine ite2 (fun h => ?_) (fun h => ?_)
    · have hj : j < ns.length := by
        have h1 := of_decide_eq_true h
        rw [List.length_map] at h1
        omega
      walk_at "rd"
      refine Bar.rIxL_ ha (Bar.at_map hj) ?_
      walk_at "rd"
      generalize (if ns[j] < 0 then -ns[j] else ns[j]) = cc
      refine Bar.rSlL_ ha fun q hq => ?_
      generalize (((ns.map V.int).length : Nat) : Int) * 97 + (j : Int) * 131 + 7 = salt
      refine Bar.forL (xs := cutV (ns.map V.int) none (some 16)) (fun _ σ H' => H' = upd H q (.lst (cutV (ns.map V.int) none (some 16))) ∧ ∃ (z : Int) (x : Option V), σ = [some (.ref a), some (.int (j : Int)), some (.int cc), some (.int z), x]) (SqL.of upd_same)
        ⟨rfl, salt, none, rfl⟩ (fun i σ H' _ ⟨e, _⟩ => by rw [e]; exact SqL.of upd_same) ?_ ?_
      · rintro i v σ H' hv ⟨rfl, z, x, rfl⟩
        obtain ⟨u, rfl⟩ := Bar.cut_int hv
        walk_at "rd"
        exact ⟨rfl, _, _, rfl⟩
      · rintro σ H' ⟨rfl, z, x, rfl⟩
        walk_at "rd"
        refine ite2 (fun h => ?_) (fun h => ?_)
        all_goals
          walk_at "rd"
          intro p hp
          walk_at "rd"
          refine k _ _ _ _ (fun b o e => Bar.lkNew hp (Bar.lkNew hq e)) (Bar.freeNew hp) upd_same
    · walk_at "rd"
      refine Bar.rSlL_ ha fun q hq => ?_
      generalize (((ns.map V.int).length : Nat) : Int) * 97 + (j : Int) * 131 + 7 = salt
      refine Bar.forL (xs := cutV (ns.map V.int) none (some 16)) (fun _ σ H' => H' = upd H q (.lst (cutV (ns.map V.int) none (some 16))) ∧ ∃ (z : Int) (x : Option V), σ = [some (.ref a), some (.int (j : Int)), some (.int 0), some (.int z), x]) (SqL.of upd_same)
        ⟨rfl, salt, none, rfl⟩ (fun i σ H' _ ⟨e, _⟩ => by rw [e]; exact SqL.of upd_same) ?_ ?_
      · rintro i v σ H' hv ⟨rfl, z, x, rfl⟩
        obtain ⟨u, rfl⟩ := Bar.cut_int hv
        walk_at "rd"
        exact ⟨rfl, _, _, rfl⟩
      · rintro σ H' ⟨rfl, z, x, rfl⟩
        walk_at "rd"
        refine ite2 (fun h => ?_) (fun h => ?_)
        all_goals
          walk_at "rd"
          intro p hp
          walk_at "rd"
          refine k _ _ _ _ (fun b o e => Bar.lkNew hp (Bar.lkNew hq e)) (Bar.freeNew hp) upd_same
def KpB (b : Addr) (s : Int) (H H' : Hp) : Prop := Kp b H H' ∧ ∃ c n, H' b = some (box c s n)
def spDrawA : Sp := fun vs H Q _ => ∃ (b : Addr) (c s n m : Int), vs = [.ref b, .int m] ∧ H b = some (box c s n) ∧ 0 < m ∧ m ≤ big ∧ ∀ r H', 0 ≤ r → r < m → KpB b s H H' → Q (.int r) H'
theorem drawA (F : Fn P w K mg base "_law_draw" P_law_draw [] 1 spDraw) : Fn P w K mg base "_law_draw" P_law_draw [] 1 spDrawA := by
  obtain ⟨f, fd, ds, h1, h2, h3, h4, ok⟩ := F.ex
  refine ⟨f, fd, ds, h1, h2, h3, h4, ok.imp fun vs H Q E h => ?_⟩
  obtain ⟨b, c, s, n, m, e, hb, m0, m1, k⟩ := h
  exact ⟨b, c, s, n, m, e, hb, m0, m1, fun r c' n' r0 r1 => k r _ r0 r1 ⟨Kp.upd, _, _, upd_same⟩⟩
end

/-! ### words of grids -/
abbrev numS (n : Nat) : Str := ((toString ((n : Nat) : Int) : String) : Str)
theorem numS_cps (n : Nat) : (numS n).cps.toList = TL.numL n := TL.tl_num n
/-- the word of the grid of this step and offset -/
def wl (st rest : Nat) : List Nat := TL.numL st ++ (if rest = 0 then [] else 43 :: TL.numL rest)
structure Cl (z : Str) (st rest : Nat) : Prop where
  s1 : 1 ≤ st
  s2 : st < 10 ^ 30
  r : rest < st
  e : z.cps.toList = wl st rest
theorem plus_num (n : Nat) : 43 ∉ TL.numL n := TL.numL_free (.inl (by decide))
theorem split43 : ∀ {a b x y : List Nat}, 43 ∉ a → 43 ∉ b → (x = [] ∨ ∃ t, x = 43 :: t) → (y = [] ∨ ∃ t, y = 43 :: t) → a ++ x = b ++ y → a = b ∧ x = y
  | [], [], x, y, _, _, _, _, h => ⟨rfl, h⟩
  | [], c :: b, x, y, _, hb, hx, _, h => by
    rcases hx with e | ⟨t, e⟩
    · rw [e] at h
      cases h
    · rw [e] at h
      injection h with h1 _
      exact absurd (List.mem_cons.mpr (.inl h1)) hb
  | c :: a, [], x, y, ha, _, _, hy, h => by
    rcases hy with e | ⟨t, e⟩
    · rw [e] at h
      cases h
    · rw [e] at h
      injection h with h1 _
      exact absurd (List.mem_cons.mpr (.inl h1.symm)) ha
  | c :: a, d :: b, x, y, ha, hb, hx, hy, h => by
    injection h with h1 h2
    obtain ⟨e1, e2⟩ := split43 (fun q => ha (List.mem_cons_of_mem _ q)) (fun q => hb (List.mem_cons_of_mem _ q)) hx hy h2
    rw [h1, e1]
    exact ⟨rfl, e2⟩
theorem tail_ok (rest : Nat) : (if rest = 0 then [] else 43 :: TL.numL rest) = [] ∨ ∃ t, (if rest = 0 then [] else 43 :: TL.numL rest) = 43 :: t := by
  by_cases h : rest = 0
  · rw [if_pos h]
    exact .inl rfl
  · rw [if_neg h]
    exact .inr ⟨_, rfl⟩
theorem wl_inj {st rest st' rest' : Nat} (h : wl st rest = wl st' rest') : st = st' ∧ rest = rest' := by
  obtain ⟨h1, h2⟩ := split43 (plus_num st) (plus_num st') (tail_ok rest) (tail_ok rest') h
  refine ⟨TL.numL_inj h1, ?_⟩
  by_cases e : rest = 0
  · by_cases e' : rest' = 0
    · omega
    · rw [if_pos e, if_neg e'] at h2
      cases h2
  · by_cases e' : rest' = 0
    · rw [if_neg e, if_pos e'] at h2
      cases h2
    · rw [if_neg e, if_neg e'] at h2
      injection h2 with _ h2
      exact TL.numL_inj h2
theorem Cl.uniq {z : Str} {st rest st' rest' : Nat} (h : Cl z st rest) (h' : Cl z st' rest') : st = st' ∧ rest = rest' := wl_inj (h.e.symm.trans h'.e)
structure WOk (z : Str) : Prop where
  len : z.length ≤ 4450
  small : ∀ c ∈ z.cps.toList, c < 128
theorem num_small (n : Nat) : ∀ c ∈ TL.numL n, c < 128 := fun c hc => by
  have := TL.numL_digits n c hc
  omega
theorem wl_small (st rest : Nat) : ∀ c ∈ wl st rest, c < 128 := fun c hc => by
  unfold wl at hc
  rcases List.mem_append.mp hc with h | h
  · exact num_small _ c h
  · by_cases e : rest = 0
    · rw [if_pos e] at h
      cases h
    · rw [if_neg e] at h
      rcases List.mem_cons.mp h with h | h
      · omega
      · exact num_small _ c h
theorem wl_len {st rest : Nat} (h1 : st < 10 ^ 32) (h2 : rest < 10 ^ 32) : (wl st rest).length ≤ 65 := by
  unfold wl
  rw [List.length_append]
  have a := TL.numL_len (k := 32) (by decide) h1
  have b := TL.numL_len (k := 32) (by decide) h2
  by_cases e : rest = 0
  · rw [if_pos e]
    show _ + 0 ≤ 65
    omega
  · rw [if_neg e]
    show _ + (_ + 1) ≤ 65
    omega
theorem w_ok {z : Str} {st rest : Nat} (e : z.cps.toList = wl st rest) (h1 : st < 10 ^ 32) (h2 : rest < 10 ^ 32) : WOk z := ⟨by rw [len_cps, e]; have := wl_len h1 h2; omega, fun c hc => wl_small st rest c (by rw [← e]; exact hc)⟩
theorem log_ok {n : Nat} (h : n < 10 ^ 32) : (n : Int).natAbs.log2 < 1920 := PySem.Flt.log2_lt_of (by decide) (Nat.lt_trans (show ((n : Nat) : Int).natAbs < 10 ^ 32 by omega) (by decide +kernel))
/-- the word of two numbers, as a text -/
theorem word_cps {st rest : Nat} (h : ¬ rest = 0) : ((numS st ++ ("+" : Str)) ++ numS rest).cps.toList = wl st rest := by
  rw [cat_cps, cat_cps, numS_cps, numS_cps]
  unfold wl
  rw [if_neg h, List.append_assoc]
  rfl
theorem word_cps0 {st : Nat} : (numS st).cps.toList = wl st 0 := by
  rw [numS_cps]
  unfold wl
  rw [if_pos rfl, List.append_nil]
theorem numS_len {n : Nat} (h : n < 10 ^ 32) : (numS n).length ≤ 32 := by
  rw [len_cps, numS_cps]
  exact TL.numL_len (by decide) h

end Lw
namespace Lw
open PySem L2 Bar

/-! ### rows and words of the law -/
theorem find_of (z : Str) : (Txt.find z ("+" : Str) = -1 ∧ 43 ∉ z.cps.toList) ∨ ∃ i : Nat, Txt.find z ("+" : Str) = (i : Int) ∧ z.cps.toList[i]? = some 43 ∧ 43 ∉ z.cps.toList.take i := by
  have ep : ("+" : Str) = (⟨#[43]⟩ : Str) := rfl
  rw [ep]
  have one := StrLaws.subAt_one z 43
  rcases PyProof.Rows.find_whole z ⟨#[43]⟩ with ⟨h1, h2⟩ | ⟨i, h1, h2, h3⟩
  · refine .inl ⟨h1, fun hm => ?_⟩
    obtain ⟨i, hi, e⟩ := List.getElem_of_mem hm
    exact h2 i ((one i).mpr (by rw [← e]; exact List.getElem?_eq_getElem hi))
  · refine .inr ⟨i, h1, (one i).mp h2, fun hm => ?_⟩
    obtain ⟨k, hk, e⟩ := List.getElem_of_mem hm
    rw [List.length_take] at hk
    rw [List.getElem_take] at e
    refine h3 k (by omega) ((one k).mpr ?_)
    rw [← e]
    exact List.getElem?_eq_getElem (by omega)
theorem find_none {z : Str} (h : 43 ∉ z.cps.toList) : Txt.find z ("+" : Str) = -1 := by
  rcases find_of z with ⟨e, _⟩ | ⟨i, _, e, _⟩
  · exact e
  · exact absurd (List.mem_of_getElem? e) h
theorem find_some {z : Str} {a b : List Nat} (e : z.cps.toList = a ++ 43 :: b) (h : 43 ∉ a) : Txt.find z ("+" : Str) = (a.length : Int) := by
  rcases find_of z with ⟨_, n⟩ | ⟨i, e1, e2, n⟩
  · exact absurd (by rw [e]; simp) n
  · rw [e1]
    have : i = a.length := by
      rw [e] at e2 n
      rcases Nat.lt_trichotomy i a.length with l | l | l
      · rw [List.getElem?_append_left l] at e2
        exact absurd (List.mem_of_getElem? e2) h
      · exact l
      · exfalso
        apply n
        rw [List.take_append, List.mem_append]
        right
        obtain ⟨k, hk⟩ : ∃ k, i - a.length = k + 1 := ⟨i - a.length - 1, by omega⟩
        rw [hk, List.take_succ_cons]
        exact List.mem_cons_self ..
    rw [this]
theorem val_ge : ∀ (b : List Nat) (s : Nat), s ≤ b.foldl (fun acc c => acc * 10 + (c - 48)) s
  | [], s => Nat.le_refl _
  | c :: b, s => Nat.le_trans (show s ≤ s * 10 + (c - 48) by omega) (val_ge b _)
theorem val_take (l : List Nat) (k : Nat) : NumText.digitsVal (l.take k) ≤ NumText.digitsVal l := by
  have e : l = l.take k ++ l.drop k := (List.take_append_drop k l).symm
  have h : NumText.digitsVal l = (l.drop k).foldl (fun acc c => acc * 10 + (c - 48)) (NumText.digitsVal (l.take k)) := by
    conv => lhs; rw [e]
    unfold NumText.digitsVal
    rw [List.foldl_append]
  rw [h]
  exact val_ge _ _
abbrev digT : Str := "0123456789"
theorem dig_mem {c : Nat} : c ∈ digT.cps.toList ↔ 48 ≤ c ∧ c ≤ 57 := by
  have e : digT.cps.toList = [48, 49, 50, 51, 52, 53, 54, 55, 56, 57] := by decide +kernel
  rw [e]
  simp only [List.mem_cons, List.not_mem_nil, or_false]
  omega
theorem dig_idx {c : Nat} (h : 48 ≤ c ∧ c ≤ 57) : Txt.index0 digT ⟨#[c]⟩ = some (c - 48) := by
  have : ∀ k : Nat, k < 10 → Txt.index0 digT ⟨#[48 + k]⟩ = some k := by decide +kernel
  have e := this (c - 48) (by omega)
  rw [show 48 + (c - 48) = c by omega] at e
  exact e
theorem six_at {r : Int} (h0 : 0 ≤ r) (h1 : r < 6) : ∃ v : Int, atI [V.int (10 ^ Int.toNat 29), V.int (10 ^ Int.toNat 30 - 1), V.int (10 ^ Int.toNat 31 - 1), V.int (10 ^ Int.toNat 8), V.int 99, V.int 9] r = some (.int v) ∧ 9 ≤ v ∧ v ≤ 10 ^ 31 := by
  have h : r = 0 ∨ r = 1 ∨ r = 2 ∨ r = 3 ∨ r = 4 ∨ r = 5 := by omega
  rcases h with h | h | h | h | h | h <;> (subst h; exact ⟨_, rfl, by decide, by decide⟩)
def spRow : Sp := fun vs H Q _ => ∃ (b : Addr) (c s n : Int), vs = [.ref b] ∧ H b = some (box c s n) ∧ ∀ (t : Addr) (st rest : Nat) (H' : Hp), KpB b s H H' → H' t = some (.tup [.int (st : Int), .int (rest : Int)]) → 1 ≤ st → st ≤ 10 ^ 31 → rest < st → Q (.ref t) H'
def spWord : Sp := fun vs H Q _ => ∃ st rest : Nat, vs = [.int (st : Int), .int (rest : Int)] ∧ st < 10 ^ 32 ∧ rest < 10 ^ 32 ∧ ∀ z : Str, z.cps.toList = wl st rest → Q (.str z) H
def spFig : Sp := fun vs H Q _ => ∃ z : Str, vs = [.str z] ∧ z.length ≤ 5000 ∧ ∀ n : Int, (∀ m : Nat, m < 10 ^ 30 → z.cps.toList = TL.numL m → n = m) → Q (.int n) H
def spClass : Sp := fun vs H Q _ => ∃ z : Str, vs = [.str z] ∧ z.length ≤ 4500 ∧ (∀ (st rest : Nat) (p : Addr), Cl z st rest → H p = none → Q (.ref p) (upd H p (.lst [.int (st : Int), .int (rest : Int)]))) ∧ ((∀ st rest, ¬ Cl z st rest) → Q .non H)
section
variable {P : Program} {w : World} {K : PySem.W.Frag} {mg : Str → Option Value} {base : Heap}
theorem ok_row {f : Addr} {fd : FuncData} (F : Fun K "_law_row" "_law_row" s_law_row f fd) (T : Txt mg) (f_law_draw : Fn P w K mg base "_law_draw" P_law_draw [] 1 spDrawA) : FnOk P w K mg base CX0 2 f fd P_law_row spRow := by
  refine F.ok sc_law_row (fun vs H Q E h => ?_) (fun cdv A outer s H vs Q E hr h => ?_)
  · obtain ⟨b, c, s, n, rfl, _⟩ := h
    rfl
  · obtain ⟨b, c, sa, n, rfl, hb, k⟩ := h
    have big31 : (10 : Int) ^ 32 ≤ big := by decide
    refine ⟨_, (pss_cons (ps_set (i := 1) sc_law_row.nd rfl (Or.inl rfl) (pe_op op_add pe_int (pe_fn f_law_draw (hr.mono (by omega)) rfl (pa_cons (pv 0) (pa_cons (pe_ix ix_tup (pe_tup (pa_cons (pe_op op_powW pe_int pe_int) (pa_cons (pe_op op_sub (pe_op op_powW pe_int pe_int) pe_int) (pa_cons (pe_op op_sub (pe_op op_powW pe_int pe_int) pe_int) (pa_cons (pe_op op_powW pe_int pe_int) (pa_cons pe_int (pa_cons pe_int pa_nil))))))) (pe_fn f_law_draw (hr.mono (by omega)) rfl (pa_cons (pv 0) (pa_cons pe_int pa_nil))) (fun _ _ => rfl)) pa_nil)))))
    (pss_cons (ps_set (i := 2) sc_law_row.nd rfl (Or.inl rfl) (pe_fn f_law_draw (hr.mono (by omega)) rfl (pa_cons (pv 0) (pa_cons pe_int pa_nil))))
    (pss_cons (ps_if (pt_cmpR op_eq (pv 2) pe_int (nomark _)) (pss_one (ps_ret (pe_tup (pa_cons (pv 1) (pa_cons pe_int pa_nil))))) pss_nil)
    (pss_cons (ps_if (pt_cmpR op_eq (pv 2) pe_int (nomark _)) (pss_one (ps_ret (pe_tup (pa_cons (pv 1) (pa_cons (pe_op op_sub (pv 1) pe_int) pa_nil))))) pss_nil)
    (pss_one (ps_ret (pe_tup (pa_cons (pv 1) (pa_cons (pe_fn f_law_draw (hr.mono (by omega)) rfl (pa_cons (pv 0) (pa_cons (pv 1) pa_nil))) pa_nil))))))))), ?_⟩
    refine Bar.rStart (σ := [some (.ref b), none, none]) rfl ?_
    walk_at "rd"
    intro tq htq
    walk_at "rd"
    have nqb : tq ≠ b := fun e => by
      rw [e, hb] at htq
      cases htq
    refine ⟨b, c, sa, n, 6, rfl, Bar.lkNew htq hb, by decide, by decide, fun r1 H1 l1 u1 ⟨K1, c1, n1, hb1⟩ => ?_⟩
    obtain ⟨v, hv, v0, v1⟩ := six_at l1 u1
    refine Bar.rIxT_ (SqT.of (K1 _ _ nqb upd_same)) hv ?_
    have K01 : Kp b H H1 := (Kp.new htq).trans K1
    walk_at "rd"
    refine ⟨b, c1, sa, n1, v, rfl, hb1, by omega, by omega, fun r2 H2 l2 u2 ⟨K2, c2, n2, hb2⟩ => ?_⟩
    have K02 := K01.trans K2
    clear K1 K2 K01 hb1 htq
    obtain ⟨s0, es⟩ : ∃ s0 : Nat, 1 + r2 = s0 := ⟨(1 + r2).toNat, by omega⟩
    walk_at "rd"
    rw [es]
    refine ⟨b, c2, sa, n2, 4, rfl, hb2, by decide, by decide, fun r3 H3 l3 u3 ⟨K3, c3, n3, hb3⟩ => ?_⟩
    have K03 := K02.trans K3
    clear K02 K3 hb2
    walk_at "rd"
    refine ite2 (fun h1 => ?_) (fun h1 => ?_)
    · walk_at "rd"
      intro t ht
      exact k t s0 0 _ ⟨K03.trans (Kp.new ht), _, _, Bar.lkNew ht hb3⟩ upd_same (by omega) (by omega) (by omega)
    · walk_at "rd"
      refine ite2 (fun h2 => ?_) (fun h2 => ?_)
      · walk_at "rd"
        intro t ht
        refine k t s0 (s0 - 1) _ ⟨K03.trans (Kp.new ht), _, _, Bar.lkNew ht hb3⟩ ?_ (by omega) (by omega) (by omega)
        rw [upd_same, show ((s0 - 1 : Nat) : Int) = (s0 : Int) - 1 by omega]
      · walk_at "rd"
        refine ⟨b, c3, sa, n3, s0, rfl, hb3, by omega, by omega, fun r4 H4 l4 u4 ⟨K4, c4, n4, hb4⟩ => ?_⟩
        walk_at "rd"
        intro t ht
        refine k t s0 r4.toNat _ ⟨(K03.trans K4).trans (Kp.new ht), _, _, Bar.lkNew ht hb4⟩ ?_ (by omega) (by omega) (by omega)
        rw [upd_same, Int.toNat_of_nonneg l4]
theorem ok_word {f : Addr} {fd : FuncData} (F : Fun K "_law_word" "_law_word" s_law_word f fd) (T : Txt mg) : FnOk P w K mg base CX0 1 f fd P_law_word spWord := by
  refine F.ok sc_law_word (fun vs H Q E h => ?_) (fun cdv A outer s H vs Q E hr h => ?_)
  · obtain ⟨st, rest, rfl, _⟩ := h
    rfl
  · obtain ⟨st, rest, rfl, h1, h2, k⟩ := h
    refine ⟨_, (pss_cons (ps_if (pt_cmpR op_eq (pv 1) pe_int (nomark _)) (pss_one (ps_ret (pe_callTy c_str rfl T.b_str (by decide +kernel) (pa_cons (pv 0) pa_nil)))) pss_nil)
    (pss_one (ps_ret (pe_op o_catS (pe_op o_catS (pe_callTy c_str rfl T.b_str (by decide +kernel) (pa_cons (pv 0) pa_nil)) pe_str) (pe_callTy c_str rfl T.b_str (by decide +kernel) (pa_cons (pv 1) pa_nil)))))), ?_⟩
    refine Bar.rStart (σ := [some (.int (st : Int)), some (.int (rest : Int))]) rfl ?_
    walk_at "rd"
    refine ite2 (fun h => ?_) (fun h => ?_)
    · have e : rest = 0 := by have := of_decide_eq_true h; omega
      subst e
      walk_at "rd"
      refine Bar.rStr_ (log_ok h1) ?_
      exact k _ word_cps0
    · have ne : ¬ rest = 0 := fun e => h (decide_eq_true (by omega))
      walk_at "rd"
      refine Bar.rStr_ (log_ok h1) ?_
      have l1 := numS_len h1
      have l2 := numS_len h2
      walk_at "rd"
      refine rCatS_ (Nat.le_trans (show _ ≤ 32 + 1 from Nat.add_le_add l1 (show (("+" : Str)).length ≤ 1 by decide +kernel)) (by decide)) ?_
      walk_at "rd"
      refine Bar.rStr_ (log_ok h2) ?_
      refine rCatS_ ?_ ?_
      · refine Nat.le_trans (show _ ≤ 33 + 32 from Nat.add_le_add ?_ l2) (by decide)
        rw [len_cps, cat_cps, List.length_append, ← len_cps]
        exact Nat.add_le_add l1 (show (("+" : Str)).length ≤ 1 by decide +kernel)
      exact k _ (word_cps ne)
theorem ok_fig {f : Addr} {fd : FuncData} (F : Fun K "_law_figures" "_law_figures" s_law_figures f fd) (T : Txt mg) : FnOk P w K mg base CX0 1 f fd P_law_figures spFig := by
  refine F.ok sc_law_figures (fun vs H Q E h => ?_) (fun cdv A outer s H vs Q E hr h => ?_)
  · obtain ⟨z, rfl, _⟩ := h
    rfl
  · obtain ⟨z, rfl, lz, k⟩ := h
    refine ⟨_, (pss_cons (ps_if (pt_cmpR op_eq (pv 0) pe_str (nomark _)) (pss_one (ps_ret (pe_un un_neg pe_int))) pss_nil)
    (pss_cons (ps_set (i := 1) sc_law_figures.nd rfl (Or.inl rfl) pe_int)
    (pss_cons (ps_for PassesOwn.never rfl  (pi_str (pv 0)) (pg_name (i := 2) sc_law_figures.nd rfl (Or.inl rfl)) (pss_cons (ps_if (pt_cmpR o_noSg (pv 2) pe_str (by rfl)) (pss_one (ps_ret (pe_un un_neg pe_int))) pss_nil)
    (pss_cons (ps_set (i := 1) sc_law_figures.nd rfl (Or.inl rfl) (pe_op op_add (pe_op op_mul (pv 1) pe_int) (pe_m1 PySem.F.slot_str_index PySem.F.type_str_index mt_idx pe_str (pv 2))))
    (pss_one (ps_if (pt_cmpR op_ge (pv 1) (pe_op op_powW pe_int pe_int) (nomark _)) (pss_one (ps_ret (pv 1))) pss_nil)))))
    (pss_one (ps_ret (pv 1)))))), ?_⟩
    refine Bar.rStart (σ := [some (.str z), none, none]) rfl ?_
    walk_at "rd"
    rw [dStr]
    refine ite2 (fun h => ?_) (fun h => ?_)
    · have e := of_decide_eq_true h
      walk_at "rd"
      refine k _ fun m hm em => ?_
      rw [e] at em
      exact absurd em.symm (TL.numL_ne m)
    · walk_at "rd"
      refine Bar.forS (fun i σ H' => H' = H ∧ ∃ (v : Nat) (x : Option V), v = NumText.digitsVal (z.cps.toList.take i) ∧ v < 10 ^ 30 ∧ σ = [some (.str z), some (.int (v : Int)), x]) ⟨rfl, 0, _, rfl, by decide, rfl⟩ ?_ ?_
      · rintro i c σ H' hc ⟨rfl, v, x, ev, v1, rfl⟩
        have cm := List.mem_of_getElem? hc
        walk_at "rd"
        refine ite2 (fun h => ?_) (fun h => ?_)
        · have nd : c ∉ digT.cps.toList := fun q => by
            have h : (!decide (c ∈ digT.cps.toList)) = true := h
            rw [decide_eq_true q] at h
            cases h
          walk_at "rd"
          refine k _ fun m hm em => ?_
          rw [em] at cm
          exact absurd (dig_mem.mpr (TL.numL_digits m c cm)) nd
        · have dg : 48 ≤ c ∧ c ≤ 57 := dig_mem.mp (by
            by_cases q : c ∈ digT.cps.toList
            · exact q
            · exact absurd (show (!decide (c ∈ digT.cps.toList)) = true by rw [decide_eq_false q]; rfl) h)
          have e1 : NumText.digitsVal (z.cps.toList.take (i + 1)) = v * 10 + (c - 48) := by
            rw [List.take_add_one, hc, ev]
            exact NumText.digitsVal_snoc _ c
          walk_at "rd"
          refine ⟨digT, ⟨#[c]⟩, c - 48, rfl, rfl, dig_idx dg, ?_⟩
          walk_at "rd"
          rw [show (v : Int) * 10 + ((c - 48 : Nat) : Int) = ((v * 10 + (c - 48) : Nat) : Int) by omega, ← e1]
          have e30 : (10 : Int) ^ Int.toNat 30 = ((10 ^ 30 : Nat) : Int) := by decide
          rw [e30]
          refine ite2 (fun h => ?_) (fun h => ?_)
          · have ge := of_decide_eq_true h
            walk_at "rd"
            refine k _ fun m hm em => ?_
            have t := val_take z.cps.toList (i + 1)
            rw [em, TL.numL_val] at t
            rw [em] at ge
            exfalso
            omega
          · have lt : ¬ ((10 ^ 30 : Nat) : Int) ≤ _ := fun q => h (decide_eq_true q)
            walk_at "rd"
            exact ⟨rfl, _, _, rfl, by omega, rfl⟩
      · rintro σ H' ⟨rfl, v, x, ev, v1, rfl⟩
        rw [List.take_length] at ev
        walk_at "rd"
        refine k _ fun m hm em => ?_
        rw [ev, em, TL.numL_val]
end

end Lw
namespace Lw
open PySem L2 Bar
section
variable {P : Program} {w : World} {K : PySem.W.Frag} {mg : Str → Option Value} {base : Heap}
theorem Cl.free {z : Str} {st rest : Nat} (h : Cl z st rest) (n : 43 ∉ z.cps.toList) : rest = 0 ∧ z.cps.toList = TL.numL st := by
  have e := h.e
  unfold wl at e
  by_cases q : rest = 0
  · rw [if_pos q, List.append_nil] at e
    exact ⟨q, e⟩
  · rw [if_neg q] at e
    exact absurd (by rw [e]; simp) n
theorem Cl.plus {z : Str} {st rest i : Nat} (h : Cl z st rest) (e1 : Txt.find z ("+" : Str) = (i : Int)) : z.cps.toList.take i = TL.numL st ∧ z.cps.toList.drop (i + 1) = TL.numL rest := by
  have e := h.e
  unfold wl at e
  by_cases q : rest = 0
  · rw [if_pos q, List.append_nil] at e
    rw [find_none (by rw [e]; exact plus_num st)] at e1
    omega
  · rw [if_neg q] at e
    rw [find_some e (plus_num st)] at e1
    have : i = (TL.numL st).length := by omega
    subst this
    rw [e]
    refine ⟨List.take_left, ?_⟩
    rw [List.drop_append, List.drop_eq_nil_of_le (Nat.le_succ _), List.nil_append, show (TL.numL st).length + 1 - (TL.numL st).length = 1 by omega]
    rfl
theorem ok_class {f : Addr} {fd : FuncData} (F : Fun K "_law_class_of" "_law_class_of" s_law_class_of f fd) (T : Txt mg) (f_law_figures : Fn P w K mg base "_law_figures" P_law_figures [] 1 spFig) (f_law_word : Fn P w K mg base "_law_word" P_law_word [] 1 spWord) : FnOk P w K mg base CX0 2 f fd P_law_class_of spClass := by
  refine F.ok sc_law_class_of (fun vs H Q E h => ?_) (fun cdv A outer s H vs Q E hr h => ?_)
  · obtain ⟨z, rfl, _⟩ := h
    rfl
  · obtain ⟨z, rfl, lz, k1, k2⟩ := h
    have sz : z.length ≤ sizeLine := Nat.le_trans lz (by decide)
    refine ⟨_, (pss_cons (ps_set (i := 1) sc_law_class_of.nd rfl (Or.inl rfl) (pe_m1 PySem.F.slot_str_find PySem.F.type_str_find mt_findS (pv 0) pe_str))
    (pss_mid (ps_if (pt_cmpR op_lt (pv 1) pe_int (nomark _)) (pss_cons (ps_set (i := 2) sc_law_class_of.nd rfl (Or.inl rfl) (pe_fn f_law_figures (hr.mono (by omega)) rfl (pa_cons (pv 0) pa_nil)))
    (pss_one (ps_set (i := 3) sc_law_class_of.nd rfl (Or.inl rfl) pe_int))) (pss_cons (ps_set (i := 2) sc_law_class_of.nd rfl (Or.inl rfl) (pe_fn f_law_figures (hr.mono (by omega)) rfl (pa_cons (pe_slice sl_str (pv 0) po_none (po_some (pv 1))) pa_nil)))
    (pss_one (ps_set (i := 3) sc_law_class_of.nd rfl (Or.inl rfl) (pe_fn f_law_figures (hr.mono (by omega)) rfl (pa_cons (pe_slice sl_str (pv 0) (po_some (pe_op op_add (pv 1) pe_int)) po_none) pa_nil))))))
    (pss_cons (ps_if (PW.pt (pw_or (pt_cmpR op_lt (pv 2) pe_int (nomark _)) (pw_or (pt_cmpR op_ge (pv 2) (pe_op op_powW pe_int pe_int) (nomark _)) (pw_or (pt_not (pt_chain op_le op_lt pe_int (pv 3) (pv 2))) (pw_or1 (pt_cmpR op_ne (pe_fn f_law_word (hr.mono (by omega)) rfl (pa_cons (pv 2) (pa_cons (pv 3) pa_nil))) (pv 0) (nomark _))))))) (pss_one (ps_ret pe_non)) pss_nil)
    (pss_one (ps_ret (pe_lst (pa_cons (pv 2) (pa_cons (pv 3) pa_nil)))))))), ?_⟩
    refine Bar.rStart (σ := [some (.str z), none, none, none]) rfl ?_
    walk_at "rd"
    refine ⟨fun σ H' => H' = H ∧ ∃ (at' : Option V) (n1 n2 : Int), (∀ st rest, Cl z st rest → n1 = (st : Int) ∧ n2 = (rest : Int)) ∧ σ = [some (.str z), at', some (.int n1), some (.int n2)], ?_, ?_⟩
    · rcases find_of z with ⟨e, n⟩ | ⟨i, e, hi, n⟩
      · rw [e]
        walk_at "rd"
        refine ite2 (fun h => ?_) (fun h => absurd (by decide) h)
        walk_at "rd"
        refine ⟨z, rfl, by omega, fun n1 hn1 => ?_⟩
        walk_at "rd"
        exact ⟨rfl, _, n1, 0, fun st rest c => ⟨hn1 st c.s2 (c.free n).2, by rw [(c.free n).1]; rfl⟩, rfl⟩
      · rw [e]
        walk_at "rd"
        refine ite2 (fun h => ?_) (fun h => ?_)
        · have := of_decide_eq_true h
          exfalso
          omega
        · walk_at "rd"
          have e1 := cut_to (z := z) (n := (i : Int)) (by omega)
          have e2 := cut_from (z := z) (n := (i : Int) + 1) (by omega)
          rw [Int.toNat_natCast] at e1
          rw [show ((i : Int) + 1).toNat = i + 1 by omega] at e2
          refine rSlS_ sz ?_
          refine ⟨_, rfl, ?_, fun n1 hn1 => ?_⟩
          · rw [len_cps, e1, List.length_take, ← len_cps]
            omega
          walk_at "rd"
          refine rSlS_ sz ?_
          refine ⟨_, rfl, ?_, fun n2 hn2 => ?_⟩
          · rw [len_cps, e2, List.length_drop, ← len_cps]
            omega
          walk_at "rd"
          exact ⟨rfl, _, n1, n2, fun st rest c => ⟨hn1 st c.s2 (e1.trans (c.plus e).1), hn2 rest (by have := c.r; have := c.s2; omega) (e2.trans (c.plus e).2)⟩, rfl⟩
    rintro σ H' ⟨rfl, at', n1, n2, hc, rfl⟩
    have e30 : (10 : Int) ^ Int.toNat 30 = ((10 ^ 30 : Nat) : Int) := by decide
    walk_at "rd"
    refine ite2 (fun h1 => ?_) (fun h1 => ?_)
    · have q1 := of_decide_eq_true h1
      walk_at "rd"
      exact k2 fun st rest c => by have := (hc st rest c).1; have := c.s1; omega
    · have q1 : ¬ n1 < 1 := fun q => h1 (decide_eq_true q)
      walk_at "rd"
      rw [e30]
      refine ite2 (fun h2 => ?_) (fun h2 => ?_)
      · have q2 := of_decide_eq_true h2
        walk_at "rd"
        exact k2 fun st rest c => by have := (hc st rest c).1; have := c.s2; omega
      · have q2 : ¬ ((10 ^ 30 : Nat) : Int) ≤ n1 := fun q => h2 (decide_eq_true q)
        walk_at "rd"
        refine ite2 (fun h3 => ?_) (fun h3 => ?_)
        · have q3 := of_decide_eq_true h3
          walk_at "rd"
          refine ite2 (fun h4 => ?_) (fun h4 => ?_)
          · have q4 : ¬ n2 < n1 := fun q => by
              rw [decide_eq_true q] at h4
              cases h4
            walk_at "rd"
            exact k2 fun st rest c => by have := hc st rest c; have := c.r; omega
          · have q4 : n2 < n1 := by
              by_cases q : n2 < n1
              · exact q
              · exact absurd (by rw [decide_eq_false q]; rfl) h4
            obtain ⟨st, rfl⟩ : ∃ st : Nat, n1 = st := ⟨n1.toNat, by omega⟩
            obtain ⟨rest, rfl⟩ : ∃ rest : Nat, n2 = rest := ⟨n2.toNat, by omega⟩
            walk_at "rd"
            refine ⟨st, rest, rfl, by omega, by omega, fun y ey => ?_⟩
            walk_at "rd"
            rw [dStr]
            refine ite2 (fun h5 => ?_) (fun h5 => ?_)
            · have ne : ¬ y = z := fun q => by
                rw [decide_eq_true q] at h5
                cases h5
              walk_at "rd"
              refine k2 fun st' rest' c => ne (str_ext ?_)
              obtain ⟨c1, c2⟩ := hc st' rest' c
              rw [ey, c.e, show st = st' by omega, show rest = rest' by omega]
            · have eq : y = z := by
                by_cases q : y = z
                · exact q
                · exact absurd (by rw [decide_eq_false q]; rfl) h5
              walk_at "rd"
              intro p hp
              exact k1 st rest p ⟨by omega, by omega, by omega, by rw [← eq]; exact ey⟩ hp
        · have q3 : ¬ 0 ≤ n2 := fun q => h3 (decide_eq_true q)
          walk_at "rd"
          exact k2 fun st rest c => by have := hc st rest c; omega
end

end Lw
namespace Lw
open PySem L2 Bar

/-! ### grids -/
abbrev gf (st o : Int) : List (Str × V) := [("step", .int st), ("offset", .int o)]
def GridAt (C : Addr) (H : Hp) (g : Addr) (st o : Int) : Prop := ∃ dx, H g = some (.ins C dx (gf st o))
structure GTxt (K : PySem.W.Frag) (C : Addr) : Prop where
  cl : Cls K C
  nS : NoAttr K C "step"
  nO : NoAttr K C "offset"
theorem put_step (st : Int) : putF ("step" : Str) (.int st) [] = ([("step", V.int st)] : List (Str × V)) := rfl
theorem put_off (st o : Int) : putF ("offset" : Str) (.int o) ([("step", V.int st)] : List (Str × V)) = gf st o := by
  show (if ("step" : Str) = "offset" then _ else (("step" : Str), V.int st) :: putF "offset" (V.int o) []) = _
  rw [if_neg (show ¬ (("step" : Str) = "offset") by decide +kernel)]
  rfl
theorem gf_step (st o : Int) : (gf st o).lookup ("step" : Str) = some (.int st) := by
  rw [← put_off, lookup_putF, if_neg (show ¬ (("step" : Str) = "offset") by decide +kernel), ← put_step, lookup_putF, if_pos rfl]
theorem gf_off (st o : Int) : (gf st o).lookup ("offset" : Str) = some (.int o) := by
  rw [← put_off, lookup_putF, if_pos rfl]
/-- a new grid -/
def spInit (C : Addr) : Sp := fun vs H Q _ => ∃ (p dx : Addr) (st o : Int), vs = [.ref p, .int st, .int o] ∧ H p = some (.ins C dx []) ∧ 1 ≤ st ∧ ∀ H', Kp p H H' → H' p = some (.ins C dx (gf st (o % st))) → Q .non H'
def spIn (C : Addr) : Sp := fun vs H Q _ => ∃ (g : Addr) (st o x : Int), vs = [.ref g, .int x] ∧ GridAt C H g st o ∧ 1 ≤ st ∧ Q (.bl (decide (x % st = o))) H
section
variable {P : Program} {w : World} {K : PySem.W.Frag} {mg : Str → Option Value} {base : Heap} {C : Addr}
theorem mkG {H : Hp} {R : Addr → Hp → Prop} {E : XK} {st o : Int} (s1 : 1 ≤ st) (h : ∀ x H2, H x = none → Same H H2 → GridAt C H2 x st (o % st) → R x H2) :
    ∀ x dx, H x = none → H dx = none → dx ≠ x → spInit C [.ref x, .int st, .int o] (upd (upd H dx (.own x)) x (.ins C dx [])) (fun v H2 => v = .non ∧ R x H2) E := by
  intro x dx hx hdx ne
  refine ⟨x, dx, st, o, rfl, upd_same, s1, fun H' k hp => ⟨rfl, h x H' hx (fun b u e => ?_) ⟨dx, hp⟩⟩⟩
  have nb : b ≠ x := ne_of_none e hx
  refine k b u nb ?_
  rw [upd_ne nb]
  exact Bar.lkNew hdx e
theorem GridAt.same {H H' : Hp} {g : Addr} {st o : Int} (k : Same H H') (h : GridAt C H g st o) : GridAt C H' g st o := by
  obtain ⟨dx, h⟩ := h
  exact ⟨dx, k _ _ h⟩
theorem GridAt.kp {b : Addr} {xs : List V} {H H' : Hp} {g : Addr} {st o : Int} (k : Kp b H H') (hb : H b = some (.lst xs)) (h : GridAt C H g st o) : GridAt C H' g st o := by
  obtain ⟨dx, h⟩ := h
  exact ⟨dx, k _ _ (ne_of h hb (by intro z; cases z)) h⟩
theorem GridAt.kp2 {b l : Addr} {xs : List V} {H H' : Hp} {g : Addr} {st o : Int} (k : Kp2 b l H H') (hb : H b = some (.lst xs)) (hl : H l = none) (h : GridAt C H g st o) : GridAt C H' g st o := by
  obtain ⟨dx, h⟩ := h
  exact ⟨dx, k _ _ (ne_of h hb (by intro z; cases z)) (ne_of_none h hl) h⟩
theorem rIn_ {H : Hp} {g : Addr} {st o x : Int} {R : Bool → Prop} (h : GridAt C H g st o) (s1 : 1 ≤ st) (r : R (decide (x % st = o))) {Q : VK} (e : ∀ b, R b → Q (.bl b) H) : rOwnIn C (spIn C) (.int x) (.ref g) H Q := by
  obtain ⟨dx, hg⟩ := h
  exact ⟨g, dx, _, rfl, hg, g, st, o, x, rfl, ⟨dx, hg⟩, s1, _, rfl, e _ r⟩
theorem rInG {H : Hp} {g : Addr} {st o x : Int} {Q : VK} (h : GridAt C H g st o) (s1 : 1 ≤ st) (r : Q (.bl (decide (x % st = o))) H) : rOwnIn C (spIn C) (.int x) (.ref g) H Q := by
  obtain ⟨dx, hg⟩ := h
  exact ⟨g, dx, _, rfl, hg, g, st, o, x, rfl, ⟨dx, hg⟩, s1, _, rfl, r⟩
theorem in_iff (u b a : Int) : decide (u % a = b % a) = decide ((u - b) % a = 0) := decide_eq_decide.mpr Int.emod_eq_emod_iff_emod_sub_eq_zero
theorem in_ne (u b a : Int) : (!(decide (u % a = b % a) == decide ((u - b) % a = 0))) = false := by
  rw [in_iff]
  simp
theorem GridAt.new {H : Hp} {g p : Addr} {u : HO} {st o : Int} (hp : H p = none) (h : GridAt C H g st o) : GridAt C (upd H p u) g st o := by
  obtain ⟨dx, h⟩ := h
  exact ⟨dx, Bar.lkNew hp h⟩
theorem ok_init {f : Addr} {fd : FuncData} {dvs : List V} (F : FunD K "__init__" "Grid.__init__" (defArgs s_Grid___init__) (defBody s_Grid___init__) (defScope s_Grid___init__) dvs [] f fd) (G : GTxt K C) : FnOk P w K mg base CX0 1 f fd P_Grid___init__ (spInit C) := by
  refine F.ok sc_Grid___init__ (fun vs H Q E h => ?_) (fun cdv A outer s H vs Q E hr h => ?_)
  · obtain ⟨p, dx, st, o, rfl, _⟩ := h
    rfl
  · obtain ⟨p, dx, st, o, rfl, hp, s1, k⟩ := h
    refine ⟨_, PSs.nox (pss_cons (ps_if (pt_cmpR op_lt (pv 1) pe_int (nomark _)) (pss_one ps_never) pss_nil)
    (pss_cons (ps_fld (pv 0) (pv 1) rfl)
    (pss_one (ps_fld (pv 0) (pe_op op_mod (pv 2) (pv 1)) rfl)))), ?_⟩
    refine Bar.rStart (σ := [some (.ref p), some (.int st), some (.int o)]) rfl ?_
    walk_at "rd"
    refine ite2 (fun h => absurd (of_decide_eq_true h) (by omega)) (fun h => ?_)
    walk_at "rd"
    refine ⟨p, C, dx, _, rfl, hp, G.cl, G.nS, (by show 0 < 1000; decide), ?_⟩
    rw [put_step]
    walk_at "rd"
    refine ⟨p, C, dx, _, rfl, upd_same, G.cl, G.nO, (by show 1 < 1000; decide), ?_⟩
    rw [put_off]
    walk_at "rd"
    refine k _ (fun a o' n e => ?_) upd_same
    rw [upd_ne n, upd_ne n]
    exact e
end


/-! ### the program's words -/
def numB (l : List Nat) : Bool := decide (l.length ≤ 30) && decide (l ≠ []) && l.all (fun c => decide (48 ≤ c ∧ c ≤ 57)) && (decide (l = [48]) || decide (l.head? ≠ some 48))
theorem num_head : ∀ n : Nat, 0 < n → (TL.numL n).head? ≠ some 48 := fun n => by
  induction n using Nat.strongRecOn with
  | _ n ih =>
    intro hn
    by_cases h : n < 10
    · rw [TL.numL_lt h]
      intro e
      injection e with e
      omega
    · rw [TL.numL_step (by omega), List.head?_append]
      have := ih (n / 10) (by omega) (by omega)
      cases e : (TL.numL (n / 10)).head? with
      | none => exact absurd (List.head?_eq_none_iff.mp e) (TL.numL_ne _)
      | some c =>
        rw [e] at this
        exact this
theorem num_zero : TL.numL 0 = [48] := TL.numL_lt (by decide)
theorem numB_num {n : Nat} (h : n < 10 ^ 30) : numB (TL.numL n) = true := by
  unfold numB
  have h1 : decide ((TL.numL n).length ≤ 30) = true := decide_eq_true (TL.numL_len (by decide) h)
  have h2 : decide (TL.numL n ≠ []) = true := decide_eq_true (TL.numL_ne n)
  have h3 : (TL.numL n).all (fun c => decide (48 ≤ c ∧ c ≤ 57)) = true := List.all_eq_true.mpr fun c hc => decide_eq_true (TL.numL_digits n c hc)
  have h4 : (decide (TL.numL n = [48]) || decide ((TL.numL n).head? ≠ some 48)) = true := by
    by_cases q : n = 0
    · rw [q, num_zero]
      rfl
    · rw [decide_eq_true (num_head n (by omega)), Bool.or_true]
  rw [h1, h2, h3, h4]
  rfl
structure NumOk (l : List Nat) : Prop where
  len : l.length ≤ 30
  ne : l ≠ []
  dg : NumText.AllDigits l
  hd : l = [48] ∨ l.head? ≠ some 48
theorem numB_ok {l : List Nat} (h : numB l = true) : NumOk l := by
  unfold numB at h
  simp only [Bool.and_eq_true, Bool.or_eq_true, decide_eq_true_eq] at h
  exact ⟨h.1.1.1, h.1.1.2, fun c hc => of_decide_eq_true (List.all_eq_true.mp h.1.2 c hc), h.2⟩
theorem val_lt : ∀ (l : List Nat) (s : Nat), NumText.AllDigits l → l.foldl (fun acc c => acc * 10 + (c - 48)) s < (s + 1) * 10 ^ l.length
  | [], s, _ => by
    show s < (s + 1) * 1
    omega
  | c :: l, s, h => by
    have hc := h c (List.mem_cons_self ..)
    have t := val_lt l (s * 10 + (c - 48)) fun d hd => h d (List.mem_cons_of_mem _ hd)
    rw [List.foldl_cons, List.length_cons, Nat.pow_succ]
    refine Nat.lt_of_lt_of_le t ?_
    rw [Nat.mul_comm (10 ^ l.length) 10, ← Nat.mul_assoc]
    exact Nat.mul_le_mul_right _ (by omega)
theorem NumOk.lt {l : List Nat} (h : NumOk l) : NumText.digitsVal l < 10 ^ 30 := by
  have t := val_lt l 0 h.dg
  rw [Nat.zero_add, Nat.one_mul] at t
  exact Nat.lt_of_lt_of_le t (Nat.pow_le_pow_right (by decide) h.len)
theorem NumOk.pos {l : List Nat} (h : NumOk l) (n : ¬ l = [48]) : 1 ≤ NumText.digitsVal l := by
  rcases h.hd with e | e
  · exact absurd e n
  · match l, h.ne, h.dg, e with
    | c :: r, _, dg, e =>
      have := dg c (List.mem_cons_self ..)
      have : c ≠ 48 := fun q => e (by rw [q]; rfl)
      exact NumText.digitsVal_pos (by omega)
theorem part_of (z : Str) : (43 ∉ z.cps.toList ∧ Txt.partition z ("+" : Str) = (z, Str.empty, Str.empty)) ∨ ∃ a b : Str, z.cps.toList = a.cps.toList ++ 43 :: b.cps.toList ∧ 43 ∉ a.cps.toList ∧ Txt.partition z ("+" : Str) = (a, ("+" : Str), b) := by
  have ep : TL.tl ("+" : Str) = 43 :: [] := by decide +kernel
  rcases find_of z with ⟨_, n⟩ | ⟨i, _, hi, n⟩
  · exact .inl ⟨n, TL.partition_none ep n⟩
  · have il := (List.getElem?_eq_some_iff.mp hi).1
    have e : z.cps.toList = z.cps.toList.take i ++ 43 :: z.cps.toList.drop (i + 1) := by
      conv => lhs; rw [← List.take_append_drop i z.cps.toList, List.drop_eq_getElem_cons il]
      rw [(List.getElem?_eq_some_iff.mp hi).2]
    refine .inr ⟨⟨(z.cps.toList.take i).toArray⟩, ⟨(z.cps.toList.drop (i + 1)).toArray⟩, e, n, ?_⟩
    have ez : z = ((⟨(z.cps.toList.take i).toArray⟩ : Str) ++ ("+" : Str)) ++ ⟨(z.cps.toList.drop (i + 1)).toArray⟩ := str_ext (by
      rw [cat_cps, cat_cps, List.append_assoc]
      exact e)
    have p := TL.partition_app (y := ("+" : Str)) (a := ⟨(z.cps.toList.take i).toArray⟩) (b := ⟨(z.cps.toList.drop (i + 1)).toArray⟩) ep n
    rw [← ez] at p
    exact p
theorem digit_ascii : ∀ c : Nat, c < 128 → Unicode.isDigit c = decide (48 ≤ c ∧ c ≤ 57) := by decide +kernel
theorem isdigit_of {z : Str} (h : ∀ c ∈ z.cps.toList, c < 128) : Txt.isdigit z = (decide (z.cps.toList ≠ []) && z.cps.toList.all fun c => decide (48 ≤ c ∧ c ≤ 57)) := by
  unfold Txt.isdigit
  rw [← Array.all_toList]
  have e1 : (decide (z.length > 0)) = decide (z.cps.toList ≠ []) := by
    rw [len_cps]
    exact decide_eq_decide.mpr (by rw [gt_iff_lt, List.length_pos_iff])
  have e2 : ∀ l : List Nat, (∀ c ∈ l, c < 128) → l.all Unicode.isDigit = l.all fun c => decide (48 ≤ c ∧ c ≤ 57) := fun l => by
    induction l with
    | nil => intro _; rfl
    | cons c r ih =>
      intro hl
      rw [List.all_cons, List.all_cons, ih fun d hd => hl d (List.mem_cons_of_mem _ hd), digit_ascii c (hl c (List.mem_cons_self ..))]
  rw [e2 _ h]
  exact congrArg (· && _) e1
theorem isascii_of {z : Str} (h : ∀ c ∈ z.cps.toList, c < 128) : Txt.isascii z = true := by
  unfold Txt.isascii
  rw [← Array.all_toList, List.all_eq_true]
  exact fun c hc => decide_eq_true (h c hc)
theorem starts_zero {z : Str} : Txt.startswith z ("0" : Str) = decide (z.cps.toList.head? = some 48) := by
  have ep : ("0" : Str) = (⟨#[48]⟩ : Str) := rfl
  rw [ep]
  have one := StrLaws.subAt_one z 48 0
  rw [Bool.eq_iff_iff, decide_eq_true_eq, List.head?_eq_getElem?, ← one]
  unfold Txt.startswith
  rw [Bool.and_eq_true, decide_eq_true_eq]
def spIsNum : Sp := fun vs H Q _ => ∃ z : Str, vs = [.str z] ∧ WOk z ∧ Q (.bl (numB z.cps.toList)) H
def spStrG (C : Addr) : Sp := fun vs H Q _ => ∃ (g : Addr) (st o : Nat), vs = [.ref g] ∧ GridAt C H g st o ∧ st < 10 ^ 32 ∧ o < 10 ^ 32 ∧ ∀ z : Str, z.cps.toList = wl st o → Q (.str z) H
def spReadX (C CW : Addr) : Sp := fun vs H Q E => ∃ z : Str, vs = [.ref C, .str z] ∧ WOk z ∧ (∀ (st rest : Nat) (g : Addr) (H' : Hp), Cl z st rest → Same H H' → GridAt C H' g st rest → Q (.ref g) H') ∧
  ((∀ st rest, ¬ Cl z st rest) → ∀ d H', H d = none → Same H H' → H' d = some (.xd [("word", .str z)]) → E (.ref CW) (some d) H')
section
variable {P : Program} {w : World} {K : PySem.W.Frag} {mg : Str → Option Value} {base : Heap} {C : Addr}
theorem rFS {H : Hp} {g : Addr} {st o : Int} {R : V → Prop} (G : GTxt K C) (h : GridAt C H g st o) (r : R (.int st)) : ∃ a C dx fs v, V.ref g = .ref a ∧ H a = some (.ins C dx fs) ∧ Cls K C ∧ NoAttr K C "step" ∧ fs.lookup ("step" : Str) = some v ∧ R v := by
  obtain ⟨dx, hg⟩ := h
  exact Bar.rFldV hg G.cl G.nS (gf_step _ _) r
theorem rFO {H : Hp} {g : Addr} {st o : Int} {R : V → Prop} (G : GTxt K C) (h : GridAt C H g st o) (r : R (.int o)) : ∃ a C dx fs v, V.ref g = .ref a ∧ H a = some (.ins C dx fs) ∧ Cls K C ∧ NoAttr K C "offset" ∧ fs.lookup ("offset" : Str) = some v ∧ R v := by
  obtain ⟨dx, hg⟩ := h
  exact Bar.rFldV hg G.cl G.nO (gf_off _ _) r

theorem ok_isnum {f : Addr} {fd : FuncData} {tk1 : Tok} (F : Fun K "is_number" "is_number" s_is_number f fd) (T : Txt mg) (g_int_MOST_DIGITS : mg "MOST_DIGITS" = some (.int 30 tk1)) : FnOk P w K mg base CX0 1 f fd P_is_number spIsNum := by
  refine F.ok sc_is_number (fun vs H Q E h => ?_) (fun cdv A outer s H vs Q E hr h => ?_)
  · obtain ⟨z, rfl, _⟩ := h
    rfl
  · obtain ⟨z, rfl, oz, k⟩ := h
    refine ⟨_, (pss_cons (ps_if (PW.pt (pw_or (pt_cmpR op_gt (pe_callB c_lenStr rfl T.b_len PySem.boot_len (pa_cons (pv 0) pa_nil)) (pe_glob (v := .int 30) rfl g_int_MOST_DIGITS ⟨_, rfl⟩) (nomark _)) (pw_or1 (pt_not (PW.pt (pw_and (pt_val (pe_m0 PySem.F.slot_str_isascii PySem.F.type_str_isascii mt_asciiS (pv 0))) (pw_and1 (pt_val (pe_m0 PySem.F.slot_str_isdigit PySem.F.type_str_isdigit mt_digitS (pv 0)))))))))) (pss_one (ps_ret pe_bl)) pss_nil)
    (pss_one (ps_ret (pe_or (pe_cmpR op_eq (pv 0) pe_str (nomark _)) (pe_one (pe_not (pe_m1 PySem.F.slot_str_startswith PySem.F.type_str_startswith mt_startS (pv 0) pe_str))))))), ?_⟩
    refine Bar.rStart (σ := [some (.str z)]) rfl ?_
    walk_at "rd"
    refine Bar.rLenStr_ (Nat.le_trans oz.len (by decide)) ?_
    walk_at "rd"
    unfold numB at k
    refine ite2 (fun h1 => ?_) (fun h1 => ?_)
    · have q : ¬ z.cps.toList.length ≤ 30 := fun q => by
        have := of_decide_eq_true h1
        rw [len_cps] at this
        omega
      rw [decide_eq_false q] at k
      simp only [Bool.false_and] at k
      walk_at "rd"
      exact k
    · have q : z.cps.toList.length ≤ 30 := by
        by_cases q : z.cps.toList.length ≤ 30
        · exact q
        · exact absurd (decide_eq_true (show (30 : Int) < z.length by rw [len_cps]; omega)) h1
      rw [decide_eq_true q, Bool.true_and] at k
      walk_at "rd"
      rw [isascii_of oz.small]
      walk_at "rd"
      rw [isdigit_of oz.small]
      generalize (decide (z.cps.toList ≠ []) && z.cps.toList.all fun c => decide (48 ≤ c ∧ c ≤ 57)) = dg at k
      cases dg with
      | false =>
        simp only [Bool.false_and] at k
        walk_at "rd"
        exact k
      | true =>
        rw [Bool.true_and] at k
        walk_at "rd"
        rw [dStr]
        refine ite2 (fun h2 => ?_) (fun h2 => ?_)
        · have e := of_decide_eq_true h2
          have e1 : z.cps.toList = [48] := by rw [e]; decide +kernel
          rw [decide_eq_true e1, Bool.true_or] at k
          exact k
        · have n1 : ¬ z.cps.toList = [48] := fun q => h2 (decide_eq_true (str_ext (q.trans (by decide +kernel))))
          rw [decide_eq_false n1, Bool.false_or] at k
          walk_at "rd"
          rw [starts_zero]
          rw [show decide (z.cps.toList.head? ≠ some 48) = !decide (z.cps.toList.head? = some 48) from decide_not] at k
          exact k
theorem ok_strG {f : Addr} {fd : FuncData} (F : Fun K "__str__" "Grid.__str__" s_Grid___str__ f fd) (T : Txt mg) (G : GTxt K C) : FnOk P w K mg base CX0 1 f fd P_Grid___str__ (spStrG C) := by
  refine F.ok sc_Grid___str__ (fun vs H Q E h => ?_) (fun cdv A outer s H vs Q E hr h => ?_)
  · obtain ⟨g, st, o, rfl, _⟩ := h
    rfl
  · obtain ⟨g, st, o, rfl, hg, h1, h2, k⟩ := h
    refine ⟨_, (pss_cons (ps_if (pt_cmpR op_eq (pe_fld (pv 0) rfl) pe_int (nomark _)) (pss_one (ps_ret (pe_callTy c_str rfl T.b_str (by decide +kernel) (pa_cons (pe_fld (pv 0) rfl) pa_nil)))) pss_nil)
    (pss_one (ps_ret (pe_joined (PJ.cons (pe_fmt (pe_fld (pv 0) rfl)) (PJ.cons pe_str (PJ.cons (pe_fmt (pe_fld (pv 0) rfl)) PJ.nil))))))), ?_⟩
    refine Bar.rStart (σ := [some (.ref g)]) rfl ?_
    walk_at "rd"
    refine rFO G hg ?_
    walk_at "rd"
    refine ite2 (fun h => ?_) (fun h => ?_)
    · have e : o = 0 := by have := of_decide_eq_true h; omega
      subst e
      walk_at "rd"
      refine rFS G hg ?_
      walk_at "rd"
      refine Bar.rStr_ (log_ok h1) ?_
      exact k _ word_cps0
    · have ne : ¬ o = 0 := fun e => h (decide_eq_true (by omega))
      walk_at "rd"
      have l1 := numS_len h1
      have l2 := numS_len h2
      have e3 : ((Str.empty ++ numS st) ++ ("+" : Str) ++ numS o).cps.toList = wl st o := by
        rw [cat_cps, cat_cps, cat_cps, numS_cps, numS_cps]
        unfold wl
        rw [if_neg ne, List.append_assoc]
        rfl
      have len3 : ((Str.empty ++ numS st) ++ ("+" : Str) ++ numS o).length ≤ 65 := by
        rw [len_cps, e3]
        exact wl_len h1 h2
      refine ⟨_, rfl, ?_⟩
      refine rFS G hg ?_
      refine .inr ⟨st, rfl, log_ok h1, ?_⟩
      refine ⟨numS st, rfl, ?_, ?_⟩
      · rw [len_cps, cat_cps, List.length_append, ← len_cps]
        exact Nat.le_trans (show 0 + (numS st).length ≤ 32 by omega) (by decide)
      refine ⟨("+" : Str), rfl, ?_, ?_⟩
      · rw [len_cps, cat_cps, cat_cps, List.length_append, List.length_append, ← len_cps]
        have : (("+" : Str)).cps.toList.length ≤ 1 := by decide +kernel
        exact Nat.le_trans (show 0 + (numS st).length + _ ≤ 33 by omega) (by decide)
      refine ⟨_, rfl, ?_⟩
      refine rFO G hg ?_
      refine .inr ⟨o, rfl, log_ok h2, ?_⟩
      exact ⟨numS o, rfl, Nat.le_trans len3 (by decide), k _ e3⟩
end

end Lw
namespace Lw
open PySem L2 Bar
/-! ### Grid.read -/
abbrev okWord : V → Prop := fun v => ∃ z : Str, v = .str z ∧ WOk z
section
variable {P : Program} {w : World} {K : PySem.W.Frag} {mg : Str → Option Value} {base : Heap}
theorem ok_eWord {f C CB : Addr} {fd : FuncData} (F : Fun K "__init__" "BadWord.__init__" s_BadWord___init__ f fd) (eb : EBase K mg "BarclipsError" CB) (O : OexC K C) (no : PySem.W.findIn K (.ref C) "word" = some none) : FnOk P w K mg base CX0 1 f fd P_BadWord___init__ (spErr1 C "word" okWord) := by
  refine F.ok sc_BadWord___init__ (fun vs H Q E h => ?_) (fun cdv A outer s H vs Q E hr h => ?_)
  · obtain ⟨a, v, rfl, _⟩ := h
    rfl
  · obtain ⟨a, v, rfl, ha, ⟨z, rfl, oz⟩, k⟩ := h
    have lr : (reprText z).length ≤ 44502 := by
      have := PySem.StrLaws.reprText_len z fun c hc => Nat.lt_trans (oz.small c hc) (by decide)
      have := oz.len
      omega
    refine ⟨_, (pss_cons (ps_expr (pe_baseInit eb rfl (pa_cons (pv 0) (pa_cons (pe_joined (PJ.cons pe_str (PJ.cons (pe_fmtR (pv 1)) PJ.nil))) pa_nil))))
    (pss_one (ps_ost (pv 0) (pv 1) rfl))), ?_⟩
    refine Bar.rStart (σ := [some (.ref a), some (.str z)]) rfl ?_
    walk_at "rd"
    refine ⟨"not a word that may stand here: ", rfl, by decide +kernel, ?_⟩
    refine ⟨_, rfl, .inl ⟨z, rfl, Nat.le_trans lr (by decide), ?_⟩⟩
    refine ⟨reprText z, rfl, ?_, ?_⟩
    · rw [len_cps, cat_cps, List.length_append]
      have e1 : (reprText z).cps.toList.length ≤ 44502 := lr
      have e2 : ((Str.empty ++ ("not a word that may stand here: " : Str)) : Str).cps.toList.length ≤ 100 := by decide +kernel
      exact Nat.le_trans (show _ ≤ 44602 by omega) (by decide)
    walk_at "rd"
    refine ⟨a, C, _, rfl, (by show 1 ≤ 1000; decide), O, ha, ?_⟩
    walk_at "rd"
    refine ⟨a, C, rfl, O, no, .inl ⟨ha, fun d hd ne => ?_⟩⟩
    walk_at "rd"
    exact k d hd ne
/-- the two parts of a word, and what they have to do with its class -/
theorem parts_ok {z : Str} (oz : WOk z) : ∃ a p b off : Str, Txt.partition z ("+" : Str) = (a, p, b) ∧ WOk a ∧ WOk off ∧ ((p = ("" : Str) ∧ off = ("0" : Str)) ∨ (¬ p = ("" : Str) ∧ off = b)) ∧ ∀ st rest, Cl z st rest → a.cps.toList = TL.numL st ∧ off.cps.toList = TL.numL rest := by
  have o0 : WOk ("0" : Str) := ⟨by decide +kernel, by decide +kernel⟩
  rcases part_of z with ⟨n, e⟩ | ⟨a, b, ez, na, e⟩
  · refine ⟨z, _, _, ("0" : Str), e, oz, o0, .inl ⟨by decide +kernel, rfl⟩, fun st rest c => ?_⟩
    obtain ⟨c1, c2⟩ := c.free n
    rw [c1, num_zero]
    exact ⟨c2, by decide +kernel⟩
  · have sub : ∀ c, c ∈ a.cps.toList ∨ c ∈ b.cps.toList → c < 128 := fun c hc => oz.small c (by
      rw [ez, List.mem_append, List.mem_cons]
      rcases hc with h | h
      · exact .inl h
      · exact .inr (.inr h))
    have ll : a.cps.toList.length + (b.cps.toList.length + 1) ≤ 4450 := by
      have l := oz.len
      rw [len_cps, ez, List.length_append, List.length_cons] at l
      exact l
    refine ⟨a, _, b, b, e, ⟨by rw [len_cps]; omega, fun c hc => sub c (.inl hc)⟩, ⟨by rw [len_cps]; omega, fun c hc => sub c (.inr hc)⟩, .inr ⟨by decide +kernel, rfl⟩, fun st rest c => ?_⟩
    have q := c.e
    rw [ez] at q
    obtain ⟨q1, q2⟩ := split43 na (plus_num st) (.inr ⟨_, rfl⟩) (tail_ok rest) q
    refine ⟨q1, ?_⟩
    by_cases r0 : rest = 0
    · rw [if_pos r0] at q2
      cases q2
    · rw [if_neg r0] at q2
      injection q2
theorem ok_readX {f C CW : Addr} {fd : FuncData} (F : Fun K "read" "Grid.read" s_Grid_read f fd) (T : Txt mg) (fis_number : Fn P w K mg base "is_number" P_is_number [] 1 spIsNum) (er_BadWord : Err P w K mg base "BadWord" CW P_BadWord___init__ 1 (spErr1 CW "word" okWord))
    (mkl_cls : MadeL P w K mg base C P_Grid___init__ [] 1 (spInit C)) (sf_Grid : StrF P w K mg base C P_Grid___str__ 1 (spStrG C)) : FnOk P w K mg base (L2.CX P w) 4 f fd P_Grid_read (spReadX C CW) := by
  refine F.okX sc_Grid_read (fun vs H Q E h => ?_) (fun cdv A outer s H vs Q E hr h => ?_)
  · obtain ⟨z, rfl, _⟩ := h
    rfl
  · obtain ⟨z, rfl, oz, k1, k2⟩ := h
    obtain ⟨a, p, b, off, ep, oa, oo, ho, hc⟩ := parts_ok oz
    refine ⟨_, (pss_cons (ps_asg (pe_m1 PySem.F.slot_str_partition PySem.F.type_str_partition mt_partS (pv 1) pe_str) (pg_tup rfl (pgs_cons (pg_name (i := 2) sc_Grid_read.nd rfl (Or.inl rfl)) (pgs_cons (pg_name (i := 3) sc_Grid_read.nd rfl (Or.inl rfl)) (pgs_cons (pg_name (i := 4) sc_Grid_read.nd rfl (Or.inl rfl)) pgs_nil)))))
    (pss_mid (ps_if (pt_cmpR op_eq (pv 3) pe_str (nomark _)) (pss_one (ps_set (i := 4) sc_Grid_read.nd rfl (Or.inl rfl) pe_str)) pss_nil)
    (pss_cons (ps_if (PW.pt (pw_or (pt_not (pt_val (pe_fn fis_number (hr.mono (by omega)) rfl (pa_cons (pv 2) pa_nil)))) (pw_or (pt_not (pt_val (pe_fn fis_number (hr.mono (by omega)) rfl (pa_cons (pv 4) pa_nil)))) (pw_or1 (pt_cmpR op_eq (pv 2) pe_str (nomark _)))))) (pss_one (ps_raise rfl (takes_of rfl rfl rfl rfl) (pmk_err er_BadWord (hr.mono (by omega)) rfl (pa_cons (pv 1) pa_nil)))) pss_nil)
    (pss_cons (ps_set (i := 5) sc_Grid_read.nd rfl (Or.inl rfl) (pe_mkL (i := 0) mkl_cls (hr.mono (by omega)) (pa_cons (pe_callTy c_intS rfl T.b_int (by decide +kernel) (pa_cons (pv 2) pa_nil)) (pa_cons (pe_callTy c_intS rfl T.b_int (by decide +kernel) (pa_cons (pv 4) pa_nil)) pa_nil))))
    (pss_cons (ps_if (pt_cmpR op_ne (pe_callTy (c_strO sf_Grid (hr.mono (by omega))) rfl T.b_str (by decide +kernel) (pa_cons (pv 5) pa_nil)) (pv 1) (nomark _)) (pss_one (ps_raise rfl (takes_of rfl rfl rfl rfl) (pmk_err er_BadWord (hr.mono (by omega)) rfl (pa_cons (pv 1) pa_nil)))) pss_nil)
    (pss_one (ps_ret (pv 5)))))))), ?_⟩
    refine Bar.rStart (σ := [some (.ref C), some (.str z), none, none, none, none]) rfl ?_
    walk_at "rd"
    refine ⟨z, ("+" : Str), rfl, rfl, by decide +kernel, Nat.le_trans oz.len (by decide), fun t ht => ?_⟩
    rw [ep]
    have S1 : Same H (upd H t (.tup [.str a, .str p, .str b])) := fun _ _ e => Bar.lkNew ht e
    refine rTupU (SqT.of upd_same) rfl ?_
    generalize upd H t (.tup [.str a, .str p, .str b]) = H1 at S1
    walk_at "rd"
    refine ⟨fun σ H' => H' = H1 ∧ ∃ x, σ = [some (.ref C), some (.str z), some (.str a), x, some (.str off), none], ?_, ?_⟩
    · dsimp only
      rcases ho with ⟨e1, e2⟩ | ⟨e1, e2⟩
      · subst e1 e2
        walk_at "rd"
        exact ⟨rfl, _, rfl⟩
      · subst e2
        walk_at "rd"
        rw [dStr, decide_eq_false e1]
        walk_at "rd"
        exact ⟨rfl, _, rfl⟩
    rintro σ H' ⟨rfl, x, rfl⟩
    have bad : (∀ st rest, ¬ Cl z st rest) → ∀ {Hc : Hp}, Same H Hc → ∀ d H2, Hc d = none → Same Hc H2 → H2 d = some (.xd [("word", .str z)]) → E (.ref CW) (some d) H2 := fun no Hc SC d H2 hd S e => by
      refine k2 no d H2 ?_ (fun _ _ q => S _ _ (SC _ _ q)) e
      cases q : H d with
      | none => rfl
      | some o =>
        rw [SC _ _ q] at hd
        cases hd
    walk_at "rd"
    refine ⟨a, rfl, oa, ?_⟩
    cases na : numB a.cps.toList with
    | false =>
      walk_at "rd"
      exact rErr1 ⟨z, rfl, oz⟩ (bad (fun st rest c => by rw [(hc st rest c).1, numB_num c.s2] at na; cases na) S1)
    | true =>
      walk_at "rd"
      refine ⟨off, rfl, oo, ?_⟩
      cases nb : numB off.cps.toList with
      | false =>
        walk_at "rd"
        exact rErr1 ⟨z, rfl, oz⟩ (bad (fun st rest c => by rw [(hc st rest c).2, numB_num (Nat.lt_trans c.r c.s2)] at nb; cases nb) S1)
      | true =>
        have ka := numB_ok na
        have kb := numB_ok nb
        walk_at "rd"
        rw [dStr]
        refine ite2 (fun h => ?_) (fun h => ?_)
        · have e := of_decide_eq_true h
          walk_at "rd"
          refine rErr1 ⟨z, rfl, oz⟩ (bad (fun st rest c => ?_) S1)
          have q := (hc st rest c).1
          rw [e] at q
          have q : TL.numL 0 = TL.numL st := by rw [num_zero, ← q]; decide +kernel
          have := TL.numL_inj q
          have := c.s1
          omega
        · have n48 : ¬ a.cps.toList = [48] := fun q => h (decide_eq_true (str_ext (q.trans (by decide +kernel))))
          have pa := ka.pos n48
          have la := ka.lt
          have lb := kb.lt
          have ia := PySem.intText_digits (x := a) ka.dg ka.ne (by rw [len_cps]; have := ka.len; omega)
          have ib := PySem.intText_digits (x := off) kb.dg kb.ne (by rw [len_cps]; have := kb.len; omega)
          have ha := fun st rest c => congrArg NumText.digitsVal (hc st rest c).1
          have hb := fun st rest c => congrArg NumText.digitsVal (hc st rest c).2
          simp only [TL.numL_val] at ha hb
          generalize NumText.digitsVal a.cps.toList = va at *
          generalize NumText.digitsVal off.cps.toList = vb at *
          walk_at "rd"
          refine ⟨rfl, ?_⟩
          walk_at "rd"
          refine ⟨a, _, rfl, ia, by rw [len_cps]; have := ka.len; omega, ?_⟩
          walk_at "rd"
          refine ⟨off, _, rfl, ib, by rw [len_cps]; have := kb.len; omega, ?_⟩
          walk_at "rd"
          refine mkG (show (1 : Int) ≤ (va : Int) by omega) fun g H2 hg S2 G2 => ?_
          rw [← Int.natCast_emod] at G2
          have ml : vb % va < va := Nat.mod_lt _ pa
          have S12 : Same H H2 := fun _ _ e => S2 _ _ (S1 _ _ e)
          walk_at "rd"
          obtain ⟨dx, hdx⟩ := id G2
          refine ⟨dx, _, hdx, g, va, vb % va, rfl, G2, by omega, by omega, fun y ey => ⟨y, rfl, ?_⟩⟩
          walk_at "rd"
          rw [dStr]
          refine ite2 (fun h => ?_) (fun h => ?_)
          · have ne : ¬ y = z := fun q => by
              rw [decide_eq_true q] at h
              cases h
            walk_at "rd"
            refine rErr1 ⟨z, rfl, oz⟩ (bad (fun st rest c => ne (str_ext ?_)) S12)
            have q1 := ha st rest c
            have q2 := hb st rest c
            rw [ey, c.e, q1, q2, Nat.mod_eq_of_lt c.r]
          · have eq : y = z := by
              by_cases q : y = z
              · exact q
              · exact absurd (by rw [decide_eq_false q]; rfl) h
            walk_at "rd"
            exact k1 va (vb % va) g _ ⟨pa, la, ml, by rw [← eq]; exact ey⟩ S12 G2
end

end Lw
namespace Lw
open PySem L2 Bar

/-! ### drawn words -/
theorem rIxSmall {z : Str} {i : Int} {H : Hp} {Q : VK} (hz : (z.cps.toList.all fun c => decide (c < 128)) = true) (l : z.length ≤ sizeLine) (h0 : 0 ≤ i) (h1 : i < (z.length : Int)) (k : ∀ c, c < 128 → Q (.str ⟨#[c]⟩) H) : rIxS (.str z) (.int i) H Q := by
  have hn : i.toNat < z.cps.toList.length := by
    rw [len_cps] at h1
    omega
  have e : atI z.cps.toList ((i.toNat : Nat) : Int) = _ := atI_nat (List.getElem?_eq_getElem hn)
  rw [show ((i.toNat : Nat) : Int) = i by omega] at e
  exact rIxS_ l e (k _ (of_decide_eq_true (List.all_eq_true.mp hz _ (List.getElem_mem hn))))
def spSign : Sp := fun vs H Q _ => ∃ (b : Addr) (c s n : Int), vs = [.ref b] ∧ H b = some (box c s n) ∧ ∀ c' H', c' < 128 → KpB b s H H' → Q (.str ⟨#[c']⟩) H'
def spSpoilt : Sp := fun vs H Q _ => ∃ (b : Addr) (c s n : Int) (z : Str), vs = [.ref b, .str z] ∧ H b = some (box c s n) ∧ z.length ≤ 200 ∧ (∀ d ∈ z.cps.toList, d < 128) ∧ ∀ (y : Str) (H' : Hp), y.length ≤ z.length + 1 → (∀ d ∈ y.cps.toList, d < 128) → KpB b s H H' → Q (.str y) H'
def spAny : Sp := fun vs H Q _ => ∃ (b : Addr) (c s n : Int), vs = [.ref b] ∧ H b = some (box c s n) ∧ ∀ (y : Str) (H' : Hp), y.length ≤ 61 → (∀ d ∈ y.cps.toList, d < 128) → KpB b s H H' → Q (.str y) H'
def wordV : V → Bool
  | .str z => decide (z.length ≤ 4450) && z.cps.toList.all fun c => decide (c < 128)
  | _ => false
theorem wordV_ok {v : V} (h : wordV v = true) : ∃ z, v = .str z ∧ WOk z := by
  match v, h with
  | .str z, h =>
    have h : (decide (z.length ≤ 4450) && z.cps.toList.all fun c => decide (c < 128)) = true := h
    rw [Bool.and_eq_true, decide_eq_true_eq] at h
    exact ⟨z, rfl, h.1, fun c hc => of_decide_eq_true (List.all_eq_true.mp h.2 c hc)⟩
theorem wordV_of {z : Str} (l : z.length ≤ 4450) (h : ∀ c ∈ z.cps.toList, c < 128) : wordV (.str z) = true := by
  show (decide (z.length ≤ 4450) && z.cps.toList.all fun c => decide (c < 128)) = true
  rw [decide_eq_true l, Bool.true_and]
  exact List.all_eq_true.mpr fun c hc => decide_eq_true (h c hc)
def spOdd : Sp := fun vs H Q _ => vs = [] ∧ ∀ (p : Addr) (xs : List V) (H' : Hp), Same H H' → H' p = some (.lst xs) → xs.length ≤ 40 → xs.all wordV = true → Q (.ref p) H'
section
variable {P : Program} {w : World} {K : PySem.W.Frag} {mg : Str → Option Value} {base : Heap}
theorem ok_sign {f : Addr} {fd : FuncData} (F : Fun K "_law_sign" "_law_sign" s_law_sign f fd) (T : Txt mg) (f_law_draw : Fn P w K mg base "_law_draw" P_law_draw [] 1 spDrawA) : FnOk P w K mg base CX0 2 f fd P_law_sign spSign := by
  refine F.ok sc_law_sign (fun vs H Q E h => ?_) (fun cdv A outer s H vs Q E hr h => ?_)
  · obtain ⟨b, c, s, n, rfl, _⟩ := h
    rfl
  · obtain ⟨b, c, sa, n, rfl, hb, k⟩ := h
    refine ⟨_, (pss_cons (ps_if (pt_cmpR op_eq (pe_fn f_law_draw (hr.mono (by omega)) rfl (pa_cons (pv 0) (pa_cons pe_int pa_nil))) pe_int (nomark _)) (pss_one (ps_ret (pe_ix ix_str pe_str (pe_fn f_law_draw (hr.mono (by omega)) rfl (pa_cons (pv 0) (pa_cons pe_int pa_nil))) (fun _ _ => rfl)))) pss_nil)
    (pss_cons (ps_set (i := 1) sc_law_sign.nd rfl (Or.inl rfl) pe_str)
    (pss_cons (ps_set (i := 1) sc_law_sign.nd rfl (Or.inl rfl) (pe_op o_catS (pv 1) pe_str))
    (pss_one (ps_ret (pe_ix ix_str (pv 1) (pe_fn f_law_draw (hr.mono (by omega)) rfl (pa_cons (pv 0) (pa_cons pe_int pa_nil))) (fun _ _ => rfl))))))), ?_⟩
    refine Bar.rStart (σ := [some (.ref b), none]) rfl ?_
    walk_at "rd"
    refine ⟨b, c, sa, n, 2, rfl, hb, by decide, by decide, fun r1 H1 l1 u1 ⟨K1, c1, n1, hb1⟩ => ?_⟩
    walk_at "rd"
    refine ite2 (fun h1 => ?_) (fun h1 => ?_)
    · walk_at "rd"
      refine ⟨b, c1, sa, n1, 11, rfl, hb1, by decide, by decide, fun r2 H2 l2 u2 ⟨K2, c2, n2, hb2⟩ => ?_⟩
      refine rIxSmall (by decide +kernel) (by decide +kernel) l2 (Int.lt_of_lt_of_le u2 (by decide +kernel)) fun ch hch => ?_
      exact k ch _ hch ⟨K1.trans K2, _, _, hb2⟩
    · walk_at "rd"
      refine rCatS_ (by decide +kernel) ?_
      walk_at "rd"
      refine ⟨b, c1, sa, n1, 96, rfl, hb1, by decide, by decide, fun r2 H2 l2 u2 ⟨K2, c2, n2, hb2⟩ => ?_⟩
      refine rIxSmall (by decide +kernel) (by decide +kernel) l2 (Int.lt_of_lt_of_le u2 (by decide +kernel)) fun ch hch => ?_
      exact k ch _ hch ⟨K1.trans K2, _, _, hb2⟩
theorem ok_spoilt {f : Addr} {fd : FuncData} (F : Fun K "_law_spoilt" "_law_spoilt" s_law_spoilt f fd) (T : Txt mg) (f_law_draw : Fn P w K mg base "_law_draw" P_law_draw [] 1 spDrawA) (f_law_sign : Fn P w K mg base "_law_sign" P_law_sign [] 2 spSign) : FnOk P w K mg base CX0 3 f fd P_law_spoilt spSpoilt := by
  refine F.ok sc_law_spoilt (fun vs H Q E h => ?_) (fun cdv A outer s H vs Q E hr h => ?_)
  · obtain ⟨b, c, s, n, z, rfl, _⟩ := h
    rfl
  · obtain ⟨b, c, sa, n, z, rfl, hb, lz, az, k⟩ := h
    have sz : z.length ≤ sizeLine := Nat.le_trans lz (by decide)
    refine ⟨_, (pss_cons (ps_set (i := 2) sc_law_spoilt.nd rfl (Or.inl rfl) (pe_fn f_law_draw (hr.mono (by omega)) rfl (pa_cons (pv 0) (pa_cons (pe_op op_add (pe_callB c_lenStr rfl T.b_len PySem.boot_len (pa_cons (pv 1) pa_nil)) pe_int) pa_nil))))
    (pss_cons (ps_set (i := 3) sc_law_spoilt.nd rfl (Or.inl rfl) (pe_fn f_law_draw (hr.mono (by omega)) rfl (pa_cons (pv 0) (pa_cons pe_int pa_nil))))
    (pss_cons (ps_if (pt_cmpR op_eq (pv 3) pe_int (nomark _)) (pss_one (ps_ret (pe_op o_catS (pe_op o_catS (pe_slice sl_str (pv 1) po_none (po_some (pv 2))) (pe_fn f_law_sign (hr.mono (by omega)) rfl (pa_cons (pv 0) pa_nil))) (pe_slice sl_str (pv 1) (po_some (pv 2)) po_none)))) pss_nil)
    (pss_cons (ps_if (pt_cmpR op_eq (pv 3) pe_int (nomark _)) (pss_one (ps_ret (pe_op o_catS (pe_slice sl_str (pv 1) po_none (po_some (pv 2))) (pe_slice sl_str (pv 1) (po_some (pe_op op_add (pv 2) pe_int)) po_none)))) pss_nil)
    (pss_one (ps_ret (pe_op o_catS (pe_op o_catS (pe_slice sl_str (pv 1) po_none (po_some (pv 2))) (pe_fn f_law_sign (hr.mono (by omega)) rfl (pa_cons (pv 0) pa_nil))) (pe_slice sl_str (pv 1) (po_some (pe_op op_add (pv 2) pe_int)) po_none)))))))), ?_⟩
    refine Bar.rStart (σ := [some (.ref b), some (.str z), none, none]) rfl ?_
    walk_at "rd"
    refine Bar.rLenStr_ sz ?_
    walk_at "rd"
    refine ⟨b, c, sa, n, _, rfl, hb, by omega, Int.le_trans (show (z.length : Int) + 1 ≤ 201 by omega) (by decide), fun r1 H1 l1 u1 ⟨K1, c1, n1, hb1⟩ => ?_⟩
    obtain ⟨j, rfl⟩ : ∃ j : Nat, r1 = j := ⟨r1.toNat, by omega⟩
    have e1 := cut_to (z := z) (n := (j : Int)) (by omega)
    have e2 := cut_from (z := z) (n := (j : Int)) (by omega)
    have e3 := cut_from (z := z) (n := (j : Int) + 1) (by omega)
    rw [Int.toNat_natCast] at e1 e2
    rw [show ((j : Int) + 1).toNat = j + 1 by omega] at e3
    have s1 : (cutS z none (some (j : Int))).length ≤ j := by rw [len_cps, e1, List.length_take]; omega
    have s2 : (cutS z (some (j : Int)) none).length = z.length - j := by rw [len_cps, e2, List.length_drop, ← len_cps]
    have s3 : (cutS z (some ((j : Int) + 1)) none).length = z.length - (j + 1) := by rw [len_cps, e3, List.length_drop, ← len_cps]
    have a1 : ∀ d ∈ (cutS z none (some (j : Int))).cps.toList, d < 128 := fun d hd => az d (by rw [e1] at hd; exact List.mem_of_mem_take hd)
    have a2 : ∀ d ∈ (cutS z (some (j : Int)) none).cps.toList, d < 128 := fun d hd => az d (by rw [e2] at hd; exact List.mem_of_mem_drop hd)
    have a3 : ∀ d ∈ (cutS z (some ((j : Int) + 1)) none).cps.toList, d < 128 := fun d hd => az d (by rw [e3] at hd; exact List.mem_of_mem_drop hd)
    have cl : ∀ x y : Str, (x ++ y).length = x.length + y.length := fun x y => by rw [len_cps, cat_cps, List.length_append]; rfl
    have cm : ∀ x y : Str, (∀ d ∈ x.cps.toList, d < 128) → (∀ d ∈ y.cps.toList, d < 128) → ∀ d ∈ (x ++ y).cps.toList, d < 128 := fun x y h1 h2 d hd => by
      rw [cat_cps] at hd
      rcases List.mem_append.mp hd with h | h
      · exact h1 d h
      · exact h2 d h
    have one : ∀ ch : Nat, ch < 128 → ∀ d ∈ (⟨#[ch]⟩ : Str).cps.toList, d < 128 := fun ch h d hd => by
      rw [List.mem_singleton.mp hd]
      exact h
    have o1 : ∀ ch : Nat, (⟨#[ch]⟩ : Str).length = 1 := fun _ => rfl
    walk_at "rd"
    refine ⟨b, c1, sa, n1, 3, rfl, hb1, by decide, by decide, fun r2 H2 l2 u2 ⟨K2, c2, n2, hb2⟩ => ?_⟩
    have K02 := K1.trans K2
    walk_at "rd"
    refine ite2 (fun h1 => ?_) (fun h1 => ?_)
    · walk_at "rd"
      refine rSlS_ sz ?_
      walk_at "rd"
      refine ⟨b, c2, sa, n2, rfl, hb2, fun ch H3 hch ⟨K3, c3, n3, hb3⟩ => ?_⟩
      refine rCatS_ (Nat.le_trans (show _ ≤ 300 by rw [o1]; omega) (by decide)) ?_
      walk_at "rd"
      refine rSlS_ sz ?_
      refine rCatS_ (Nat.le_trans (show _ ≤ 600 by rw [cl, o1]; omega) (by decide)) ?_
      exact k _ _ (by rw [cl, cl, o1]; omega) (cm _ _ (cm _ _ a1 (one ch hch)) a2) ⟨K02.trans K3, _, _, hb3⟩
    · walk_at "rd"
      refine ite2 (fun h2 => ?_) (fun h2 => ?_)
      · walk_at "rd"
        refine rSlS_ sz ?_
        walk_at "rd"
        refine rSlS_ sz ?_
        refine rCatS_ (Nat.le_trans (show _ ≤ 600 by omega) (by decide)) ?_
        exact k _ _ (by rw [cl]; omega) (cm _ _ a1 a3) ⟨K02, _, _, hb2⟩
      · walk_at "rd"
        refine rSlS_ sz ?_
        walk_at "rd"
        refine ⟨b, c2, sa, n2, rfl, hb2, fun ch H3 hch ⟨K3, c3, n3, hb3⟩ => ?_⟩
        refine rCatS_ (Nat.le_trans (show _ ≤ 300 by rw [o1]; omega) (by decide)) ?_
        walk_at "rd"
        refine rSlS_ sz ?_
        refine rCatS_ (Nat.le_trans (show _ ≤ 600 by rw [cl, o1]; omega) (by decide)) ?_
        exact k _ _ (by rw [cl, cl, o1]; omega) (cm _ _ (cm _ _ a1 (one ch hch)) a3) ⟨K02.trans K3, _, _, hb3⟩
theorem ok_any {f : Addr} {fd : FuncData} (F : Fun K "_law_any" "_law_any" s_law_any f fd) (T : Txt mg) (f_law_draw : Fn P w K mg base "_law_draw" P_law_draw [] 1 spDrawA) (f_law_sign : Fn P w K mg base "_law_sign" P_law_sign [] 2 spSign) : FnOk P w K mg base CX0 3 f fd P_law_any spAny := by
  refine F.ok sc_law_any (fun vs H Q E h => ?_) (fun cdv A outer s H vs Q E hr h => ?_)
  · obtain ⟨b, c, s, n, rfl, _⟩ := h
    rfl
  · obtain ⟨b, c, sa, n, rfl, hb, k⟩ := h
    refine ⟨_, (pss_cons (ps_set (i := 1) sc_law_any.nd rfl (Or.inl rfl) (pe_fn f_law_draw (hr.mono (by omega)) rfl (pa_cons (pv 0) (pa_cons pe_int pa_nil))))
    (pss_mid (ps_if (pt_cmpR op_eq (pe_fn f_law_draw (hr.mono (by omega)) rfl (pa_cons (pv 0) (pa_cons pe_int pa_nil))) pe_int (nomark _)) (pss_one (ps_set (i := 1) sc_law_any.nd rfl (Or.inl rfl) (pe_fn f_law_draw (hr.mono (by omega)) rfl (pa_cons (pv 0) (pa_cons pe_int pa_nil))))) pss_nil)
    (pss_cons (ps_set (i := 2) sc_law_any.nd rfl (Or.inl rfl) pe_str)
    (pss_cons (ps_for PassesOwn.never rfl  (pi_range1 rfl T.b_range (pa_cons (pv 1) pa_nil)) (pg_name (i := 3) sc_law_any.nd rfl (Or.inl rfl)) (pss_one (ps_set (i := 2) sc_law_any.nd rfl (Or.inl rfl) (pe_op o_catS (pv 2) (pe_fn f_law_sign (hr.mono (by omega)) rfl (pa_cons (pv 0) pa_nil))))))
    (pss_one (ps_ret (pv 2))))))), ?_⟩
    refine Bar.rStart (σ := [some (.ref b), none, none, none]) rfl ?_
    walk_at "rd"
    refine ⟨b, c, sa, n, 9, rfl, hb, by decide, by decide, fun r1 H1 l1 u1 ⟨K1, c1, n1, hb1⟩ => ?_⟩
    walk_at "rd"
    refine ⟨fun σ H' => Kp b H H' ∧ (∃ c' n', H' b = some (box c' sa n')) ∧ ∃ m : Nat, m ≤ 61 ∧ σ = [some (.ref b), some (.int (m : Int)), none, none], ?_, ?_⟩
    · walk_at "rd"
      refine ⟨b, c1, sa, n1, 8, rfl, hb1, by decide, by decide, fun r2 H2 l2 u2 ⟨K2, c2, n2, hb2⟩ => ?_⟩
      have K02 := K1.trans K2
      walk_at "rd"
      refine ite2 (fun h1 => ?_) (fun h1 => ?_)
      · walk_at "rd"
        refine ⟨b, c2, sa, n2, 62, rfl, hb2, by decide, by decide, fun r3 H3 l3 u3 ⟨K3, c3, n3, hb3⟩ => ?_⟩
        walk_at "rd"
        exact ⟨K02.trans K3, ⟨_, _, hb3⟩, r3.toNat, by omega, by rw [Int.toNat_of_nonneg l3]⟩
      · walk_at "rd"
        exact ⟨K02, ⟨_, _, hb2⟩, r1.toNat, by omega, by rw [Int.toNat_of_nonneg l1]⟩
    rintro σ H2 ⟨K2, ⟨c2, n2, hb2⟩, m, m61, rfl⟩
    walk_at "rd"
    refine Bar.forR m (Int.toNat_natCast m) (fun i σ H' => Kp b H H' ∧ (∃ c' n', H' b = some (box c' sa n')) ∧ ∃ (y : Str) (x : Option V), y.length = i ∧ (∀ d ∈ y.cps.toList, d < 128) ∧ σ = [some (.ref b), some (.int (m : Int)), some (.str y), x]) (by omega) ⟨K2, ⟨_, _, hb2⟩, ("" : Str), _, rfl, (fun d hd => by cases hd), rfl⟩ ?_ ?_
    · rintro i σ H3 hi ⟨K3, ⟨c3, n3, hb3⟩, y, x, ly, ay, rfl⟩
      walk_at "rd"
      refine ⟨b, c3, sa, n3, rfl, hb3, fun ch H4 hch ⟨K4, c4, n4, hb4⟩ => ?_⟩
      refine rCatS_ (Nat.le_trans (show y.length + 1 ≤ 62 by omega) (by decide)) ?_
      walk_at "rd"
      refine ⟨K3.trans K4, ⟨_, _, hb4⟩, _, _, ?_, fun d hd => ?_, rfl⟩
      · rw [len_cps, cat_cps, List.length_append, ← len_cps, ly]
        rfl
      · rw [cat_cps] at hd
        rcases List.mem_append.mp hd with h | h
        · exact ay d h
        · rw [List.mem_singleton.mp h]
          exact hch
    · rintro σ H3 ⟨K3, ⟨c3, n3, hb3⟩, y, x, ly, ay, rfl⟩
      walk_at "rd"
      exact k y _ (by omega) ay ⟨K3, _, _, hb3⟩
theorem ok_odd {f : Addr} {fd : FuncData} (F : Fun K "_law_odd" "_law_odd" s_law_odd f fd) (T : Txt mg) : FnOk P w K mg base CX0 1 f fd P_law_odd spOdd := by
  refine F.ok sc_law_odd (fun vs H Q E h => ?_) (fun cdv A outer s H vs Q E hr h => ?_)
  · obtain ⟨rfl, _⟩ := h
    rfl
  · obtain ⟨rfl, k⟩ := h
    refine ⟨_, (pss_cons (ps_set (i := 0) sc_law_odd.nd rfl (Or.inl rfl) (pe_lst (pa_cons pe_str (pa_cons pe_str (pa_cons pe_str (pa_cons pe_str (pa_cons pe_str (pa_cons pe_str (pa_cons pe_str (pa_cons pe_str (pa_cons pe_str (pa_cons pe_str (pa_cons pe_str (pa_cons pe_str (pa_cons pe_str (pa_cons pe_str (pa_cons pe_str (pa_cons pe_str (pa_cons pe_str pa_nil)))))))))))))))))))
    (pss_one (ps_ret (pe_op op_cat (pv 0) (pe_lst (pa_cons pe_str (pa_cons pe_str (pa_cons pe_str (pa_cons pe_str (pa_cons pe_str (pa_cons pe_str (pa_cons pe_str (pa_cons pe_str (pa_cons pe_str (pa_cons pe_str (pa_cons pe_str (pa_cons pe_str (pa_cons pe_str pa_nil)))))))))))))))))), ?_⟩
    refine Bar.rStart (σ := [none]) rfl ?_
    walk_at "rd"
    intro A1 h1
    walk_at "rd"
    intro A2 h2
    refine Bar.rCat_ (Bar.lkNew h2 upd_same) upd_same (by decide) fun A3 h3 => ?_
    exact k A3 _ _ (fun _ _ e => Bar.lkNew h3 (Bar.lkNew h2 (Bar.lkNew h1 e))) upd_same (by decide) (by decide +kernel)
end

end Lw
namespace Lw
open PySem L2 Bar

/-! ### _law_same -/
def flat : V → Prop
  | .non => True
  | .bl _ => True
  | .int _ => True
  | .str _ => True
  | _ => False
def SameAt (H : Hp) : Nat → V → V → Prop
  | 0, _, _ => False
  | n + 1, v, u => (v = u ∧ flat v) ∨ ∃ (a b : Addr) (xs ys : List V), v = .ref a ∧ u = .ref b ∧ ((H a = some (.lst xs) ∧ H b = some (.lst ys)) ∨ (H a = some (.tup xs) ∧ H b = some (.tup ys))) ∧
    xs.length ≤ 1000 ∧ xs.length = ys.length ∧ ∀ (i : Nat) (x y : V), xs[i]? = some x → ys[i]? = some y → SameAt H n x y
def spSame (n : Nat) : Sp := fun vs H Q _ => ∃ v u, vs = [v, u] ∧ SameAt H n v u ∧ Q (.bl true) H
def spInt : Sp := fun vs H Q _ => ∃ i : Int, vs = [.int i] ∧ Q (.bl true) H
instance {i : Int} {H : Hp} {Q : VK} {E : XK} : Bar.Rd (spInt ([.int i] ++ []) H Q E) (Q (.bl true) H) := ⟨fun h => ⟨i, rfl, h⟩⟩
theorem same_int {n : Nat} {i : Int} {H : Hp} {Q : VK} {E : XK} (h : Q (.bl true) H) : spSame (n + 1) [.int i, .int i] H Q E := ⟨_, _, rfl, .inl ⟨rfl, trivial⟩, h⟩
theorem same_intE {n : Nat} {i j : Int} {H : Hp} {Q : VK} {E : XK} (e : i = j) (h : Q (.bl true) H) : spSame (n + 1) [.int i, .int j] H Q E := by
  subst e
  exact same_int h
theorem same_bl {n : Nat} {i : Bool} {H : Hp} {Q : VK} {E : XK} (h : Q (.bl true) H) : spSame (n + 1) [.bl i, .bl i] H Q E := ⟨_, _, rfl, .inl ⟨rfl, trivial⟩, h⟩
section
variable {P : Program} {w : World} {K : PySem.W.Frag} {mg : Str → Option Value} {base : Heap}
theorem ok_int {f : Addr} {fd : FuncData} (F : Fun K "_law_int" "_law_int" s_law_int f fd) (T : Txt mg) : FnOk P w K mg base CX0 1 f fd P_law_int spInt := by
  refine F.ok sc_law_int (fun vs H Q E h => ?_) (fun cdv A outer s H vs Q E hr h => ?_)
  · obtain ⟨i, rfl, _⟩ := h
    rfl
  · obtain ⟨i, rfl, k⟩ := h
    refine ⟨_, (pss_one (ps_ret (pe_and (pe_callB call_isi rfl T.b_isinstance (by decide +kernel) (pa_cons (pv 0) (pa_cons (pe_bltn (v := .ty "int") (u := .type "int") rfl T.b_int (by decide +kernel) rfl) pa_nil))) (pe_one (pe_not (pe_callB call_isi rfl T.b_isinstance (by decide +kernel) (pa_cons (pv 0) (pa_cons (pe_bltn (v := .ty "bool") (u := .type "bool") rfl T.b_bool (by decide +kernel) rfl) pa_nil)))))))), ?_⟩
    refine Bar.rStart (σ := [some (.int i)]) rfl ?_
    walk_at "rd"
    exact k
theorem fn_same {f : Addr} {fd : FuncData} (F : Fun K "_law_same" "_law_same" s_law_same f fd) (T : Txt mg) (gf : mg "_law_same" = some (.ref f)) (bf : Binds K fd P_law_same [])
    (f_law_int : Fn P w K mg base "_law_int" P_law_int [] 1 spInt) : ∀ n, Fn P w K mg base "_law_same" P_law_same [] (n + 1) (spSame n) := by
  intro n
  induction n with
  | zero =>
    refine ⟨f, fd, [], gf, F.kp, bf, .nil, fn_false ?_⟩
    rintro vs H Q E ⟨v, u, _, h, _⟩
    exact h
  | succ n f_law_same =>
    refine ⟨f, fd, [], gf, F.kp, bf, .nil, F.ok sc_law_same (fun vs H Q E h => ?_) (fun cdv A outer s H vs Q E hr h => ?_)⟩
    · obtain ⟨v, u, rfl, _⟩ := h
      rfl
    · obtain ⟨v, u, rfl, h, k⟩ := h
      have hr1 : Room 1 (A.deeper (PyProof.Rows.envOfC "_law_same" (defScope s_law_same) s.heap.objs.size f cdv)) := hr.mono (by omega)
      have hr2 : Room (n + 1) (A.deeper (PyProof.Rows.envOfC "_law_same" (defScope s_law_same) s.heap.objs.size f cdv)) := hr
      refine ⟨_, (pss_cons (ps_if (pt_cmpR o_isN (pv 1) pe_non (nomark _)) (pss_one (ps_ret (pe_cmpR o_isN (pv 0) pe_non (nomark _)))) pss_nil)
    (pss_cons (ps_if (pt_val (pe_callB call_isi rfl T.b_isinstance (by decide +kernel) (pa_cons (pv 1) (pa_cons (pe_bltn (v := .ty "bool") (u := .type "bool") rfl T.b_bool (by decide +kernel) rfl) pa_nil)))) (pss_one (ps_ret (pe_and (pe_callB call_isi rfl T.b_isinstance (by decide +kernel) (pa_cons (pv 0) (pa_cons (pe_bltn (v := .ty "bool") (u := .type "bool") rfl T.b_bool (by decide +kernel) rfl) pa_nil))) (pe_one (pe_cmpR op_eq (pv 0) (pv 1) (nomark _)))))) pss_nil)
    (pss_cons (ps_if (pt_val (pe_callB call_isi rfl T.b_isinstance (by decide +kernel) (pa_cons (pv 1) (pa_cons (pe_bltn (v := .ty "int") (u := .type "int") rfl T.b_int (by decide +kernel) rfl) pa_nil)))) (pss_one (ps_ret (pe_and (pe_fn f_law_int (hr.mono (by omega)) rfl (pa_cons (pv 0) pa_nil)) (pe_one (pe_cmpR op_eq (pv 0) (pv 1) (nomark _)))))) pss_nil)
    (pss_cons (ps_if (pt_val (pe_callB call_isi rfl T.b_isinstance (by decide +kernel) (pa_cons (pv 1) (pa_cons (pe_bltn (v := .ty "str") (u := .type "str") rfl T.b_str (by decide +kernel) rfl) pa_nil)))) (pss_one (ps_ret (pe_and (pe_callB call_isi rfl T.b_isinstance (by decide +kernel) (pa_cons (pv 0) (pa_cons (pe_bltn (v := .ty "str") (u := .type "str") rfl T.b_str (by decide +kernel) rfl) pa_nil))) (pe_one (pe_cmpR op_eq (pv 0) (pv 1) (nomark _)))))) pss_nil)
    (pss_cons (ps_if (PW.pt (pw_or (pt_cmpR op_ne (pe_callB call_isi rfl T.b_isinstance (by decide +kernel) (pa_cons (pv 1) (pa_cons (pe_bltn (v := .ty "list") (u := .type "list") rfl T.b_list (by decide +kernel) rfl) pa_nil))) (pe_callB call_isi rfl T.b_isinstance (by decide +kernel) (pa_cons (pv 0) (pa_cons (pe_bltn (v := .ty "list") (u := .type "list") rfl T.b_list (by decide +kernel) rfl) pa_nil))) (nomark _)) (pw_or1 (pt_cmpR op_ne (pe_callB call_isi rfl T.b_isinstance (by decide +kernel) (pa_cons (pv 1) (pa_cons (pe_bltn (v := .ty "tuple") (u := .type "tuple") rfl T.b_tuple (by decide +kernel) rfl) pa_nil))) (pe_callB call_isi rfl T.b_isinstance (by decide +kernel) (pa_cons (pv 0) (pa_cons (pe_bltn (v := .ty "tuple") (u := .type "tuple") rfl T.b_tuple (by decide +kernel) rfl) pa_nil))) (nomark _))))) (pss_one (ps_ret pe_bl)) pss_nil)
    (pss_cons (ps_if (pt_cmpR op_ne (pe_callB c_len rfl T.b_len PySem.boot_len (pa_cons (pv 0) pa_nil)) (pe_callB c_len rfl T.b_len PySem.boot_len (pa_cons (pv 1) pa_nil)) (nomark _)) (pss_one (ps_ret pe_bl)) pss_nil)
    (pss_cons (ps_for PassesOwn.never rfl  (pi_range1 rfl T.b_range (pa_cons (pe_callB c_len rfl T.b_len PySem.boot_len (pa_cons (pv 1) pa_nil)) pa_nil)) (pg_name (i := 2) sc_law_same.nd rfl (Or.inl rfl)) (pss_one (ps_if (pt_not (pt_val (pe_fn f_law_same (hr.mono (by omega)) rfl (pa_cons (pe_ix ix_seq (pv 0) (pv 2) (fun _ _ => rfl)) (pa_cons (pe_ix ix_seq (pv 1) (pv 2) (fun _ _ => rfl)) pa_nil))))) (pss_one (ps_ret pe_bl)) pss_nil)))
    (pss_one (ps_ret pe_bl))))))))), ?_⟩
      refine Bar.rStart (σ := [some v, some u, none]) rfl ?_
      rcases h with ⟨rfl, hf⟩ | ⟨a, b, xs, ys, rfl, rfl, hab, hx, hxy, hall⟩
      · cases v with
        | non =>
          walk_at "rd"
          exact k
        | bl z =>
          walk_at "rd"
          rw [beq_self_eq_true]
          exact k
        | int z =>
          walk_at "rd"
          rw [decide_eq_true rfl]
          exact k
        | str z =>
          walk_at "rd"
          exact k
        | byt z => exact hf.elim
        | flt z => exact hf.elim
        | ref z => exact hf.elim
        | ty z => exact hf.elim
      · have hloop : ∀ x : Option V, x = none → True := fun _ _ => trivial
        rcases hab with ⟨ha, hb⟩ | ⟨ha, hb⟩
        · walk_at "rd"
          rw [hxy, decide_eq_true rfl]
          walk_at "rd"
          refine Bar.forR ys.length (by simp) (fun _ σ H' => H' = H ∧ ∃ x, σ = [some (.ref a), some (.ref b), x]) (by omega) ⟨rfl, _, rfl⟩ ?_ ?_
          · rintro i σ H' hi ⟨e, x, rfl⟩
            subst e
            obtain ⟨y, hy⟩ : ∃ y, ys[i]? = some y := ⟨_, List.getElem?_eq_getElem hi⟩
            obtain ⟨x', hx'⟩ : ∃ y, xs[i]? = some y := ⟨_, List.getElem?_eq_getElem (by omega)⟩
            walk_at "rd"
            refine Bar.rIxSL ha (atI_nat hx') ?_
            walk_at "rd"
            refine Bar.rIxSL hb (atI_nat hy) ?_
            walk_at "rd"
            refine ⟨x', y, rfl, hall i _ _ hx' hy, ?_⟩
            walk_at "rd"
            exact ⟨rfl, _, rfl⟩
          · rintro σ H' ⟨rfl, x, rfl⟩
            walk_at "rd"
            exact k
        · walk_at "rd"
          rw [hxy, decide_eq_true rfl]
          walk_at "rd"
          refine Bar.forR ys.length (by simp) (fun _ σ H' => H' = H ∧ ∃ x, σ = [some (.ref a), some (.ref b), x]) (by omega) ⟨rfl, _, rfl⟩ ?_ ?_
          · rintro i σ H' hi ⟨e, x, rfl⟩
            subst e
            obtain ⟨y, hy⟩ : ∃ y, ys[i]? = some y := ⟨_, List.getElem?_eq_getElem hi⟩
            obtain ⟨x', hx'⟩ : ∃ y, xs[i]? = some y := ⟨_, List.getElem?_eq_getElem (by omega)⟩
            walk_at "rd"
            refine Bar.rIxST ha (atI_nat hx') ?_
            walk_at "rd"
            refine Bar.rIxST hb (atI_nat hy) ?_
            walk_at "rd"
            refine ⟨x', y, rfl, hall i _ _ hx' hy, ?_⟩
            walk_at "rd"
            exact ⟨rfl, _, rfl⟩
          · rintro σ H' ⟨rfl, x, rfl⟩
            walk_at "rd"
            exact k
end


/-! ### _law_read -/

/-! ### _law_holds -/
structure GIsi (K : PySem.W.Frag) (mg : Str → Option Value) (C : Addr) : Prop where
  g : mg "Grid" = some (.ref C)
  cl : Cls K C
  ha : PySem.W.findIn K (.ref C) "__class__" = some (some (.builtin "object.__class__"))
  hn : PySem.W.specialIn K (.builtin "object.__class__") "__get__" = some (some (.builtin "getset_descriptor.__get__"))
  htk : PySem.W.takesIn K (.builtin "object.__class__") = some true
  hm : PySem.W.mroIn K C (.type "object") = some true
section
variable {P : Program} {w : World} {K : PySem.W.Frag} {mg : Str → Option Value} {base : Heap} {C : Addr}
theorem isiG {H : Hp} {g : Addr} {st o : Int} {Q : VK} (I : GIsi K mg C) (h : GridAt C H g st o) (q : Q (.bl true) H) : rIsi K [.ref g, .ref C] H Q := by
  obtain ⟨dx, hg⟩ := h
  refine ⟨.ref g, .ref C, _, _, true, rfl, .own C, .base (.ins hg I.cl I.ha I.hn I.htk I.hm), ?_, q⟩
  unfold PySem.W.kitOne
  rw [if_pos (beq_self_eq_true _)]
end

def spRead : Sp := fun vs H Q _ => ∃ z : Str, vs = [.str z] ∧ WOk z ∧ (∀ (st rest : Nat) (p p' : Addr) (H' : Hp), Cl z st rest → Same H H' → H' p = some (.lst [.ref p', .non]) → H' p' = some (.lst [.int (st : Int), .int (rest : Int)]) → Q (.ref p) H') ∧
  ((∀ st rest, ¬ Cl z st rest) → ∀ (p p' : Addr) (H' : Hp), Same H H' → H' p = some (.lst [.non, .ref p']) → H' p' = some (.lst [.str z, .bl true, .bl true, .bl false]) → Q (.ref p) H')
section
variable {P : Program} {w : World} {K : PySem.W.Frag} {mg : Str → Option Value} {base : Heap}
theorem ok_read {f C_Grid C_BadWord C_BarclipsError C_BadNumber : Addr} {fd : FuncData} (F : Fun K "_law_read" "_law_read" s_law_read f fd) (T : Txt mg) (G : GTxt K C_Grid) (I : GIsi K mg C_Grid) (g_Grid : mg "Grid" = some (.ref C_Grid)) (cm_Grid_read : CMthX P w K mg base C_Grid "read" P_Grid_read 4 (spReadX C_Grid C_BadWord))
    (ee_BadWord : ETxt K mg "BadWord" C_BadWord) (eb : EBase K mg "BarclipsError" C_BarclipsError) (ee_BadNumber : ETxt K mg "BadNumber" C_BadNumber) (no_BadWord_word : PySem.W.findIn K (.ref C_BadWord) "word" = some none) (be_ValueError : mg "ValueError" = none)
    (k1 : PySem.W.kitOne K (.ref C_BadWord) (.ref C_BarclipsError) = some true) (k2 : PySem.W.kitOne K (.ref C_BadWord) (.type "ValueError") = some true) (k3 : PySem.W.kitOne K (.ref C_BadWord) (.ref C_BadNumber) = some false) :
    FnOk P w K mg base CX0 5 f fd P_law_read spRead := by
  refine F.ok sc_law_read (fun vs H Q E h => ?_) (fun cdv A outer s H vs Q E hr h => ?_)
  · obtain ⟨z, rfl, _⟩ := h
    rfl
  · obtain ⟨z, rfl, oz, q1, q2⟩ := h
    refine ⟨_, (pss_cons (ps_set (i := 1) sc_law_read.nd rfl (Or.inl rfl) pe_non)
    (pss_cons (ps_set (i := 2) sc_law_read.nd rfl (Or.inl rfl) pe_non)
    (pss_cons (ps_try_as (i := 3) rfl rfl sc_law_read.nd rfl rfl ⟨rfl, by decide, .inl ee_BadWord.g⟩ takes0 (fun W pn xe tk _ => (pss_one (ps_set (i := 1) sc_law_read.nd rfl (Or.inl rfl) (pe_cmthX cm_Grid_read tk (hr.mono (by omega)) (pe_glob (v := .ref C_Grid) rfl g_Grid rfl) (pa_cons (pv 0) pa_nil)))))
    (fun a oe cls d pn hz hf => (pss_one (ps_set (i := 2) sc_law_read.nd rfl (Or.inl rfl) (pe_lst (pa_cons (pe_xf ee_BadWord.is.x no_BadWord_word hz hf (pv 3)) (pa_cons (pe_callB (call_isX ee_BadWord.is hz hf) rfl T.b_isinstance (by decide +kernel) (pa_cons (pv 3) (pa_cons (pe_glob (v := .ref C_BarclipsError) rfl eb.g rfl) pa_nil))) (pa_cons (pe_callB (call_isX ee_BadWord.is hz hf) rfl T.b_isinstance (by decide +kernel) (pa_cons (pv 3) (pa_cons (pe_bltn (v := .ty "ValueError") (u := .type "ValueError") rfl be_ValueError (by decide +kernel) rfl) pa_nil))) (pa_cons (pe_callB (call_isX ee_BadWord.is hz hf) rfl T.b_isinstance (by decide +kernel) (pa_cons (pv 3) (pa_cons (pe_glob (v := .ref C_BadNumber) rfl ee_BadNumber.g rfl) pa_nil))) pa_nil)))))))))
    (pss_cons (ps_if (pt_cmpR o_isN (pv 1) pe_non (nomark _)) (pss_one (ps_ret (pe_lst (pa_cons pe_non (pa_cons (pv 2) pa_nil))))) pss_nil)
    (pss_cons (ps_if (pt_not (pt_val (pe_callB call_isi rfl T.b_isinstance (by decide +kernel) (pa_cons (pv 1) (pa_cons (pe_glob (v := .ref C_Grid) rfl g_Grid rfl) pa_nil))))) (pss_one (ps_ret (pe_lst (pa_cons pe_bl (pa_cons (pv 2) pa_nil))))) pss_nil)
    (pss_one (ps_ret (pe_lst (pa_cons (pe_lst (pa_cons (pe_fld (pv 1) rfl) (pa_cons (pe_fld (pv 1) rfl) pa_nil))) (pa_cons (pv 2) pa_nil)))))))))), ?_⟩
    refine Bar.rStart (σ := [some (.str z), none, none, none]) rfl ?_
    walk_at "rd"
    refine ⟨rfl, ?_⟩
    walk_at "rd"
    refine ⟨z, rfl, oz, fun st rest g H1 c S1 G1 => ?_, fun no d H1 hd S1 hx => ?_⟩
    · walk_at "rd"
      refine isiG I G1 ?_
      walk_at "rd"
      refine rFS G G1 ?_
      walk_at "rd"
      refine rFO G G1 ?_
      walk_at "rd"
      intro p' hp'
      walk_at "rd"
      intro p hp
      exact q1 st rest p p' _ c (fun _ _ e => Bar.lkNew hp (Bar.lkNew hp' (S1 _ _ e))) upd_same (Bar.lkNew hp upd_same)
    · walk_at "rd"
      refine rTake ee_BadWord.te fun q hq => ?_
      simp only [List.set_cons_succ, List.set_cons_zero]
      walk_at "rd"
      refine rXf hx lk_hd ?_
      walk_at "rd"
      refine rIsXC hx k1 ?_
      walk_at "rd"
      refine rIsXT hx k2 ?_
      walk_at "rd"
      refine rIsXC hx k3 ?_
      walk_at "rd"
      intro t ht
      walk_at "rd"
      simp only [List.set_cons_succ, List.set_cons_zero]
      walk_at "rd"
      intro p hp
      exact q2 no p t _ (fun _ _ e => Bar.lkNew hp (Bar.lkNew ht (S1 _ _ e))) upd_same (Bar.lkNew hp upd_same)
end

end Lw
namespace Lw
open PySem L2 Bar
/-! ### law -/
def spLaw (K : PySem.W.Frag) : Sp := fun vs H Q _ => ∃ (a : Addr) (ns : List Int), vs = [.ref a] ∧ SqL K H a (ns.map V.int) ∧ ns.length ≤ 63 ∧ ∀ H', Q (.bl true) H'
theorem same_str {n : Nat} {y z : Str} {H : Hp} {Q : VK} {E : XK} (e : y = z) (h : Q (.bl true) H) : spSame (n + 1) [.str y, .str z] H Q E := by
  subst e
  exact ⟨_, _, rfl, .inl ⟨rfl, trivial⟩, h⟩
theorem same_bad {H : Hp} {p p' a a' : Addr} {z : Str} (h1 : H p = some (.lst [.non, .ref p'])) (h2 : H p' = some (.lst [.str z, .bl true, .bl true, .bl false])) (h3 : H a = some (.lst [.non, .ref a'])) (h4 : H a' = some (.lst [.str z, .bl true, .bl true, .bl false])) : SameAt H 3 (.ref p) (.ref a) := by
  refine .inr ⟨p, a, _, _, rfl, rfl, .inl ⟨h1, h3⟩, by show 2 ≤ 1000; decide, rfl, fun i x y hx hy => ?_⟩
  match i, hx, hy with
  | 0, hx, hy => cases hx; cases hy; exact .inl ⟨rfl, trivial⟩
  | 1, hx, hy =>
    cases hx
    cases hy
    refine .inr ⟨p', a', _, _, rfl, rfl, .inl ⟨h2, h4⟩, by show 4 ≤ 1000; decide, rfl, fun i x y hx hy => ?_⟩
    cases hx.symm.trans hy
    have hm := List.mem_of_getElem? hx
    simp only [List.mem_cons, List.not_mem_nil, or_false] at hm
    rcases hm with e | e | e | e <;> subst e <;> exact .inl ⟨rfl, trivial⟩
theorem same_good {H : Hp} {p p' a a' : Addr} {st rest : Int} (h1 : H p = some (.lst [.ref p', .non])) (h2 : H p' = some (.lst [.int st, .int rest])) (h3 : H a = some (.lst [.ref a', .non])) (h4 : H a' = some (.lst [.int st, .int rest])) : SameAt H 3 (.ref p) (.ref a) := by
  refine .inr ⟨p, a, _, _, rfl, rfl, .inl ⟨h1, h3⟩, by show 2 ≤ 1000; decide, rfl, fun i x y hx hy => ?_⟩
  match i, hx, hy with
  | 1, hx, hy => cases hx; cases hy; exact .inl ⟨rfl, trivial⟩
  | 0, hx, hy =>
    cases hx
    cases hy
    refine .inr ⟨p', a', _, _, rfl, rfl, .inl ⟨h2, h4⟩, by show 2 ≤ 1000; decide, rfl, fun i x y hx hy => ?_⟩
    cases hx.symm.trans hy
    have hm := List.mem_of_getElem? hx
    simp only [List.mem_cons, List.not_mem_nil, or_false] at hm
    rcases hm with e | e <;> subst e <;> exact .inl ⟨rfl, trivial⟩
structure AOk (n : Nat) (z : Str) : Prop where
  len : z.length ≤ n
  small : ∀ c ∈ z.cps.toList, c < 128
theorem AOk.cat {m n : Nat} {x y : Str} (h1 : AOk m x) (h2 : AOk n y) : AOk (m + n) (x ++ y) := by
  refine ⟨?_, fun c hc => ?_⟩
  · rw [len_cps, cat_cps, List.length_append]
    exact Nat.add_le_add h1.len h2.len
  · rw [cat_cps] at hc
    rcases List.mem_append.mp hc with h | h
    · exact h1.small c h
    · exact h2.small c h
theorem AOk.v {n : Nat} {z : Str} (h : AOk n z) (hn : n ≤ 4450) : wordV (.str z) = true := wordV_of (Nat.le_trans h.len hn) h.small
theorem AOk.sz {m n : Nat} {x y : Str} (h1 : AOk m x) (h2 : AOk n y) (h : m + n ≤ 5000) : x.length + y.length ≤ sizeLine := Nat.le_trans (Nat.le_trans (Nat.add_le_add h1.len h2.len) h) (by decide)
theorem intS_ok {i : Int} (h0 : 0 ≤ i) (h1 : i < 10 ^ 32) : i.natAbs.log2 < 1920 ∧ AOk 32 ((toString i : String) : Str) := by
  obtain ⟨n, rfl⟩ : ∃ n : Nat, i = n := ⟨i.toNat, by omega⟩
  have hn : n < 10 ^ 32 := by omega
  exact ⟨log_ok hn, numS_len hn, fun c hc => num_small n c (by rw [← numS_cps]; exact hc)⟩
theorem all_app {xs ys : List V} (h1 : xs.all wordV = true) (h2 : ys.all wordV = true) : (xs ++ ys).all wordV = true := by
  rw [List.all_append, h1, h2]
  rfl
theorem all4 {a b c d : V} (h1 : wordV a = true) (h2 : wordV b = true) (h3 : wordV c = true) (h4 : wordV d = true) : [a, b, c, d].all wordV = true := by
  simp only [List.all_cons, List.all_nil, h1, h2, h3, h4, Bool.and_true]
theorem all3 {a b c : V} (h1 : wordV a = true) (h2 : wordV b = true) (h3 : wordV c = true) : [a, b, c].all wordV = true := by
  simp only [List.all_cons, List.all_nil, h1, h2, h3, Bool.and_true]
theorem all2 {a b : V} (h1 : wordV a = true) (h2 : wordV b = true) : [a, b].all wordV = true := by
  simp only [List.all_cons, List.all_nil, h1, h2, Bool.and_true]
theorem catW2 {H : Hp} {d W P : Addr} {c s n : Int} {xs ys : List V} {i j : Nat} {Q : VK} (hd : H d = some (box c s n)) (hW : H W = some (.lst xs)) (lx : xs.length ≤ i) (wx : xs.all wordV = true) (hP : H P = some (.lst ys)) (ly : ys.length ≤ j) (wy : ys.all wordV = true) (hij : i + j ≤ 1000)
    (k : ∀ (W' : Addr) (zs : List V) (H' : Hp), zs.length ≤ i + j → zs.all wordV = true → H' W' = some (.lst zs) → H' d = some (box c s n) → Q (.ref W') H') : rCat (.ref W) (.ref P) H Q := by
  refine Bar.rCat_ hW hP (szLe (by omega)) fun W' hW' => k W' _ _ ?_ (all_app wx wy) upd_same (Bar.lkNew hW' hd)
  rw [List.length_append]
  omega
theorem catW {H : Hp} {d W P : Addr} {c s n : Int} {xs ys : List V} {i j : Nat} {Q : VK} (hd : H d = some (box c s n)) (hW : H W = some (.lst xs)) (lx : xs.length ≤ i) (wx : xs.all wordV = true) (hP : H P = none) (ly : ys.length ≤ j) (wy : ys.all wordV = true) (hij : i + j ≤ 1000)
    (k : ∀ (W' : Addr) (zs : List V) (H' : Hp), zs.length ≤ i + j → zs.all wordV = true → H' W' = some (.lst zs) → H' d = some (box c s n) → Q (.ref W') H') : rCat (.ref W) (.ref P) (upd H P (.lst ys)) Q :=
  catW2 (Bar.lkNew hP hd) (Bar.lkNew hP hW) lx wx upd_same ly wy hij k
section
variable {P : Program} {w : World} {K : PySem.W.Frag} {mg : Str → Option Value} {base : Heap}
theorem ok_law {f C_Grid : Addr} {fd : FuncData} (F : Fun K "law" "law" s_law f fd) (T : Txt mg) (G : GTxt K C_Grid) (f_law_box : Fn P w K mg base "_law_box" P_law_box [] 1 (spBox K)) (f_law_draw : Fn P w K mg base "_law_draw" P_law_draw [] 1 spDrawA) (f_law_row : Fn P w K mg base "_law_row" P_law_row [] 2 spRow)
    (f_law_word : Fn P w K mg base "_law_word" P_law_word [] 1 spWord) (mk_Grid2 : Made P w K mg base "Grid" C_Grid P_Grid___init__ [] 1 (spInit C_Grid)) (sf_Grid : StrF P w K mg base C_Grid P_Grid___str__ 1 (spStrG C_Grid)) (f_law_same : Fn P w K mg base "_law_same" P_law_same [] 4 (spSame 3))
    (f_law_spoilt : Fn P w K mg base "_law_spoilt" P_law_spoilt [] 3 spSpoilt) (f_law_any : Fn P w K mg base "_law_any" P_law_any [] 3 spAny) (f_law_odd : Fn P w K mg base "_law_odd" P_law_odd [] 1 spOdd) (f_law_class_of : Fn P w K mg base "_law_class_of" P_law_class_of [] 2 spClass) (f_law_read : Fn P w K mg base "_law_read" P_law_read [] 5 spRead) :
    FnOk P w K mg base CX0 6 f fd P_law (spLaw K) := by
  refine F.ok sc_law (fun vs H Q E h => ?_) (fun cdv A outer s H vs Q E hr h => ?_)
  · obtain ⟨a, ns, rfl, _⟩ := h
    rfl
  · obtain ⟨a, ns, rfl, ha, hl, k⟩ := h
    refine ⟨_, (pss_cons (ps_set (i := 1) sc_law.nd rfl (Or.inl rfl) (pe_fn f_law_box (hr.mono (by omega)) rfl (pa_cons (pv 0) (pa_cons pe_int pa_nil))))
    (pss_cons (ps_set (i := 2) sc_law.nd rfl (Or.inl rfl) (pe_fn f_law_row (hr.mono (by omega)) rfl (pa_cons (pv 1) pa_nil)))
    (pss_cons (ps_set (i := 3) sc_law.nd rfl (Or.inl rfl) (pe_fn f_law_word (hr.mono (by omega)) rfl (pa_cons (pe_ix ix_tup (pv 2) pe_int (fun _ _ => rfl)) (pa_cons (pe_ix ix_tup (pv 2) pe_int (fun _ _ => rfl)) pa_nil))))
    (pss_cons (ps_for PassesOwn.never rfl  (pi_tup (pe_tup (pa_cons pe_int (pa_cons (pe_op op_sub (pe_fn f_law_draw (hr.mono (by omega)) rfl (pa_cons (pv 1) (pa_cons pe_int pa_nil))) pe_int) pa_nil)))) (pg_name (i := 4) sc_law.nd rfl (Or.inl rfl)) (pss_one (ps_if (pt_not (pt_val (pe_fn f_law_same (hr.mono (by omega)) rfl (pa_cons (pe_callTy (c_strO sf_Grid (hr.mono (by omega))) rfl T.b_str (by decide +kernel) (pa_cons (pe_mk mk_Grid2 (hr.mono (by omega)) rfl (pa_cons (pe_ix ix_tup (pv 2) pe_int (fun _ _ => rfl)) (pa_cons (pe_op op_add (pe_ix ix_tup (pv 2) pe_int (fun _ _ => rfl)) (pe_op op_mulW (pe_ix ix_tup (pv 2) pe_int (fun _ _ => rfl)) (pv 4))) pa_nil))) pa_nil)) (pa_cons (pv 3) pa_nil))))) (pss_one (ps_ret pe_bl)) pss_nil)))
    (pss_cons (ps_set (i := 1) sc_law.nd rfl (Or.inl rfl) (pe_fn f_law_box (hr.mono (by omega)) rfl (pa_cons (pv 0) (pa_cons pe_int pa_nil))))
    (pss_cons (ps_set (i := 5) sc_law.nd rfl (Or.inl rfl) (pe_fn f_law_spoilt (hr.mono (by omega)) rfl (pa_cons (pv 1) (pa_cons (pv 3) pa_nil))))
    (pss_cons (ps_set (i := 6) sc_law.nd rfl (Or.inl rfl) (pe_lst (pa_cons (pv 3) (pa_cons (pe_op o_catS pe_str (pv 3)) (pa_cons (pe_op o_catS (pv 3) pe_str) (pa_cons (pe_op o_catS (pe_op o_catS (pe_fn f_law_word (hr.mono (by omega)) rfl (pa_cons (pe_ix ix_tup (pv 2) pe_int (fun _ _ => rfl)) (pa_cons pe_int pa_nil))) pe_str) (pe_callTy c_str rfl T.b_str (by decide +kernel) (pa_cons (pe_ix ix_tup (pv 2) pe_int (fun _ _ => rfl)) pa_nil))) pa_nil))))))
    (pss_cons (ps_set (i := 7) sc_law.nd rfl (Or.inl rfl) (pe_op op_sub (pe_op op_powW pe_int pe_int) pe_int))
    (pss_cons (ps_set (i := 6) sc_law.nd rfl (Or.inl rfl) (pe_op op_cat (pv 6) (pe_lst (pa_cons (pe_callTy c_str rfl T.b_str (by decide +kernel) (pa_cons (pv 7) pa_nil)) (pa_cons (pe_op o_catS (pe_op o_catS (pe_callTy c_str rfl T.b_str (by decide +kernel) (pa_cons (pv 7) pa_nil)) pe_str) (pe_callTy c_str rfl T.b_str (by decide +kernel) (pa_cons (pe_op op_sub (pv 7) pe_int) pa_nil))) (pa_cons (pe_callTy c_str rfl T.b_str (by decide +kernel) (pa_cons (pe_op op_add (pv 7) pe_int) pa_nil)) (pa_cons (pe_op o_catS (pe_callTy c_str rfl T.b_str (by decide +kernel) (pa_cons (pe_op op_add (pv 7) pe_int) pa_nil)) pe_str) pa_nil)))))))
    (pss_cons (ps_set (i := 6) sc_law.nd rfl (Or.inl rfl) (pe_op op_cat (pv 6) (pe_lst (pa_cons (pe_op op_repS pe_str pe_int) (pa_cons (pe_op o_catS pe_str (pe_op op_repS pe_str pe_int)) pa_nil)))))
    (pss_cons (ps_set (i := 6) sc_law.nd rfl (Or.inl rfl) (pe_op op_cat (pe_op op_cat (pe_op op_cat (pv 6) (pe_lst (pa_cons (pv 5) (pa_cons (pe_fn f_law_spoilt (hr.mono (by omega)) rfl (pa_cons (pv 1) (pa_cons (pv 5) pa_nil))) (pa_cons (pe_fn f_law_any (hr.mono (by omega)) rfl (pa_cons (pv 1) pa_nil)) pa_nil))))) (pe_fn0 f_law_odd (hr.mono (by omega)) rfl)) (pe_lst (pa_cons (pv 3) pa_nil))))
    (pss_cons (ps_for PassesOwn.never rfl  (pi_list (pv 6)) (pg_name (i := 8) sc_law.nd rfl (Or.inl rfl)) (pss_cons (ps_set (i := 9) sc_law.nd rfl (Or.inl rfl) (pe_fn f_law_class_of (hr.mono (by omega)) rfl (pa_cons (pv 8) pa_nil)))
    (pss_one (ps_if (pt_cmpR o_isN (pv 9) pe_non (nomark _)) (pss_one (ps_if (pt_not (pt_val (pe_fn f_law_same (hr.mono (by omega)) rfl (pa_cons (pe_fn f_law_read (hr.mono (by omega)) rfl (pa_cons (pv 8) pa_nil)) (pa_cons (pe_lst (pa_cons pe_non (pa_cons (pe_lst (pa_cons (pv 8) (pa_cons pe_bl (pa_cons pe_bl (pa_cons pe_bl pa_nil))))) pa_nil))) pa_nil))))) (pss_one (ps_ret pe_bl)) pss_nil)) (pss_one (ps_if (pt_not (pt_val (pe_fn f_law_same (hr.mono (by omega)) rfl (pa_cons (pe_fn f_law_read (hr.mono (by omega)) rfl (pa_cons (pv 8) pa_nil)) (pa_cons (pe_lst (pa_cons (pv 9) (pa_cons pe_non pa_nil))) pa_nil))))) (pss_one (ps_ret pe_bl)) pss_nil))))))
    (pss_one (ps_ret pe_bl)))))))))))))), ?_⟩
    refine Bar.rStart (σ := [some (.ref a), none, none, none, none, none, none, none, none, none]) rfl ?_
    walk_at "rd"
    refine ⟨a, ns, 0, rfl, ha, fun b H1 c sa S1 hb hb1 => ?_⟩
    walk_at "rd"
    refine ⟨b, c, sa, 0, rfl, hb1, fun R st rest H2 ⟨K2, c2, n2, hb2⟩ hR s1 s2 s3 => ?_⟩
    have K02 : Kp b H H2 := (Kp.of_same S1).trans K2
    clear K2 S1 hb1
    have b1 : st < 10 ^ 32 := by omega
    have b2 : rest < 10 ^ 32 := by omega
    walk_at "rd"
    refine ⟨st, rest, rfl, b1, b2, fun z ez => ?_⟩
    have oz := w_ok ez b1 b2
    have lz : z.length ≤ 65 := by rw [len_cps, ez]; exact wl_len b1 b2
    walk_at "rd"
    refine ⟨b, c2, sa, n2, 7, rfl, hb2, by decide, by decide, fun r1 H3 l1 u1 ⟨K3, c3, n3, hb3⟩ => ?_⟩
    have nRb : R ≠ b := ne_of hR hb2 (by intro e; cases e)
    have K03 := K02.trans K3
    have hR3 := K3 _ _ nRb hR
    clear K02 K3 hb2 hR
    walk_at "rd"
    intro L hL
    walk_at "rd"
    have S4 : Same H3 (upd H3 L (.tup [.int 0, .int (r1 - 3)])) := fun _ _ e => Bar.lkNew hL e
    have hR4 := S4 _ _ hR3
    have hb4 := S4 _ _ hb3
    have hL4 : upd H3 L (.tup [.int 0, .int (r1 - 3)]) L = some (.tup [.int 0, .int (r1 - 3)]) := upd_same
    have K04 : Kp b H (upd H3 L (.tup [.int 0, .int (r1 - 3)])) := K03.trans (Kp.of_same S4)
    generalize upd H3 L (.tup [.int 0, .int (r1 - 3)]) = H4 at S4 hR4 hb4 hL4 K04
    clear S4 hR3 hb3 K03 hL
    refine Bar.forT (xs := [.int 0, .int (r1 - 3)]) (fun i σ H' => Same H4 H' ∧ ∃ x : Option V, σ = [some (.ref a), some (.ref b), some (.ref R), some (.str z), x, none, none, none, none, none]) (SqT.of hL4) ⟨fun _ _ e => e, _, rfl⟩ (fun i σ H2 _ ⟨S, _⟩ => SqT.of (S _ _ hL4)) ?_ ?_
    · rintro i v σ H' hv ⟨S, x, rfl⟩
      obtain ⟨late, rfl, t1, t2⟩ : ∃ late : Int, v = .int late ∧ -10 ≤ late ∧ late ≤ 10 := by
        match i, hv with
        | 0, hv => cases hv; exact ⟨_, rfl, by decide, by decide⟩
        | 1, hv => cases hv; exact ⟨_, rfl, by omega, by omega⟩
      have cm : CMulW (st : Int) late := wide_mul (Nat.lt_trans (show (st : Int).natAbs < 10 ^ 32 by omega) (show 10 ^ 32 < 2 ^ 200 by decide)) (Nat.lt_of_le_of_lt (show late.natAbs ≤ 10 by omega) (show 10 < 2 ^ 200 by decide)) (by decide) (by decide) (by decide)
      have hR' := S _ _ hR4
      walk_at "rd"
      refine mkG (show (1 : Int) ≤ (st : Int) by omega) fun g H5 hg S5 G5 => ?_
      have em : ((rest : Int) + (st : Int) * late) % (st : Int) = (rest : Int) := by
        rw [Int.add_mul_emod_self_left]
        exact Int.emod_eq_of_lt (by omega) (by omega)
      rw [em] at G5
      have S05 : Same H4 H5 := fun _ _ e => S5 _ _ (S _ _ e)
      walk_at "rd"
      obtain ⟨dx, hdx⟩ := id G5
      refine ⟨dx, _, hdx, g, st, rest, rfl, G5, b1, b2, fun y ey => ⟨y, rfl, ?_⟩⟩
      walk_at "rd"
      refine same_str (str_ext (by rw [ey, ez])) ?_
      walk_at "rd"
      exact ⟨S05, _, rfl⟩
    rintro σ H5 ⟨S5, x, rfl⟩
    have hR5 := S5 _ _ hR4
    have K05 : Kp b H H5 := K04.trans (Kp.of_same S5)
    have ha5 : SqL K H5 a (ns.map V.int) := sqKf K05 hb ha
    clear S5 hR4 hb4 hL4 K04
    walk_at "rd"
    refine ⟨a, ns, 1, rfl, ha5, fun d H6 c6 sd S6 hd hd6 => ?_⟩
    have hR6 := S6 _ _ hR5
    clear ha5 hR5 S6 K05
    walk_at "rd"
    refine ⟨d, c6, sd, 0, z, rfl, hd6, by omega, oz.small, fun on H7 lon aon ⟨K7, c7, n7, hd7⟩ => ?_⟩
    have nRd : R ≠ d := ne_of hR6 hd6 (by intro e; cases e)
    have hR7 := K7 _ _ nRd hR6
    clear hR6 hd6 K7
    have A0 : AOk 65 z := ⟨lz, oz.small⟩
    have A1 : AOk 66 on := ⟨by omega, aon⟩
    have Ac : ∀ c' : Str, c'.length ≤ 3 → (∀ d ∈ c'.cps.toList, d < 128) → AOk 3 c' := fun _ h1 h2 => ⟨h1, h2⟩
    have B0 : AOk 3 ("0" : Str) := Ac _ (by decide +kernel) (by decide +kernel)
    have B1 : AOk 3 ("+0" : Str) := Ac _ (by decide +kernel) (by decide +kernel)
    have B2 : AOk 3 ("+" : Str) := Ac _ (by decide +kernel) (by decide +kernel)
    have B3 : AOk 3 ("+5" : Str) := Ac _ (by decide +kernel) (by decide +kernel)
    have B4 : AOk 3 ("8+" : Str) := Ac _ (by decide +kernel) (by decide +kernel)
    walk_at "rd"
    refine rCatS_ (B0.sz A0 (by decide)) ?_
    walk_at "rd"
    refine rCatS_ (A0.sz B1 (by decide)) ?_
    walk_at "rd"
    refine ⟨st, 0, rfl, b1, by decide, fun y ey => ?_⟩
    have Ay : AOk 65 y := ⟨by rw [len_cps, ey]; exact wl_len b1 (by decide), fun c hc => wl_small st 0 c (by rw [← ey]; exact hc)⟩
    have Ar := intS_ok (i := (rest : Int)) (by omega) (by omega)
    walk_at "rd"
    refine rCatS_ (Ay.sz B1 (by decide)) ?_
    walk_at "rd"
    refine Bar.rStr_ Ar.1 ?_
    refine rCatS_ ((Ay.cat B1).sz Ar.2 (by decide)) ?_
    walk_at "rd"
    intro W1 hW1
    have v0 := A0.v (by decide)
    have w1 := all4 v0 ((B0.cat A0).v (by decide)) ((A0.cat B1).v (by decide)) (((Ay.cat B1).cat Ar.2).v (by decide))
    have hW8 := upd_same (H := H7) (a := W1) (o := .lst [.str z, .str (("0" : Str) ++ z), .str (z ++ ("+0" : Str)), .str (y ++ ("+0" : Str) ++ ((toString (rest : Int) : String) : Str))])
    have hd8 := Bar.lkNew (o := .lst [.str z, .str (("0" : Str) ++ z), .str (z ++ ("+0" : Str)), .str (y ++ ("+0" : Str) ++ ((toString (rest : Int) : String) : Str))]) hW1 hd7
    generalize upd H7 W1 (.lst [.str z, .str (("0" : Str) ++ z), .str (z ++ ("+0" : Str)), .str (y ++ ("+0" : Str) ++ ((toString (rest : Int) : String) : Str))]) = H8 at hW8 hd8
    have len1 : [V.str z, .str (("0" : Str) ++ z), .str (z ++ ("+0" : Str)), .str (y ++ ("+0" : Str) ++ ((toString (rest : Int) : String) : Str))].length = 4 := rfl
    generalize [V.str z, .str (("0" : Str) ++ z), .str (z ++ ("+0" : Str)), .str (y ++ ("+0" : Str) ++ ((toString (rest : Int) : String) : Str))] = xs1 at w1 hW8 len1
    clear hR7 hd7 hW1
    walk_at "rd"
    have T0 := intS_ok (i := 10 ^ Int.toNat 30 - 1) (by decide) (by decide)
    have T1 := intS_ok (i := 10 ^ Int.toNat 30 - 1 - 1) (by decide) (by decide)
    have T2 := intS_ok (i := 10 ^ Int.toNat 30 - 1 + 1) (by decide) (by decide)
    generalize (10 ^ Int.toNat 30 - 1 : Int) = top at T0 T1 T2 ⊢
    refine Bar.rStr_ T0.1 ?_
    walk_at "rd"
    refine Bar.rStr_ T0.1 ?_
    walk_at "rd"
    refine rCatS_ (T0.2.sz B2 (by decide)) ?_
    walk_at "rd"
    refine Bar.rStr_ T1.1 ?_
    refine rCatS_ ((T0.2.cat B2).sz T1.2 (by decide)) ?_
    walk_at "rd"
    refine Bar.rStr_ T2.1 ?_
    walk_at "rd"
    refine Bar.rStr_ T2.1 ?_
    walk_at "rd"
    refine rCatS_ (T2.2.sz B3 (by decide)) ?_
    walk_at "rd"
    intro P1 hP1
    have w2 := all4 (T0.2.v (by decide)) (((T0.2.cat B2).cat T1.2).v (by decide)) (T2.2.v (by decide)) ((T2.2.cat B3).v (by decide))
    refine catW (i := 4) (j := 4) hd8 hW8 (Nat.le_of_eq len1) w1 hP1 (Nat.le_refl 4) w2 (by decide) fun W2 xs2 H9 len2 w12 hW9 hd9 => ?_
    clear hP1 hW8 hd8 w1 w2 len1 xs1
    walk_at "rd"
    refine ⟨57, 4400, rfl, rfl, by decide, by decide, fun n1 en1 => ?_⟩
    walk_at "rd"
    refine ⟨57, 4400, rfl, rfl, by decide, by decide, fun n2 en2 => ?_⟩
    have An : ∀ {y : Str}, y.cps.toList = List.replicate 4400 57 → AOk 4400 y := fun {y} e => ⟨by rw [len_cps, e, List.length_replicate]; exact Nat.le_refl _, fun c hc => by rw [e] at hc; rw [List.eq_of_mem_replicate hc]; decide⟩
    refine rCatS_ (B4.sz (An en2) (by decide)) ?_
    walk_at "rd"
    intro P2 hP2
    refine catW (i := 4 + 4) (j := 2) hd9 hW9 len2 w12 hP2 (Nat.le_refl 2) (all2 ((An en1).v (by decide)) ((B4.cat (An en2)).v (by decide))) (by decide) fun W3 xs3 H10 len3 w3 hW10 hd10 => ?_
    clear hP2 hW9 hd9 w12 len2 xs2 en1 en2 n1 n2
    walk_at "rd"
    refine ⟨d, c7, sd, n7, on, rfl, hd10, by omega, aon, fun y H11 ly ay ⟨K11, c11, n11, hd11⟩ => ?_⟩
    have nWd : W3 ≠ d := fun e => by
      rw [e, hd10] at hW10
      have e := HO.lst.inj (Option.some.inj hW10)
      rw [← e] at w3
      cases w3
    have hW11 := K11 _ _ nWd hW10
    clear K11 hd10 hW10
    walk_at "rd"
    refine ⟨d, c11, sd, n11, rfl, hd11, fun v H12 lv av ⟨K12, c12, n12, hd12⟩ => ?_⟩
    have hW12 := K12 _ _ nWd hW11
    clear K12 hd11 hW11
    walk_at "rd"
    intro P3 hP3
    refine catW (i := 4 + 4 + 2) (j := 3) hd12 hW12 len3 w3 hP3 (Nat.le_refl 3) (all3 (A1.v (by decide)) (wordV_of (by omega) ay) (wordV_of (by omega) av)) (by decide) fun W4 xs4 H13 len4 w4 hW13 hd13 => ?_
    clear hP3 hW12 hd12 w3 len3 xs3
    walk_at "rd"
    refine ⟨rfl, fun O ys H14 S14 hO lO wO => ?_⟩
    refine catW2 (i := 4 + 4 + 2 + 3) (j := 40) (S14 _ _ hd13) (S14 _ _ hW13) len4 w4 hO lO wO (by decide) fun W5 xs5 H15 len5 w5 hW15 hd15 => ?_
    clear S14 hO lO wO hW13 hd13 w4 len4 xs4 ys
    walk_at "rd"
    intro P4 hP4
    refine catW (i := 4 + 4 + 2 + 3 + 40) (j := 1) hd15 hW15 len5 w5 hP4 (Nat.le_refl 1) (by rw [List.all_cons, v0]; rfl) (by decide) fun W6 xs6 H16 len6 w6 hW16 _ => ?_
    clear hP4 hW15 hd15 w5 len5 xs5
    walk_at "rd"
    refine Bar.forL (xs := xs6) (fun i σ H' => Same H16 H' ∧ ∃ u v : Option V, σ = [some (.ref a), some (.ref d), some (.ref R), some (.str z), x, some (.str on), some (.ref W6), some (.int top), u, v]) (SqL.of hW16) ⟨fun _ _ e => e, _, _, rfl⟩ (fun i σ H2 _ ⟨S, _⟩ => SqL.of (S _ _ hW16)) ?_ ?_
    · rintro i v σ H17 hv ⟨S17, u, u', rfl⟩
      obtain ⟨y, rfl, oy⟩ := wordV_ok (List.all_eq_true.mp w6 v (List.mem_of_getElem? hv))
      walk_at "rd"
      refine ⟨y, rfl, Nat.le_trans oy.len (by decide), fun st' rest' p cy hp => ?_, fun no => ?_⟩
      · have hp1 := upd_same (H := H17) (a := p) (o := .lst [.int (st' : Int), .int (rest' : Int)])
        have S18 : Same H16 (upd H17 p (.lst [.int (st' : Int), .int (rest' : Int)])) := fun _ _ e => Bar.lkNew hp (S17 _ _ e)
        generalize upd H17 p (.lst [.int (st' : Int), .int (rest' : Int)]) = H18 at hp1 S18
        walk_at "rd"
        refine ⟨y, rfl, oy, fun s2' r2' q q' H19 c2' S19 e1 e2 => ?_, fun no => absurd cy (no _ _)⟩
        obtain ⟨u1, u2⟩ := cy.uniq c2'
        subst u1 u2
        have hp2 := S19 _ _ hp1
        walk_at "rd"
        intro A hA
        walk_at "rd"
        refine ⟨_, _, rfl, same_good (Bar.lkNew hA e1) (Bar.lkNew hA e2) upd_same (Bar.lkNew hA hp2), ?_⟩
        walk_at "rd"
        exact ⟨fun _ _ e => Bar.lkNew hA (S19 _ _ (S18 _ _ e)), _, _, rfl⟩
      · walk_at "rd"
        refine ⟨y, rfl, oy, fun s2' r2' q q' H19 c2' => absurd c2' (no _ _), fun _ q q' H19 S19 e1 e2 => ?_⟩
        walk_at "rd"
        intro A hA
        walk_at "rd"
        intro B hB
        walk_at "rd"
        refine ⟨_, _, rfl, same_bad (Bar.lkNew hB (Bar.lkNew hA e1)) (Bar.lkNew hB (Bar.lkNew hA e2)) upd_same (Bar.lkNew hB upd_same), ?_⟩
        walk_at "rd"
        exact ⟨fun _ _ e => Bar.lkNew hB (Bar.lkNew hA (S19 _ _ (S17 _ _ e))), _, _, rfl⟩
    · rintro σ H17 ⟨S17, u, u', rfl⟩
      walk_at "rd"
      exact k _
end

end Lw


namespace Lw
open PySem L2 Bar

abbrev lawLevel : Nat := 6
theorem all_mk {l : PySem.W.OpenLaw} {w : World} {K : PySem.W.Frag} {h : Heap} {mg : Str → Option Value} {fa f_law f_law_box f_law_draw C_Grid f_Grid___init__ dT4 f_law_int f_law_same f_law_row f_law_word f_law_figures f_law_class_of f_law_sign f_law_spoilt f_law_any f_law_odd f_law_read C_BarclipsError C_BadWord f_BadWord___init__ C_BadNumber f_is_number f_Grid___str__ f_Grid_read p_Grid_read : Addr} (X : K.In h) (G : h.Ns mainGlobals mg) (hfa : mg "law" = some (.ref fa))
    {od1 an1 : Option Addr} {sl1 : Array (Option Value)} {oc1 kV1 dc1 pm1 cd1 ct1 : Value} {od2 an2 : Option Addr} {sl2 : Array (Option Value)} {oc2 kV2 dc2 pm2 cd2 ct2 : Value} {od3 an3 : Option Addr} {sl3 : Array (Option Value)} {oc3 kV3 dc3 pm3 cd3 ct3 : Value} {od4 an4 : Option Addr} {sl4 : Array (Option Value)} {oc4 kV4 dc4 pm4 cd4 ct4 : Value} {td4 : Option Addr} {ts4 : Array (Option Value)} {tc4 : Value} {tn4 : Nat} {tk4_0 : Tok} {od5 an5 : Option Addr} {sl5 : Array (Option Value)} {oc5 kV5 dc5 pm5 cd5 ct5 : Value} {od6 an6 : Option Addr} {sl6 : Array (Option Value)} {oc6 kV6 dc6 pm6 cd6 ct6 : Value} {od7 an7 : Option Addr} {sl7 : Array (Option Value)} {oc7 kV7 dc7 pm7 cd7 ct7 : Value} {od8 an8 : Option Addr} {sl8 : Array (Option Value)} {oc8 kV8 dc8 pm8 cd8 ct8 : Value} {od9 an9 : Option Addr} {sl9 : Array (Option Value)} {oc9 kV9 dc9 pm9 cd9 ct9 : Value} {od10 an10 : Option Addr} {sl10 : Array (Option Value)} {oc10 kV10 dc10 pm10 cd10 ct10 : Value} {od11 an11 : Option Addr} {sl11 : Array (Option Value)} {oc11 kV11 dc11 pm11 cd11 ct11 : Value} {od12 an12 : Option Addr} {sl12 : Array (Option Value)} {oc12 kV12 dc12 pm12 cd12 ct12 : Value} {od13 an13 : Option Addr} {sl13 : Array (Option Value)} {oc13 kV13 dc13 pm13 cd13 ct13 : Value} {od14 an14 : Option Addr} {sl14 : Array (Option Value)} {oc14 kV14 dc14 pm14 cd14 ct14 : Value} {od15 an15 : Option Addr} {sl15 : Array (Option Value)} {oc15 kV15 dc15 pm15 cd15 ct15 : Value} {xn16 xq16 : Str} {xN16 : Addr} {xb16 : List Value} {xs16 : List Str} {xu16 : List Value} {xa16 : Bool} {xc16 : Option Bool} {xd16 : Option Addr} {xk16a xk16b xk16c xk16d xk16e : Option Value} {od17 an17 : Option Addr} {sl17 : Array (Option Value)} {oc17 kV17 dc17 pm17 cd17 ct17 : Value} {xn18 xq18 : Str} {xN18 : Addr} {xb18 : List Value} {xs18 : List Str} {xu18 : List Value} {xa18 : Bool} {xc18 : Option Bool} {xd18 : Option Addr} {xk18a xk18b xk18c xk18d xk18e : Option Value} {od19 an19 : Option Addr} {sl19 : Array (Option Value)} {oc19 kV19 dc19 pm19 cd19 ct19 : Value} {tki20 : Tok} {od21 an21 : Option Addr} {sl21 : Array (Option Value)} {oc21 kV21 dc21 pm21 cd21 ct21 : Value} {od22 an22 : Option Addr} {sl22 : Array (Option Value)} {oc22 kV22 dc22 pm22 cd22 ct22 : Value} {rs22 : List Value}
    (a1 : PySem.W.nsIn K mainGlobals "law" = some (some (.ref f_law)))
    (l1 : K.lookup f_law = some ⟨oc1, od1, .func (PySem.W.fnOf "law" "law" (defArgs s_law) (defBody s_law) (defScope s_law) .none kV1 dc1 pm1 an1 cd1 ct1), sl1⟩)
    (c1 : PySem.W.codeIn K cd1 "law" = true)
    (k1 : PySem.W.keepIn K (.ref f_law) = true)
    (a2 : PySem.W.nsIn K mainGlobals "_law_box" = some (some (.ref f_law_box)))
    (l2 : K.lookup f_law_box = some ⟨oc2, od2, .func (PySem.W.fnOf "_law_box" "_law_box" (defArgs s_law_box) (defBody s_law_box) (defScope s_law_box) .none kV2 dc2 pm2 an2 cd2 ct2), sl2⟩)
    (c2 : PySem.W.codeIn K cd2 "_law_box" = true)
    (k2 : PySem.W.keepIn K (.ref f_law_box) = true)
    (a3 : PySem.W.nsIn K mainGlobals "_law_draw" = some (some (.ref f_law_draw)))
    (l3 : K.lookup f_law_draw = some ⟨oc3, od3, .func (PySem.W.fnOf "_law_draw" "_law_draw" (defArgs s_law_draw) (defBody s_law_draw) (defScope s_law_draw) .none kV3 dc3 pm3 an3 cd3 ct3), sl3⟩)
    (c3 : PySem.W.codeIn K cd3 "_law_draw" = true)
    (k3 : PySem.W.keepIn K (.ref f_law_draw) = true)
    (g_Grid : PySem.W.nsIn K mainGlobals "Grid" = some (some (.ref C_Grid)))
    (pg_Grid : PySem.W.plainGet K C_Grid Str.empty = true)
    (hd_Grid : PySem.W.hasDictIn K C_Grid = true)
    (po_Grid : PySem.W.plainOver K C_Grid = true)
    (sa_Grid : PySem.W.findIn K (.ref C_Grid) "__setattr__" = some (some (.builtin "object.__setattr__")))
    (mk_Grid : PySem.W.makesIn K C_Grid = true)
    (kp_Grid : PySem.W.keepIn K (.ref C_Grid) = true)
    (a4 : PySem.W.findIn K (.ref C_Grid) "__init__" = some (some (.ref f_Grid___init__)))
    (i4 : PySem.W.isFn K (.ref f_Grid___init__) = true)
    (l4 : K.lookup f_Grid___init__ = some ⟨oc4, od4, .func (PySem.W.fnOf "__init__" "Grid.__init__" (defArgs s_Grid___init__) (defBody s_Grid___init__) (defScope s_Grid___init__) (.ref dT4) kV4 dc4 pm4 an4 cd4 ct4), sl4⟩)
    (c4 : PySem.W.codeIn K cd4 "Grid.__init__" = true)
    (k4 : PySem.W.keepIn K (.ref f_Grid___init__) = true)
    (t4 : K.lookup dT4 = some ⟨tc4, td4, .seq (#[.int 0 tk4_0] : Array Value) tn4, ts4⟩)
    (no_Grid_step : PySem.W.findIn K (.ref C_Grid) "step" = some none)
    (no_Grid_offset : PySem.W.findIn K (.ref C_Grid) "offset" = some none)
    (z_len : PySem.W.nsIn K mainGlobals "len" = some none)
    (z_int : PySem.W.nsIn K mainGlobals "int" = some none)
    (z_abs : PySem.W.nsIn K mainGlobals "abs" = some none)
    (z_str : PySem.W.nsIn K mainGlobals "str" = some none)
    (z_range : PySem.W.nsIn K mainGlobals "range" = some none)
    (z_isinstance : PySem.W.nsIn K mainGlobals "isinstance" = some none)
    (z_bool : PySem.W.nsIn K mainGlobals "bool" = some none)
    (z_list : PySem.W.nsIn K mainGlobals "list" = some none)
    (z_tuple : PySem.W.nsIn K mainGlobals "tuple" = some none)
    (z_sum : PySem.W.nsIn K mainGlobals "sum" = some none)
    (z_min : PySem.W.nsIn K mainGlobals "min" = some none)
    (z_max : PySem.W.nsIn K mainGlobals "max" = some none)
    (z_any : PySem.W.nsIn K mainGlobals "any" = some none)
    (z_all : PySem.W.nsIn K mainGlobals "all" = some none)
    (z_sorted : PySem.W.nsIn K mainGlobals "sorted" = some none)
    (z_enumerate : PySem.W.nsIn K mainGlobals "enumerate" = some none)
    (z_ValueError : PySem.W.nsIn K mainGlobals "ValueError" = some none)
    (a5 : PySem.W.nsIn K mainGlobals "_law_int" = some (some (.ref f_law_int)))
    (l5 : K.lookup f_law_int = some ⟨oc5, od5, .func (PySem.W.fnOf "_law_int" "_law_int" (defArgs s_law_int) (defBody s_law_int) (defScope s_law_int) .none kV5 dc5 pm5 an5 cd5 ct5), sl5⟩)
    (c5 : PySem.W.codeIn K cd5 "_law_int" = true)
    (k5 : PySem.W.keepIn K (.ref f_law_int) = true)
    (a6 : PySem.W.nsIn K mainGlobals "_law_same" = some (some (.ref f_law_same)))
    (l6 : K.lookup f_law_same = some ⟨oc6, od6, .func (PySem.W.fnOf "_law_same" "_law_same" (defArgs s_law_same) (defBody s_law_same) (defScope s_law_same) .none kV6 dc6 pm6 an6 cd6 ct6), sl6⟩)
    (c6 : PySem.W.codeIn K cd6 "_law_same" = true)
    (k6 : PySem.W.keepIn K (.ref f_law_same) = true)
    (a7 : PySem.W.nsIn K mainGlobals "_law_row" = some (some (.ref f_law_row)))
    (l7 : K.lookup f_law_row = some ⟨oc7, od7, .func (PySem.W.fnOf "_law_row" "_law_row" (defArgs s_law_row) (defBody s_law_row) (defScope s_law_row) .none kV7 dc7 pm7 an7 cd7 ct7), sl7⟩)
    (c7 : PySem.W.codeIn K cd7 "_law_row" = true)
    (k7 : PySem.W.keepIn K (.ref f_law_row) = true)
    (a8 : PySem.W.nsIn K mainGlobals "_law_word" = some (some (.ref f_law_word)))
    (l8 : K.lookup f_law_word = some ⟨oc8, od8, .func (PySem.W.fnOf "_law_word" "_law_word" (defArgs s_law_word) (defBody s_law_word) (defScope s_law_word) .none kV8 dc8 pm8 an8 cd8 ct8), sl8⟩)
    (c8 : PySem.W.codeIn K cd8 "_law_word" = true)
    (k8 : PySem.W.keepIn K (.ref f_law_word) = true)
    (a9 : PySem.W.nsIn K mainGlobals "_law_figures" = some (some (.ref f_law_figures)))
    (l9 : K.lookup f_law_figures = some ⟨oc9, od9, .func (PySem.W.fnOf "_law_figures" "_law_figures" (defArgs s_law_figures) (defBody s_law_figures) (defScope s_law_figures) .none kV9 dc9 pm9 an9 cd9 ct9), sl9⟩)
    (c9 : PySem.W.codeIn K cd9 "_law_figures" = true)
    (k9 : PySem.W.keepIn K (.ref f_law_figures) = true)
    (a10 : PySem.W.nsIn K mainGlobals "_law_class_of" = some (some (.ref f_law_class_of)))
    (l10 : K.lookup f_law_class_of = some ⟨oc10, od10, .func (PySem.W.fnOf "_law_class_of" "_law_class_of" (defArgs s_law_class_of) (defBody s_law_class_of) (defScope s_law_class_of) .none kV10 dc10 pm10 an10 cd10 ct10), sl10⟩)
    (c10 : PySem.W.codeIn K cd10 "_law_class_of" = true)
    (k10 : PySem.W.keepIn K (.ref f_law_class_of) = true)
    (a11 : PySem.W.nsIn K mainGlobals "_law_sign" = some (some (.ref f_law_sign)))
    (l11 : K.lookup f_law_sign = some ⟨oc11, od11, .func (PySem.W.fnOf "_law_sign" "_law_sign" (defArgs s_law_sign) (defBody s_law_sign) (defScope s_law_sign) .none kV11 dc11 pm11 an11 cd11 ct11), sl11⟩)
    (c11 : PySem.W.codeIn K cd11 "_law_sign" = true)
    (k11 : PySem.W.keepIn K (.ref f_law_sign) = true)
    (a12 : PySem.W.nsIn K mainGlobals "_law_spoilt" = some (some (.ref f_law_spoilt)))
    (l12 : K.lookup f_law_spoilt = some ⟨oc12, od12, .func (PySem.W.fnOf "_law_spoilt" "_law_spoilt" (defArgs s_law_spoilt) (defBody s_law_spoilt) (defScope s_law_spoilt) .none kV12 dc12 pm12 an12 cd12 ct12), sl12⟩)
    (c12 : PySem.W.codeIn K cd12 "_law_spoilt" = true)
    (k12 : PySem.W.keepIn K (.ref f_law_spoilt) = true)
    (a13 : PySem.W.nsIn K mainGlobals "_law_any" = some (some (.ref f_law_any)))
    (l13 : K.lookup f_law_any = some ⟨oc13, od13, .func (PySem.W.fnOf "_law_any" "_law_any" (defArgs s_law_any) (defBody s_law_any) (defScope s_law_any) .none kV13 dc13 pm13 an13 cd13 ct13), sl13⟩)
    (c13 : PySem.W.codeIn K cd13 "_law_any" = true)
    (k13 : PySem.W.keepIn K (.ref f_law_any) = true)
    (a14 : PySem.W.nsIn K mainGlobals "_law_odd" = some (some (.ref f_law_odd)))
    (l14 : K.lookup f_law_odd = some ⟨oc14, od14, .func (PySem.W.fnOf "_law_odd" "_law_odd" (defArgs s_law_odd) (defBody s_law_odd) (defScope s_law_odd) .none kV14 dc14 pm14 an14 cd14 ct14), sl14⟩)
    (c14 : PySem.W.codeIn K cd14 "_law_odd" = true)
    (k14 : PySem.W.keepIn K (.ref f_law_odd) = true)
    (a15 : PySem.W.nsIn K mainGlobals "_law_read" = some (some (.ref f_law_read)))
    (l15 : K.lookup f_law_read = some ⟨oc15, od15, .func (PySem.W.fnOf "_law_read" "_law_read" (defArgs s_law_read) (defBody s_law_read) (defScope s_law_read) .none kV15 dc15 pm15 an15 cd15 ct15), sl15⟩)
    (c15 : PySem.W.codeIn K cd15 "_law_read" = true)
    (k15 : PySem.W.keepIn K (.ref f_law_read) = true)
    (g_BarclipsError : PySem.W.nsIn K mainGlobals "BarclipsError" = some (some (.ref C_BarclipsError)))
    (rd_BarclipsError : PySem.W.readsIn K C_BarclipsError (.type "type") = true)
    (sg_BarclipsError : PySem.W.specialIn K (.ref C_BarclipsError) "__getattribute__" = some (some (.builtin "type.__getattribute__")))
    (vi_BarclipsError : PySem.W.findCls K (.ref C_BarclipsError) (.type "type") "__init__" = some (.val (.builtin "ValueError.__init__")))
    (ic_BarclipsError : PySem.W.isClsIn K C_BarclipsError = true)
    (ty_BarclipsError : PySem.W.typeIn K (.ref C_BarclipsError) = some (.type "type"))
    (e_hn : PySem.W.specialIn K (.builtin "object.__class__") "__get__" = some (some (.builtin "getset_descriptor.__get__")))
    (e_tk : PySem.W.takesIn K (.builtin "object.__class__") = some true)
    (i_ha : PySem.W.findIn K (.ref C_Grid) "__class__" = some (some (.builtin "object.__class__")))
    (i_hm : PySem.W.mroIn K C_Grid (.type "object") = some true)
    (g_BadWord : PySem.W.nsIn K mainGlobals "BadWord" = some (some (.ref C_BadWord)))
    (lk_BadWord : K.lookup C_BadWord = some (excClassObj xn16 xq16 C_BadWord xN16 xb16 [.ref C_BarclipsError, .type "ValueError", .type "Exception", .type "BaseException", .type "object"] true xs16 xu16 xa16 xc16 xd16 xk16a xk16b xk16c xk16d xk16e "ValueError.__new__"))
    (sa_BadWord : PySem.W.findIn K (.ref C_BadWord) "__setattr__" = some (some (.builtin "object.__setattr__")))
    (xb_BadWord : PySem.W.subIn K (.ref C_BadWord) (.type "BaseException") = some true)
    (ty_BadWord : PySem.W.typeIn K (.ref C_BadWord) = some (.type "type"))
    (kp_BadWord : PySem.W.keepIn K (.ref C_BadWord) = true)
    (ga_BadWord : PySem.W.findIn K (.ref C_BadWord) "__getattribute__" = some (some (.builtin "BaseException.__getattribute__")))
    (gg_BadWord : PySem.W.findIn K (.ref C_BadWord) "__getattr__" = some none)
    (hd_BadWord : PySem.W.hasDictIn K C_BadWord = true)
    (ic_BadWord : PySem.W.isClsIn K C_BadWord = true)
    (ac_BadWord : PySem.W.findIn K (.ref C_BadWord) "__class__" = some (some (.builtin "object.__class__")))
    (mo_BadWord : PySem.W.mroIn K C_BadWord (.type "object") = some true)
    (ss_BadWord : PySem.W.subIn K (.ref C_BadWord) (.ref C_BadWord) = some true)
    (a17 : PySem.W.findIn K (.ref C_BadWord) "__init__" = some (some (.ref f_BadWord___init__)))
    (t17 : PySem.W.typeIn K (.ref f_BadWord___init__) = some (.type "function"))
    (l17 : K.lookup f_BadWord___init__ = some ⟨oc17, od17, .func (PySem.W.fnOf "__init__" "BadWord.__init__" (defArgs s_BadWord___init__) (defBody s_BadWord___init__) (defScope s_BadWord___init__) .none kV17 dc17 pm17 an17 cd17 ct17), sl17⟩)
    (c17 : PySem.W.codeIn K cd17 "BadWord.__init__" = true)
    (k17 : PySem.W.keepIn K (.ref f_BadWord___init__) = true)
    (no_BadWord_word : PySem.W.findIn K (.ref C_BadWord) "word" = some none)
    (g_BadNumber : PySem.W.nsIn K mainGlobals "BadNumber" = some (some (.ref C_BadNumber)))
    (lk_BadNumber : K.lookup C_BadNumber = some (excClassObj xn18 xq18 C_BadNumber xN18 xb18 [.ref C_BarclipsError, .type "ValueError", .type "Exception", .type "BaseException", .type "object"] true xs18 xu18 xa18 xc18 xd18 xk18a xk18b xk18c xk18d xk18e "ValueError.__new__"))
    (sa_BadNumber : PySem.W.findIn K (.ref C_BadNumber) "__setattr__" = some (some (.builtin "object.__setattr__")))
    (xb_BadNumber : PySem.W.subIn K (.ref C_BadNumber) (.type "BaseException") = some true)
    (ty_BadNumber : PySem.W.typeIn K (.ref C_BadNumber) = some (.type "type"))
    (kp_BadNumber : PySem.W.keepIn K (.ref C_BadNumber) = true)
    (ga_BadNumber : PySem.W.findIn K (.ref C_BadNumber) "__getattribute__" = some (some (.builtin "BaseException.__getattribute__")))
    (gg_BadNumber : PySem.W.findIn K (.ref C_BadNumber) "__getattr__" = some none)
    (hd_BadNumber : PySem.W.hasDictIn K C_BadNumber = true)
    (ic_BadNumber : PySem.W.isClsIn K C_BadNumber = true)
    (ac_BadNumber : PySem.W.findIn K (.ref C_BadNumber) "__class__" = some (some (.builtin "object.__class__")))
    (mo_BadNumber : PySem.W.mroIn K C_BadNumber (.type "object") = some true)
    (ss_BadNumber : PySem.W.subIn K (.ref C_BadNumber) (.ref C_BadNumber) = some true)
    (sb_BadWord_BarclipsError : PySem.W.subIn K (.ref C_BadWord) (.ref C_BarclipsError) = some true)
    (sb_BadWord_ValueError : PySem.W.subIn K (.ref C_BadWord) (.type "ValueError") = some true)
    (sb_BadWord_BadNumber : PySem.W.subIn K (.ref C_BadWord) (.ref C_BadNumber) = some false)
    (a19 : PySem.W.nsIn K mainGlobals "is_number" = some (some (.ref f_is_number)))
    (l19 : K.lookup f_is_number = some ⟨oc19, od19, .func (PySem.W.fnOf "is_number" "is_number" (defArgs s_is_number) (defBody s_is_number) (defScope s_is_number) .none kV19 dc19 pm19 an19 cd19 ct19), sl19⟩)
    (c19 : PySem.W.codeIn K cd19 "is_number" = true)
    (k19 : PySem.W.keepIn K (.ref f_is_number) = true)
    (gi_MOST_DIGITS : PySem.W.nsIn K mainGlobals "MOST_DIGITS" = some (some (.int 30 tki20)))
    (rd_Grid : PySem.W.readsIn K C_Grid (.type "type") = true)
    (sg_Grid : PySem.W.specialIn K (.ref C_Grid) "__getattribute__" = some (some (.builtin "type.__getattribute__")))
    (a21 : PySem.W.findIn K (.ref C_Grid) "__str__" = some (some (.ref f_Grid___str__)))
    (i21 : PySem.W.isFn K (.ref f_Grid___str__) = true)
    (l21 : K.lookup f_Grid___str__ = some ⟨oc21, od21, .func (PySem.W.fnOf "__str__" "Grid.__str__" (defArgs s_Grid___str__) (defBody s_Grid___str__) (defScope s_Grid___str__) .none kV21 dc21 pm21 an21 cd21 ct21), sl21⟩)
    (c21 : PySem.W.codeIn K cd21 "Grid.__str__" = true)
    (k21 : PySem.W.keepIn K (.ref f_Grid___str__) = true)
    (a22 : PySem.W.findCls K (.ref C_Grid) (.type "type") "read" = some (.get (.builtin "classmethod.__get__") (.ref p_Grid_read) .none (.ref C_Grid)))
    (b22 : PySem.W.recIn K p_Grid_read "classmethod" = some (.ref f_Grid_read :: rs22))
    (i22 : PySem.W.fnIn K f_Grid_read = true)
    (l22 : K.lookup f_Grid_read = some ⟨oc22, od22, .func (PySem.W.fnOf "read" "Grid.read" (defArgs s_Grid_read) (defBody s_Grid_read) (defScope s_Grid_read) .none kV22 dc22 pm22 an22 cd22 ct22), sl22⟩)
    (c22 : PySem.W.codeIn K cd22 "Grid.read" = true)
    (k22 : PySem.W.keepIn K (.ref f_Grid_read) = true) :
    ∃ fd : FuncData, (∀ (s : Shared) (v : Value), BindsTo s fd ⟨[v], []⟩ [("_law_script", v)]) ∧ ∀ base : Heap, K.In base → base.Ns mainGlobals mg → FnOk l.prog w K mg base CX0 lawLevel fa fd ["_law_script"] (spLaw K) := by
  have F_law := fun_mk (st := s_law) l1 c1 k1
  have g_law := PySem.W.mg_of X G a1
  have kp_law := k1
  have F_law_box := fun_mk (st := s_law_box) l2 c2 k2
  have b_law_box := F_law_box.binds (ps := P_law_box) fun _ _ _ _ _ _ us hl => match us, hl with | [_, _], _ => rfl
  have g_law_box := PySem.W.mg_of X G a2
  have kp_law_box := k2
  have F_law_draw := fun_mk (st := s_law_draw) l3 c3 k3
  have b_law_draw := F_law_draw.binds (ps := P_law_draw) fun _ _ _ _ _ _ us hl => match us, hl with | [_, _], _ => rfl
  have g_law_draw := PySem.W.mg_of X G a3
  have kp_law_draw := k3
  have cl_Grid : Cls K C_Grid := ⟨pg_Grid, hd_Grid, po_Grid, sa_Grid⟩
  have mg_Grid := PySem.W.mg_of X G g_Grid
  have F_Grid___init__ : FunD K "__init__" "Grid.__init__" (defArgs s_Grid___init__) (defBody s_Grid___init__) (defScope s_Grid___init__) [.int 0] [] f_Grid___init__ _ := ⟨⟨_, _, _, _, _, _, _, _, _, _, rfl, l4, c4, Or.inr ⟨by simp, _, _, _, _, rfl, t4, rfl, .cons ⟨_, rfl⟩ (.nil)⟩, Or.inl rfl⟩, k4⟩
  obtain ⟨ds_Grid___init___1, dr_Grid___init___1, b_Grid___init___1⟩ := F_Grid___init__.binds1 (ps := P_Grid___init__) 2 0 (by simp) rfl (fun T kV doc pm an cdv ct us its h1 h2 => match us, its, h1, h2 with | [_, _], [_], _, _ => ⟨_, rfl, rfl⟩)
  obtain ⟨ds_Grid___init___2, dr_Grid___init___2, b_Grid___init___2⟩ := F_Grid___init__.binds1 (ps := P_Grid___init__) 3 1 (by simp) rfl (fun T kV doc pm an cdv ct us its h1 h2 => match us, its, h1, h2 with | [_, _, _], [_], _, _ => ⟨_, rfl, rfl⟩)
  have mk_Grid___init__ : Mk K C_Grid f_Grid___init__ := ⟨mk_Grid, a4, i4, kp_Grid⟩
  have kp_Grid___init__ := k4
  have b_len := PySem.W.mg_none_of X G z_len
  have b_int := PySem.W.mg_none_of X G z_int
  have b_abs := PySem.W.mg_none_of X G z_abs
  have b_str := PySem.W.mg_none_of X G z_str
  have b_range := PySem.W.mg_none_of X G z_range
  have b_isinstance := PySem.W.mg_none_of X G z_isinstance
  have b_bool := PySem.W.mg_none_of X G z_bool
  have b_list := PySem.W.mg_none_of X G z_list
  have b_tuple := PySem.W.mg_none_of X G z_tuple
  have b_sum := PySem.W.mg_none_of X G z_sum
  have b_min := PySem.W.mg_none_of X G z_min
  have b_max := PySem.W.mg_none_of X G z_max
  have b_any := PySem.W.mg_none_of X G z_any
  have b_all := PySem.W.mg_none_of X G z_all
  have b_sorted := PySem.W.mg_none_of X G z_sorted
  have b_enumerate := PySem.W.mg_none_of X G z_enumerate
  have b_ValueError := PySem.W.mg_none_of X G z_ValueError
  have F_law_int := fun_mk (st := s_law_int) l5 c5 k5
  have b_law_int := F_law_int.binds (ps := P_law_int) fun _ _ _ _ _ _ us hl => match us, hl with | [_], _ => rfl
  have g_law_int := PySem.W.mg_of X G a5
  have kp_law_int := k5
  have F_law_same := fun_mk (st := s_law_same) l6 c6 k6
  have b_law_same := F_law_same.binds (ps := P_law_same) fun _ _ _ _ _ _ us hl => match us, hl with | [_, _], _ => rfl
  have g_law_same := PySem.W.mg_of X G a6
  have kp_law_same := k6
  have F_law_row := fun_mk (st := s_law_row) l7 c7 k7
  have b_law_row := F_law_row.binds (ps := P_law_row) fun _ _ _ _ _ _ us hl => match us, hl with | [_], _ => rfl
  have g_law_row := PySem.W.mg_of X G a7
  have kp_law_row := k7
  have F_law_word := fun_mk (st := s_law_word) l8 c8 k8
  have b_law_word := F_law_word.binds (ps := P_law_word) fun _ _ _ _ _ _ us hl => match us, hl with | [_, _], _ => rfl
  have g_law_word := PySem.W.mg_of X G a8
  have kp_law_word := k8
  have F_law_figures := fun_mk (st := s_law_figures) l9 c9 k9
  have b_law_figures := F_law_figures.binds (ps := P_law_figures) fun _ _ _ _ _ _ us hl => match us, hl with | [_], _ => rfl
  have g_law_figures := PySem.W.mg_of X G a9
  have kp_law_figures := k9
  have F_law_class_of := fun_mk (st := s_law_class_of) l10 c10 k10
  have b_law_class_of := F_law_class_of.binds (ps := P_law_class_of) fun _ _ _ _ _ _ us hl => match us, hl with | [_], _ => rfl
  have g_law_class_of := PySem.W.mg_of X G a10
  have kp_law_class_of := k10
  have F_law_sign := fun_mk (st := s_law_sign) l11 c11 k11
  have b_law_sign := F_law_sign.binds (ps := P_law_sign) fun _ _ _ _ _ _ us hl => match us, hl with | [_], _ => rfl
  have g_law_sign := PySem.W.mg_of X G a11
  have kp_law_sign := k11
  have F_law_spoilt := fun_mk (st := s_law_spoilt) l12 c12 k12
  have b_law_spoilt := F_law_spoilt.binds (ps := P_law_spoilt) fun _ _ _ _ _ _ us hl => match us, hl with | [_, _], _ => rfl
  have g_law_spoilt := PySem.W.mg_of X G a12
  have kp_law_spoilt := k12
  have F_law_any := fun_mk (st := s_law_any) l13 c13 k13
  have b_law_any := F_law_any.binds (ps := P_law_any) fun _ _ _ _ _ _ us hl => match us, hl with | [_], _ => rfl
  have g_law_any := PySem.W.mg_of X G a13
  have kp_law_any := k13
  have F_law_odd := fun_mk (st := s_law_odd) l14 c14 k14
  have b_law_odd := F_law_odd.binds (ps := P_law_odd) fun _ _ _ _ _ _ us hl => match us, hl with | [], _ => rfl
  have g_law_odd := PySem.W.mg_of X G a14
  have kp_law_odd := k14
  have F_law_read := fun_mk (st := s_law_read) l15 c15 k15
  have b_law_read := F_law_read.binds (ps := P_law_read) fun _ _ _ _ _ _ us hl => match us, hl with | [_], _ => rfl
  have g_law_read := PySem.W.mg_of X G a15
  have kp_law_read := k15
  have eb : EBase K mg "BarclipsError" C_BarclipsError := ⟨PySem.W.mg_of X G g_BarclipsError, ⟨rd_BarclipsError, sg_BarclipsError⟩, vi_BarclipsError⟩
  have mg_BarclipsError := PySem.W.mg_of X G g_BarclipsError
  have mg_BadWord := PySem.W.mg_of X G g_BadWord
  have oc_BadWord : OexC K C_BadWord := ⟨⟨_, _, _, _, _, _, _, _, _, _, _, _, _, _, _, lk_BadWord, by first | rfl | decide⟩, sa_BadWord, xb_BadWord, ty_BadWord, kp_BadWord⟩
  have ee_BadWord : ETxt K mg "BadWord" C_BadWord := ⟨mg_BadWord, oc_BadWord, ⟨⟨ga_BadWord, gg_BadWord, xb_BadWord, hd_BadWord⟩, ic_BadWord, ac_BadWord, e_hn, e_tk, mo_BadWord⟩, exm_own xb_BadWord ic_BadWord ty_BadWord ss_BadWord⟩
  have F_BadWord___init__ := fun_mk (st := s_BadWord___init__) l17 c17 k17
  have b_BadWord___init__ := F_BadWord___init__.binds (ps := P_BadWord___init__) fun _ _ _ _ _ _ us hl => match us, hl with | [_, _], _ => rfl
  have gi_BadWord___init__ := a17
  have ti_BadWord___init__ := t17
  have mg_BadNumber := PySem.W.mg_of X G g_BadNumber
  have oc_BadNumber : OexC K C_BadNumber := ⟨⟨_, _, _, _, _, _, _, _, _, _, _, _, _, _, _, lk_BadNumber, by first | rfl | decide⟩, sa_BadNumber, xb_BadNumber, ty_BadNumber, kp_BadNumber⟩
  have ee_BadNumber : ETxt K mg "BadNumber" C_BadNumber := ⟨mg_BadNumber, oc_BadNumber, ⟨⟨ga_BadNumber, gg_BadNumber, xb_BadNumber, hd_BadNumber⟩, ic_BadNumber, ac_BadNumber, e_hn, e_tk, mo_BadNumber⟩, exm_own xb_BadNumber ic_BadNumber ty_BadNumber ss_BadNumber⟩
  have ki_BadWord_BarclipsError := kit_xC ic_BarclipsError ty_BarclipsError sb_BadWord_BarclipsError (fun _ => rfl)
  have ki_BadWord_ValueError := kit_xT (C := C_BadWord) sb_BadWord_ValueError
  have ki_BadWord_BadNumber := kit_xC ic_BadNumber ty_BadNumber sb_BadWord_BadNumber (fun e => by rw [e, ss_BadNumber] at sb_BadWord_BadNumber; cases sb_BadWord_BadNumber)
  have F_is_number := fun_mk (st := s_is_number) l19 c19 k19
  have b_is_number := F_is_number.binds (ps := P_is_number) fun _ _ _ _ _ _ us hl => match us, hl with | [_], _ => rfl
  have g_is_number := PySem.W.mg_of X G a19
  have kp_is_number := k19
  have g_int_MOST_DIGITS := PySem.W.mg_of X G gi_MOST_DIGITS
  have cr_Grid : ClX.CRead K C_Grid (.type "type") := ⟨rd_Grid, sg_Grid⟩
  have F_Grid___str__ := fun_mk (st := s_Grid___str__) l21 c21 k21
  have b_Grid___str__ := F_Grid___str__.binds (ps := P_Grid___str__) fun _ _ _ _ _ _ us hl => match us, hl with | [_], _ => rfl
  have g_Grid___str__ := (⟨a21, i21, k21⟩ : Meth K C_Grid "__str__" f_Grid___str__)
  have o_Grid___str__ : Own K C_Grid "__str__" f_Grid___str__ := ⟨a21, i21⟩
  have kp_Grid___str__ := k21
  have F_Grid_read := fun_mk (st := s_Grid_read) l22 c22 k22
  have b_Grid_read := F_Grid_read.binds (ps := P_Grid_read) fun _ _ _ _ _ _ us hl => match us, hl with | [_, _], _ => rfl
  have cm_Grid_read : ClX.CMet K C_Grid (.type "type") "read" p_Grid_read f_Grid_read := ⟨a22, ⟨_, b22⟩, i22⟩
  cases hfa.symm.trans g_law
  have T : Txt mg := ⟨b_len, b_int, b_abs, b_str, b_range, b_isinstance, b_bool, b_list, b_tuple, b_sum, b_min, b_max, b_any, b_all, b_sorted, b_enumerate⟩
  have GT : GTxt K C_Grid := ⟨cl_Grid, no_Grid_step, no_Grid_offset⟩
  refine ⟨PySem.W.fnOf "law" "law" (defArgs s_law) (defBody s_law) (defScope s_law) .none kV1 dc1 pm1 an1 cd1 ct1, fun s v => .of_eq rfl, fun base _ _ => ?_⟩
  have fDraw : Fn l.prog w K mg base "_law_draw" P_law_draw [] 1 spDraw := ⟨_, _, _, g_law_draw, kp_law_draw, b_law_draw, .nil, ok_draw F_law_draw T⟩
  have fBox : Fn l.prog w K mg base "_law_box" P_law_box [] 1 (spBox K) := ⟨_, _, _, g_law_box, kp_law_box, b_law_box, .nil, ok_box F_law_box T⟩
  have mk2 : Made l.prog w K mg base "Grid" C_Grid P_Grid___init__ [] 1 (spInit C_Grid) := ⟨_, _, _, mg_Grid, mk_Grid___init__, b_Grid___init___2, dr_Grid___init___2, ok_init F_Grid___init__ GT⟩
  have mk1 : Made l.prog w K mg base "Grid" C_Grid P_Grid___init__ [.int 0] 1 (spInit C_Grid) := ⟨_, _, _, mg_Grid, mk_Grid___init__, b_Grid___init___1, dr_Grid___init___1, ok_init F_Grid___init__ GT⟩

  have fInt : Fn l.prog w K mg base "_law_int" P_law_int [] 1 spInt := ⟨_, _, _, g_law_int, kp_law_int, b_law_int, .nil, ok_int F_law_int T⟩
  have fSame := fn_same (P := l.prog) (w := w) (base := base) F_law_same T g_law_same b_law_same fInt
  have gi : GIsi K mg C_Grid := ⟨mg_Grid, cl_Grid, i_ha, e_hn, e_tk, i_hm⟩
  have fRow : Fn l.prog w K mg base "_law_row" P_law_row [] 2 spRow := ⟨_, _, _, g_law_row, kp_law_row, b_law_row, .nil, ok_row F_law_row T (drawA fDraw)⟩
  have fWord : Fn l.prog w K mg base "_law_word" P_law_word [] 1 spWord := ⟨_, _, _, g_law_word, kp_law_word, b_law_word, .nil, ok_word F_law_word T⟩
  have fFig : Fn l.prog w K mg base "_law_figures" P_law_figures [] 1 spFig := ⟨_, _, _, g_law_figures, kp_law_figures, b_law_figures, .nil, ok_fig F_law_figures T⟩
  have fClass : Fn l.prog w K mg base "_law_class_of" P_law_class_of [] 2 spClass := ⟨_, _, _, g_law_class_of, kp_law_class_of, b_law_class_of, .nil, ok_class F_law_class_of T fFig fWord⟩
  have fSign : Fn l.prog w K mg base "_law_sign" P_law_sign [] 2 spSign := ⟨_, _, _, g_law_sign, kp_law_sign, b_law_sign, .nil, ok_sign F_law_sign T (drawA fDraw)⟩
  have fSpoilt : Fn l.prog w K mg base "_law_spoilt" P_law_spoilt [] 3 spSpoilt := ⟨_, _, _, g_law_spoilt, kp_law_spoilt, b_law_spoilt, .nil, ok_spoilt F_law_spoilt T (drawA fDraw) fSign⟩
  have fAny : Fn l.prog w K mg base "_law_any" P_law_any [] 3 spAny := ⟨_, _, _, g_law_any, kp_law_any, b_law_any, .nil, ok_any F_law_any T (drawA fDraw) fSign⟩
  have fOdd : Fn l.prog w K mg base "_law_odd" P_law_odd [] 1 spOdd := ⟨_, _, _, g_law_odd, kp_law_odd, b_law_odd, .nil, ok_odd F_law_odd T⟩
  have eW : Err l.prog w K mg base "BadWord" C_BadWord P_BadWord___init__ 1 (spErr1 C_BadWord "word" okWord) := ⟨_, _, mg_BadWord, oc_BadWord, gi_BadWord___init__, ti_BadWord___init__, b_BadWord___init__, ok_eWord F_BadWord___init__ eb oc_BadWord no_BadWord_word⟩
  have fNum : Fn l.prog w K mg base "is_number" P_is_number [] 1 spIsNum := ⟨_, _, _, g_is_number, kp_is_number, b_is_number, .nil, ok_isnum F_is_number T g_int_MOST_DIGITS⟩
  have mL : MadeL l.prog w K mg base C_Grid P_Grid___init__ [] 1 (spInit C_Grid) := ⟨_, _, _, mk_Grid___init__, b_Grid___init___2, dr_Grid___init___2, ok_init F_Grid___init__ GT⟩
  have sF : StrF l.prog w K mg base C_Grid P_Grid___str__ 1 (spStrG C_Grid) := ⟨_, _, o_Grid___str__.1, o_Grid___str__.2, b_Grid___str__, ok_strG F_Grid___str__ T GT⟩
  have cM : CMthX l.prog w K mg base C_Grid "read" P_Grid_read 4 (spReadX C_Grid C_BadWord) := ⟨cr_Grid, _, _, _, cm_Grid_read, b_Grid_read, ok_readX F_Grid_read T fNum eW mL sF⟩
  have fRead : Fn l.prog w K mg base "_law_read" P_law_read [] 5 spRead := ⟨_, _, _, g_law_read, kp_law_read, b_law_read, .nil, ok_read F_law_read T GT gi mg_Grid cM ee_BadWord eb ee_BadNumber no_BadWord_word b_ValueError ki_BadWord_BarclipsError ki_BadWord_ValueError ki_BadWord_BadNumber⟩
  exact ok_law F_law T GT fBox (drawA fDraw) fRow fWord mk2 sF (fSame 3) fSpoilt fAny fOdd fClass fRead
theorem walk {l : PySem.W.OpenLaw} {q : Program} {loose : List Str} {XP : (Str → Option Value) → Heap → Prop} {YP : World → Heap → Prop} {d : DefRec} {K : Params → PySem.W.Frag} (hn : l.most = some 63) (hdf : d.params.defaults = [])
    (hY : ∀ (w : World) (h : Heap), YP w h → (K w.params).In h)
    (F : ∀ (w : World) (mg : Str → Option Value) (fa : Addr) (h : Heap), (K w.params).In h → h.Ns mainGlobals mg → mg d.name = some (.ref fa) →
      ∃ fd : FuncData, (∀ (s : Shared) (u : Value), BindsTo s fd ⟨[u], []⟩ [("_law_script", u)]) ∧ ∀ base : Heap, (K w.params).In base → base.Ns mainGlobals mg → FnOk l.prog w (K w.params) mg base CX0 lawLevel fa fd ["_law_script"] (spLaw (K w.params))) :
    PySem.W.WalkO q loose XP YP l.row.toRowW d [] (fun f vs => PySem.call f vs) :=
  L2.walk_of (n := 63) (k := lawLevel) (x := "_law_script") (CX := fun _ => CX0) (sp := fun w => spLaw (K w.params)) hn (by decide) hdf ⟨rfl, by decide, by decide⟩ hY F (fun _ _ a ns hl _ hS => ⟨a, ns, rfl, hS, hl, fun _ => rfl⟩) fun _ _ _ _ _ z => z
end Lw

open PySem PySem.W PyProof.Rows in
set_option maxRecDepth 100000 in
set_option maxHeartbeats 0 in
theorem PySem.Challenge.cw_barclips_k10_grid_words_holds : PySem.Challenge.rw_barclips_k10_grid_words.Holds := by
  w_on; o_law; k_head; (case hw => w_witness2)
  k_fill
  refine Lw.walk (l := PySem.Challenge.rw_barclips_k10_grid_words) rfl rfl (fun w h Y => PySem.W.kIn_of Y) ?F
  case F =>
    intro w mg fa h KX G hmg
    refine' Lw.all_mk KX G hmg ?a1 ?l1 ?c1 ?k1 ?a2 ?l2 ?c2 ?k2 ?a3 ?l3 ?c3 ?k3 ?g_Grid ?pg_Grid ?hd_Grid ?po_Grid ?sa_Grid ?mk_Grid ?kp_Grid ?a4 ?i4 ?l4 ?c4 ?k4 ?t4 ?no_Grid_step ?no_Grid_offset ?z_len ?z_int ?z_abs ?z_str ?z_range ?z_isinstance ?z_bool ?z_list ?z_tuple ?z_sum ?z_min ?z_max ?z_any ?z_all ?z_sorted ?z_enumerate ?z_ValueError ?a5 ?l5 ?c5 ?k5 ?a6 ?l6 ?c6 ?k6 ?a7 ?l7 ?c7 ?k7 ?a8 ?l8 ?c8 ?k8 ?a9 ?l9 ?c9 ?k9 ?a10 ?l10 ?c10 ?k10 ?a11 ?l11 ?c11 ?k11 ?a12 ?l12 ?c12 ?k12 ?a13 ?l13 ?c13 ?k13 ?a14 ?l14 ?c14 ?k14 ?a15 ?l15 ?c15 ?k15 ?g_BarclipsError ?rd_BarclipsError ?sg_BarclipsError ?vi_BarclipsError ?ic_BarclipsError ?ty_BarclipsError ?e_hn ?e_tk ?i_ha ?i_hm ?g_BadWord ?lk_BadWord ?sa_BadWord ?xb_BadWord ?ty_BadWord ?kp_BadWord ?ga_BadWord ?gg_BadWord ?hd_BadWord ?ic_BadWord ?ac_BadWord ?mo_BadWord ?ss_BadWord ?a17 ?t17 ?l17 ?c17 ?k17 ?no_BadWord_word ?g_BadNumber ?lk_BadNumber ?sa_BadNumber ?xb_BadNumber ?ty_BadNumber ?kp_BadNumber ?ga_BadNumber ?gg_BadNumber ?hd_BadNumber ?ic_BadNumber ?ac_BadNumber ?mo_BadNumber ?ss_BadNumber ?sb_BadWord_BarclipsError ?sb_BadWord_ValueError ?sb_BadWord_BadNumber ?a19 ?l19 ?c19 ?k19 ?gi_MOST_DIGITS ?rd_Grid ?sg_Grid ?a21 ?i21 ?l21 ?c21 ?k21 ?a22 ?b22 ?i22 ?l22 ?c22 ?k22
    (case a1 => k_is)
    (case l1 => k_is)
    (case c1 => k_is)
    (case k1 => k_is)
    (case a2 => k_is)
    (case l2 => k_is)
    (case c2 => k_is)
    (case k2 => k_is)
    (case a3 => k_is)
    (case l3 => k_is)
    (case c3 => k_is)
    (case k3 => k_is)
    (case g_Grid => k_is)
    (case pg_Grid => k_is)
    (case hd_Grid => k_is)
    (case po_Grid => k_is)
    (case sa_Grid => k_is)
    (case mk_Grid => k_is)
    (case kp_Grid => k_is)
    (case a4 => k_is)
    (case i4 => k_is)
    (case l4 => k_is)
    (case c4 => k_is)
    (case k4 => k_is)
    (case t4 => k_is)
    (case no_Grid_step => k_is)
    (case no_Grid_offset => k_is)
    (case z_len => k_is)
    (case z_int => k_is)
    (case z_abs => k_is)
    (case z_str => k_is)
    (case z_range => k_is)
    (case z_isinstance => k_is)
    (case z_bool => k_is)
    (case z_list => k_is)
    (case z_tuple => k_is)
    (case z_sum => k_is)
    (case z_min => k_is)
    (case z_max => k_is)
    (case z_any => k_is)
    (case z_all => k_is)
    (case z_sorted => k_is)
    (case z_enumerate => k_is)
    (case z_ValueError => k_is)
    (case a5 => k_is)
    (case l5 => k_is)
    (case c5 => k_is)
    (case k5 => k_is)
    (case a6 => k_is)
    (case l6 => k_is)
    (case c6 => k_is)
    (case k6 => k_is)
    (case a7 => k_is)
    (case l7 => k_is)
    (case c7 => k_is)
    (case k7 => k_is)
    (case a8 => k_is)
    (case l8 => k_is)
    (case c8 => k_is)
    (case k8 => k_is)
    (case a9 => k_is)
    (case l9 => k_is)
    (case c9 => k_is)
    (case k9 => k_is)
    (case a10 => k_is)
    (case l10 => k_is)
    (case c10 => k_is)
    (case k10 => k_is)
    (case a11 => k_is)
    (case l11 => k_is)
    (case c11 => k_is)
    (case k11 => k_is)
    (case a12 => k_is)
    (case l12 => k_is)
    (case c12 => k_is)
    (case k12 => k_is)
    (case a13 => k_is)
    (case l13 => k_is)
    (case c13 => k_is)
    (case k13 => k_is)
    (case a14 => k_is)
    (case l14 => k_is)
    (case c14 => k_is)
    (case k14 => k_is)
    (case a15 => k_is)
    (case l15 => k_is)
    (case c15 => k_is)
    (case k15 => k_is)
    (case g_BarclipsError => k_is)
    (case rd_BarclipsError => k_is)
    (case sg_BarclipsError => k_is)
    (case vi_BarclipsError => k_is)
    (case ic_BarclipsError => k_is)
    (case ty_BarclipsError => k_is)
    (case e_hn => k_is)
    (case e_tk => k_is)
    (case i_ha => k_is)
    (case i_hm => k_is)
    (case g_BadWord => k_is)
    (case lk_BadWord => k_is)
    (case sa_BadWord => k_is)
    (case xb_BadWord => k_is)
    (case ty_BadWord => k_is)
    (case kp_BadWord => k_is)
    (case ga_BadWord => k_is)
    (case gg_BadWord => k_is)
    (case hd_BadWord => k_is)
    (case ic_BadWord => k_is)
    (case ac_BadWord => k_is)
    (case mo_BadWord => k_is)
    (case ss_BadWord => k_is)
    (case a17 => k_is)
    (case t17 => k_is)
    (case l17 => k_is)
    (case c17 => k_is)
    (case k17 => k_is)
    (case no_BadWord_word => k_is)
    (case g_BadNumber => k_is)
    (case lk_BadNumber => k_is)
    (case sa_BadNumber => k_is)
    (case xb_BadNumber => k_is)
    (case ty_BadNumber => k_is)
    (case kp_BadNumber => k_is)
    (case ga_BadNumber => k_is)
    (case gg_BadNumber => k_is)
    (case hd_BadNumber => k_is)
    (case ic_BadNumber => k_is)
    (case ac_BadNumber => k_is)
    (case mo_BadNumber => k_is)
    (case ss_BadNumber => k_is)
    (case sb_BadWord_BarclipsError => k_is)
    (case sb_BadWord_ValueError => k_is)
    (case sb_BadWord_BadNumber => k_is)
    (case a19 => k_is)
    (case l19 => k_is)
    (case c19 => k_is)
    (case k19 => k_is)
    (case gi_MOST_DIGITS => k_is)
    (case rd_Grid => k_is)
    (case sg_Grid => k_is)
    (case a21 => k_is)
    (case i21 => k_is)
    (case l21 => k_is)
    (case c21 => k_is)
    (case k21 => k_is)
    (case a22 => k_is)
    (case b22 => k_is)
    (case i22 => k_is)
    (case l22 => k_is)
    (case c22 => k_is)
    (case k22 => k_is)


