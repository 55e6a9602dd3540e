import PyProof.Rows.All
import Wide.All
import OpenK.AllK
import Wide.FinOn
import HandS.ForMost
import HandS.Wide
import HandS.Gcd
import HandS.OwnEq
import HandS.IsInst
import HandS.Defaults
import HandS.Exc
import HandS.ExcInit
import HandS.ExcField
import HandS.ExcOwn
import HandS.ClsMeth
import HandS.WordsExc
import HandS.FStr
import HandS.Style
import PyProof.LongRange
import HandS.MakeKw
import HandS.Conv
import KE.KExcIs
import HandS.TryMany
import HandS.Nested
import HandS.MakeKwOnly
import HandS.Property
import KE.KSuper
import HandS.Iter
import HandS.Text
import HandS.Strs
import PyProof.StrLawsRepr
import HandS.StrMore
import KE.KCallOwn
import HandS.SetKeys
import PySem.Challenge.RW_barclips_k21_lead_parts
set_option Elab.async false
set_option linter.all false
set_option maxRecDepth 100000
set_option maxHeartbeats 4000000
set_option exponentiation.threshold 2000
set_option Elab.async false
set_option linter.all false
set_option maxRecDepth 100000
set_option maxHeartbeats 4000000
namespace Bar
open PySem L2

/-! ### one step of a reading -/
section
variable {D : Ends} {σ σ' : L2.St} {H : Hp} {Q : VK} {t u : TS} {te ta tb tc : TE} {tt tu : TT} {g : TG} {v x y : V} {i j : Int} {n : Nat}
theorem rSeq (h : t ⟨u D, D.rt, D.bk, D.ct⟩ σ H) : tSeq t u D σ H := h
theorem rNext (h : D.nx σ H) : tNext D σ H := h
theorem rNx {f : L2.St → Hp → Prop} {r : VK} {b c : L2.St → Hp → Prop} (h : f σ H) : Ends.nx ⟨f, r, b, c⟩ σ H := h
theorem rCt {f : L2.St → Hp → Prop} {r : VK} {b c : L2.St → Hp → Prop} (h : c σ H) : Ends.ct ⟨f, r, b, c⟩ σ H := h
theorem rBk {f : L2.St → Hp → Prop} {r : VK} {b c : L2.St → Hp → Prop} (h : b σ H) : Ends.bk ⟨f, r, b, c⟩ σ H := h
theorem rRt {f : L2.St → Hp → Prop} {r : VK} {b c : L2.St → Hp → Prop} (h : r v H) : Ends.rt ⟨f, r, b, c⟩ v H := h
theorem rBreak (h : D.bk σ H) : tBreak D σ H := h
theorem rCont (h : D.ct σ H) : tCont D σ H := h
theorem rAsg (h : te σ H fun x H1 => g x σ H1 D.nx) : tAsg te g D σ H := h
theorem rDrop (h : te σ H fun _ H1 => D.nx σ H1) : tDrop te D σ H := h
theorem rRet (h : te σ H D.rt) : tRet te D σ H := h
theorem rRetN (h : D.rt .non H) : tRetN D σ H := h
theorem rIfS (h : tt σ H fun b H1 => if b = true then t D σ H1 else u D σ H1) : tIfS tt t u D σ H := h
theorem rVar (e : σ[n]? = some (some v)) (h : Q v H) : tVar n σ H Q := ⟨v, e, h⟩
theorem rC (h : Q v H) : tC v σ H Q := h
theorem rOp {r : R2} (h : ta σ H fun x H1 => tb σ H1 fun y H2 => r x y H2 Q) : tOp r ta tb σ H Q := h
theorem rUn {r : V → Hp → VK → Prop} (h : ta σ H fun x H1 => r x H1 Q) : tUn r ta σ H Q := h
theorem rI0_ {f : Int → Int → V} (h : Q (f i j) H) : rI0 f (.int i) (.int j) H Q := ⟨i, j, rfl, rfl, h⟩
theorem rI_ {C : Int → Int → Prop} {f : Int → Int → V} (c : C i j) (h : Q (f i j) H) : rI C f (.int i) (.int j) H Q := ⟨i, j, rfl, rfl, c, h⟩
theorem rU_ {f : Int → V} (h : Q (f i) H) : rU f (.int i) H Q := ⟨i, rfl, h⟩
theorem rEq_ (e : scal x y = true) (h : Q (.bl (decide (x = y))) H) : rEq x y H Q := ⟨e, h⟩
theorem rNe_ (e : scal x y = true) (h : Q (.bl (!decide (x = y))) H) : rNe x y H Q := ⟨e, h⟩
theorem rEqI (h : Q (.bl (decide (i = j))) H) : rEq (.int i) (.int j) H Q := ⟨rfl, by
  have e : decide (V.int i = V.int j) = decide (i = j) := by
    by_cases q : i = j
    · subst q; rw [decide_eq_true rfl, decide_eq_true rfl]
    · rw [decide_eq_false q, decide_eq_false (fun z => q (V.int.inj z))]
  rw [e]
  exact h⟩
theorem rNeI (h : Q (.bl (!decide (i = j))) H) : rNe (.int i) (.int j) H Q := ⟨rfl, by
  have e : decide (V.int i = V.int j) = decide (i = j) := by
    by_cases q : i = j
    · subst q; rw [decide_eq_true rfl, decide_eq_true rfl]
    · rw [decide_eq_false q, decide_eq_false (fun z => q (V.int.inj z))]
  rw [e]
  exact h⟩
theorem dBl (a b : Bool) : decide (V.bl a = V.bl b) = (a == b) := by
  cases a <;> cases b <;> decide
theorem rEqBl {a b : Bool} (h : Q (.bl (a == b)) H) : rEq (.bl a) (.bl b) H Q := ⟨rfl, by
  rw [dBl]
  exact h⟩
theorem rNeBl {a b : Bool} (h : Q (.bl (!(a == b))) H) : rNe (.bl a) (.bl b) H Q := ⟨rfl, by
  rw [dBl]
  exact h⟩
theorem rTest {Q : Bool → Hp → Prop} (h : te σ H fun x H' => ∃ k, x = .bl k ∧ Q k H') : tTest te σ H Q := h
theorem rB {Q : Bool → Hp → Prop} (h : te σ H fun x H' => ∃ k, x = .bl k ∧ Q k H') : tB te σ H Q := h
theorem rBl {b : Bool} {P : Bool → Prop} (h : P b) : ∃ k, V.bl b = .bl k ∧ P k := ⟨b, rfl, h⟩
theorem rNot {Q : Bool → Hp → Prop} (h : tt σ H fun c H1 => Q (!c) H1) : tNot tt σ H Q := h
theorem rAnd {Q : Bool → Hp → Prop} (h : tt σ H fun c H1 => if c = true then tu σ H1 Q else Q false H1) : tAnd tt tu σ H Q := h
theorem rOr {Q : Bool → Hp → Prop} (h : tt σ H fun c H1 => if c = true then Q true H1 else tu σ H1 Q) : tOr tt tu σ H Q := h
theorem rAndV (h : ta σ H fun x H1 => ∃ c, x = .bl c ∧ if c = true then tb σ H1 Q else Q (.bl false) H1) : tAndV ta tb σ H Q := h
theorem rOrV (h : ta σ H fun x H1 => ∃ c, x = .bl c ∧ if c = true then Q (.bl true) H1 else tb σ H1 Q) : tOrV ta tb σ H Q := h
theorem rNotV (h : ta σ H fun x H1 => ∃ c, x = .bl c ∧ Q (.bl (!c)) H1) : tNotV ta σ H Q := h
theorem rIfE (h : tt σ H fun c H1 => if c = true then ta σ H1 Q else tb σ H1 Q) : tIf tt ta tb σ H Q := h
theorem rCB {r : List V → Hp → VK → Prop} {t : TA} (h : t σ H fun vs H1 => r vs H1 Q) : tCB r t σ H Q := h
theorem rNil {Q : List V → Hp → Prop} (h : Q [] H) : tNil σ H Q := h
theorem rCons {t : TA} {Q : List V → Hp → Prop} (h : te σ H fun x H1 => t σ H1 fun xs H2 => Q (x :: xs) H2) : tCons te t σ H Q := h
theorem rTup {t : TA} (h : t σ H fun xs H1 => xs.length ≤ sizeLine ∧ ∀ p, H1 p = none → Q (.ref p) (upd H1 p (.tup xs))) : tTup t σ H Q := h
theorem rLst {t : TA} (h : t σ H fun xs H1 => xs.length ≤ sizeLine ∧ ∀ p, H1 p = none → Q (.ref p) (upd H1 p (.lst xs))) : tLst t σ H Q := h
theorem rNew {xs : List V} {R : Addr → Prop} (l : xs.length ≤ sizeLine) (h : ∀ p, H p = none → R p) : xs.length ≤ sizeLine ∧ ∀ p, H p = none → R p := ⟨l, h⟩
theorem rCall {sp : Sp} {dvs : List V} {E : XK} {t : TA} (h : t σ H fun vs H1 => sp (vs ++ dvs) H1 Q E) : tCall sp dvs E t σ H Q := h
theorem rMake {C : Addr} {sp : Sp} {dvs : List V} {E : XK} {t : TA} (h : t σ H fun vs H1 => ∀ x dx, H1 x = none → H1 dx = none → dx ≠ x → sp (.ref x :: (vs ++ dvs)) (upd (upd H1 dx (.own x)) x (.ins C dx [])) (fun v H2 => v = .non ∧ Q (.ref x) H2) E) : tMake C sp dvs E t σ H Q := h
theorem rIxL_ {K : PySem.W.Frag} {a : Addr} {xs : List V} (h1 : SqL K H a xs) (h2 : atI xs i = some v) (h : Q v H) : rIxL K (.ref a) (.int i) H Q := ⟨a, xs, i, v, rfl, rfl, h1, h2, h⟩
theorem rIxT_ {K : PySem.W.Frag} {a : Addr} {xs : List V} (h1 : SqT K H a xs) (h2 : atI xs i = some v) (h : Q v H) : rIxT K (.ref a) (.int i) H Q := ⟨a, xs, i, v, rfl, rfl, h1, h2, h⟩
theorem rFldS {K : PySem.W.Frag} {ta tv : TE} {f : Str} (h : tv σ H fun y H1 => ta σ H1 fun x H2 => ∃ a C dx fs, x = .ref a ∧ H2 a = some (.ins C dx fs) ∧ Cls K C ∧ NoAttr K C f ∧ fs.length < 1000 ∧ D.nx σ (upd H2 a (.ins C dx (putF f y fs)))) : sFld K ta tv f D σ H := h
theorem rFld_ {K : PySem.W.Frag} {f : Str} (h : te σ H fun x H1 => ∃ a C dx fs v, x = .ref a ∧ H1 a = some (.ins C dx fs) ∧ Cls K C ∧ NoAttr K C f ∧ fs.lookup f = some v ∧ Q v H1) : tFld K te f σ H Q := h
theorem rFldV {K : PySem.W.Frag} {f : Str} {a C dx : Addr} {fs : List (Str × V)} {R : V → Prop} (h1 : H a = some (.ins C dx fs)) (c : Cls K C) (nA : NoAttr K C f) (l : fs.lookup f = some v) (h : R v) :
    ∃ a' C dx fs v, V.ref a = .ref a' ∧ H a' = some (.ins C dx fs) ∧ Cls K C ∧ NoAttr K C f ∧ fs.lookup f = some v ∧ R v := ⟨a, C, dx, fs, v, rfl, h1, c, nA, l, h⟩
theorem gN {i : Nat} {Q : L2.St → Hp → Prop} (e : σ.set i (some v) = σ') (h : Q σ' H) : gName i v σ H Q := by
  subst e
  exact h
theorem gN0 {a : Option V} {Q : L2.St → Hp → Prop} (h : Q (some v :: σ) H) : gName 0 v (a :: σ) H Q := h
theorem gN1 {a b : Option V} {Q : L2.St → Hp → Prop} (h : Q (a :: some v :: σ) H) : gName 1 v (a :: b :: σ) H Q := h
theorem gN2 {a b c : Option V} {Q : L2.St → Hp → Prop} (h : Q (a :: b :: some v :: σ) H) : gName 2 v (a :: b :: c :: σ) H Q := h
theorem gN3 {a b c d : Option V} {Q : L2.St → Hp → Prop} (h : Q (a :: b :: c :: some v :: σ) H) : gName 3 v (a :: b :: c :: d :: σ) H Q := h
theorem gN4 {a b c d e : Option V} {Q : L2.St → Hp → Prop} (h : Q (a :: b :: c :: d :: some v :: σ) H) : gName 4 v (a :: b :: c :: d :: e :: σ) H Q := h
theorem gN5 {a b c d e f : Option V} {Q : L2.St → Hp → Prop} (h : Q (a :: b :: c :: d :: e :: some v :: σ) H) : gName 5 v (a :: b :: c :: d :: e :: f :: σ) H Q := h
theorem gN6 {a b c d e f k : Option V} {Q : L2.St → Hp → Prop} (h : Q (a :: b :: c :: d :: e :: f :: some v :: σ) H) : gName 6 v (a :: b :: c :: d :: e :: f :: k :: σ) H Q := h
theorem gN7 {a b c d e f k l : Option V} {Q : L2.St → Hp → Prop} (h : Q (a :: b :: c :: d :: e :: f :: k :: some v :: σ) H) : gName 7 v (a :: b :: c :: d :: e :: f :: k :: l :: σ) H Q := h
theorem gN8 {a b c d e f k l m : Option V} {Q : L2.St → Hp → Prop} (h : Q (a :: b :: c :: d :: e :: f :: k :: l :: some v :: σ) H) : gName 8 v (a :: b :: c :: d :: e :: f :: k :: l :: m :: σ) H Q := h
theorem gN9 {a b c d e f k l m o : Option V} {Q : L2.St → Hp → Prop} (h : Q (a :: b :: c :: d :: e :: f :: k :: l :: m :: some v :: σ) H) : gName 9 v (a :: b :: c :: d :: e :: f :: k :: l :: m :: o :: σ) H Q := h
theorem gN10 {a b c d e f k l m o p : Option V} {Q : L2.St → Hp → Prop} (h : Q (a :: b :: c :: d :: e :: f :: k :: l :: m :: o :: some v :: σ) H) : gName 10 v (a :: b :: c :: d :: e :: f :: k :: l :: m :: o :: p :: σ) H Q := h
theorem gN11 {a b c d e f k l m o p q : Option V} {Q : L2.St → Hp → Prop} (h : Q (a :: b :: c :: d :: e :: f :: k :: l :: m :: o :: p :: some v :: σ) H) : gName 11 v (a :: b :: c :: d :: e :: f :: k :: l :: m :: o :: p :: q :: σ) H Q := h
theorem rStart {N : List Str} {vs : List V} (e : start N vs = σ) (h : t D σ H) : t D (start N vs) H := by
  rw [e]
  exact h
theorem iteBT {A B : Prop} {b : Bool} (e : b = true) (h : A) : if b = true then A else B := by
  rw [if_pos e]
  exact h
theorem iteBF {A B : Prop} {b : Bool} (e : b = false) (h : B) : if b = true then A else B := by
  rw [e, if_neg Bool.false_ne_true]
  exact h
end

/-! ### a def that is called by its name -/
structure Fn (P : Program) (w : World) (K : PySem.W.Frag) (mg : Str → Option Value) (base : Heap) (x : Str) (ps : List Str) (dvs : List V) (k : Nat) (sp : Sp) : Prop where
  ex : ∃ (f : Addr) (fd : FuncData) (ds : List Value), mg x = some (.ref f) ∧ PySem.W.keepIn K (.ref f) = true ∧ Binds K fd ps ds ∧ Vals dvs ds ∧ FnOk P w K mg base CX0 k f fd ps sp
section
variable {X : Cx} {k : Nat} {sp : Sp} {ps : List Str} {dvs : List V} {x : Str} {p pos : Pos} {e : Expr} {es : List Expr} {t : TA}
theorem pe_fn (F : Fn X.prog X.w X.K X.mg X.base x ps dvs k sp) (hr : Room k X.A) (hg : Gl X x) (ha : PA X (e :: es) t) (hdb : (x == ("__debug__" : Str)) = false := by decide)
    (he : starEach (e :: es) X.env = (false, eval e X.env) :: starEach es X.env := by rfl) (hpl : (backTo pos (starEach es X.env)).any (·.1) = false := by rfl) : PE X (.Call (.Name x p) (e :: es) [] pos) (tCall sp dvs E0 t) := by
  obtain ⟨f, fd, ds, hm, hk, hb, hd, ok⟩ := F.ex
  exact pe_call ok hr hg hm hk hb hd pass0 ha hdb he hpl
end

/-! ### what is kept beside b -/
def Kp (b : Addr) (H H' : Hp) : Prop := ∀ a o, a ≠ b → H a = some o → H' a = some o
theorem Kp.refl {b : Addr} {H : Hp} : Kp b H H := fun _ _ _ h => h
theorem Kp.trans {b : Addr} {H H1 H2 : Hp} (h : Kp b H H1) (k : Kp b H1 H2) : Kp b H H2 := fun a o n e => k a o n (h a o n e)
theorem Kp.upd {b : Addr} {H : Hp} {o : HO} : Kp b H (upd H b o) := fun a u n e => by
  rw [upd_ne n]
  exact e
theorem Kp.new {b p : Addr} {H : Hp} {o : HO} (hp : H p = none) : Kp b H (L2.upd H p o) := fun a u n e => by
  rw [upd_ne (ne_of_none e hp)]
  exact e
theorem Kp.of_same {b : Addr} {H H' : Hp} (h : Same H H') : Kp b H H' := fun a u _ e => h a u e
theorem Kp.free {b p : Addr} {H H' : Hp} (k : Kp b H H') {o u : HO} (hb : H b = some o) (hb' : H' b = some u) (hp : H' p = none) : H p = none := by
  cases q : H p with
  | none => rfl
  | some z =>
    have n : p ≠ b := fun e => by rw [e, hb'] at hp; cases hp
    rw [k p z n q] at hp
    cases hp
theorem lkKp {b a : Addr} {H H' : Hp} {o u : HO} (k : Kp b H H') (h : H a = some o) (hb : H b = some u) (d : o ≠ u) : H' a = some o := k a o (ne_of h hb d) h
theorem lkKn {b a : Addr} {H H' : Hp} {o : HO} (k : Kp b H H') (n : a ≠ b) (h : H a = some o) : H' a = some o := k a o n h
theorem lkSm {a : Addr} {H H' : Hp} {o : HO} (k : Same H H') (h : H a = some o) : H' a = some o := k a o h
theorem sqSame {K : PySem.W.Frag} {a : Addr} {xs : List V} {H H' : Hp} (k : Same H H') (h : SqL K H a xs) : SqL K H' a xs := k.seq h
theorem Kp.trans' {b : Addr} {H H1 H2 : Hp} (h : Same H H1) (k : Kp b H1 H2) : Kp b H H2 := fun a o n e => k a o n (h a o e)
theorem sqKf {K : PySem.W.Frag} {b a : Addr} {xs : List V} {H H' : Hp} (k : Kp b H H') (hb : H b = none) (h : SqL K H a xs) : SqL K H' a xs := by
  rcases h with (h | ⟨o, h⟩) | h
  · exact .inl (.inl (k a _ (ne_of_none h hb) h))
  · exact .inl (.inr ⟨o, k a _ (ne_of_none h hb) h⟩)
  · exact .inr h
theorem Kp.sqT {K : PySem.W.Frag} {b t : Addr} {xs ys : List V} {H H' : Hp} (k : Kp b H H') (hb : H b = some (.lst ys)) (h : SqT K H t xs) : SqT K H' t xs := by
  rcases h with (h | ⟨o, h⟩) | h
  · exact .inl (.inl (k t _ (ne_of h hb (by intro z; cases z)) h))
  · exact .inl (.inr ⟨o, k t _ (ne_of h hb (by intro z; cases z)) h⟩)
  · exact .inr h
theorem Kp.sqL {K : PySem.W.Frag} {b t : Addr} {xs : List V} {H H' : Hp} (k : Kp b H H') (n : t ≠ b) (h : SqL K H t xs) : SqL K H' t xs := by
  rcases h with (h | ⟨o, h⟩) | h
  · exact .inl (.inl (k t _ n h))
  · exact .inl (.inr ⟨o, k t _ n h⟩)
  · exact .inr h
theorem szLe {n : Nat} (h : n ≤ 1000) : n ≤ sizeLine := Nat.le_trans h (by decide)
theorem szLt {n : Nat} (h : n < 1000) : n < sizeLine := Nat.lt_of_lt_of_le h (by decide)
def Kp2 (b l : Addr) (H H' : Hp) : Prop := ∀ a o, a ≠ b → a ≠ l → H a = some o → H' a = some o
theorem Kp2.refl {b l : Addr} {H : Hp} : Kp2 b l H H := fun _ _ _ _ h => h
theorem Kp2.kp {b l : Addr} {H H1 H2 : Hp} (k : Kp2 b l H H1) (h : Kp b H1 H2) : Kp2 b l H H2 := fun a o n m e => h a o n (k a o n m e)
theorem Kp2.set {b l : Addr} {H H1 : Hp} {u : HO} (k : Kp2 b l H H1) : Kp2 b l H (L2.upd H1 l u) := fun a o n m e => by
  rw [upd_ne m]
  exact k a o n m e
theorem freeNew {p q : Addr} {H : Hp} {o : HO} (h : L2.upd H q o p = none) : H p = none := by
  by_cases e : p = q
  · subst e
    rw [upd_same] at h
    cases h
  · rwa [upd_ne e] at h
theorem lkNew {p a : Addr} {H : Hp} {o u : HO} (hp : H p = none) (h : H a = some u) : L2.upd H p o a = some u := by
  rw [upd_ne (ne_of_none h hp)]
  exact h
theorem lkNe {p a : Addr} {H : Hp} {o u : HO} (n : a ≠ p) (h : H a = some u) : L2.upd H p o a = some u := by
  rw [upd_ne n]
  exact h

/-! ### powers of great ints -/
def CPowW (i j : Int) : Prop := 0 ≤ j ∧ (Builtin.Int.intBits i : Int) * j ≤ 2 ^ 27
theorem op_powW {X : Cx} : OpR X (binaryOp .Pow) (rI CPowW fun i j => .int (i ^ j.toNat)) := opI fun _ _ _ _ _ _ _ hc q => PyProof.Rows.pow_int hc.1 hc.2 q
theorem powW_ok {i j : Int} (n : Nat) (h0 : 0 ≤ j) (h : i.natAbs < 2 ^ n) (hb : (n : Int) * j ≤ 2 ^ 27) : CPowW i j := by
  refine ⟨h0, Int.le_trans (Int.mul_le_mul_of_nonneg_right ?_ h0) hb⟩
  have := PyProof.Rows.intBits_le h
  omega

/-! ### own operators -/
structure Own (K : PySem.W.Frag) (C : Addr) (m : Str) (f : Addr) : Prop where
  find : PySem.W.findIn K (.ref C) m = some (some (.ref f))
  fn : PySem.W.isFn K (.ref f) = true
/-- x in o, by an own __contains__ that gives a truth value -/
def rOwnIn (C : Addr) (sp : Sp) : R2 := fun x y H Q => ∃ a dx fs, y = .ref a ∧ H a = some (.ins C dx fs) ∧ sp [y, x] H (fun v H' => ∃ c, v = .bl c ∧ Q (.bl c) H') E0
section
variable {X : Cx} {C f : Addr} {fd : FuncData} {ps : List Str} {k : Nat} {sp : Sp}
theorem op_in_own (O : Own X.K C "__contains__" f) (F : FnOk X.prog X.w X.K X.mg X.base CX0 k f fd ps sp) (hr : Room k X.A) (hb : Binds X.K fd ps []) : OpR X (compareOp .In) (rOwnIn C sp) := by
  intro pins s σ H x y v u Q I rx ry h
  obtain ⟨a, dx, fs, rfl, ea, q⟩ := h
  obtain rfl : u = Value.ref a := ry
  obtain ⟨mA, O', _⟩ := ins_get I.hok ea
  obtain ⟨od, J, _⟩ := O'.look
  obtain ⟨m, Fr⟩ := I.fr
  refine PySem.W.in_K Fr I.mod.kin J O.find O.fn ?_
  refine thn (run_fn (us := [.ref a, v]) (vs := [.ref a, x]) F hr hb .nil pass0 I (.cons rfl (.cons rx .nil)) q) fun u' s' hq => ?_
  obtain ⟨v', H', I', rv, hv⟩ := hq
  obtain ⟨b, hb, q'⟩ := hv
  subst hb
  obtain rfl : u' = Value.bool b := rv
  exact wpAny_truthy_bool ⟨.bl b, H', I', rfl, q'⟩
end

/-! ### an own class that is called, a method that is called -/
structure Made (P : Program) (w : World) (K : PySem.W.Frag) (mg : Str → Option Value) (base : Heap) (x : Str) (C : Addr) (ps : List Str) (dvs : List V) (k : Nat) (sp : Sp) : Prop where
  ex : ∃ (f : Addr) (fd : FuncData) (ds : List Value), mg x = some (.ref C) ∧ Mk K C f ∧ Binds K fd ps ds ∧ Vals dvs ds ∧ FnOk P w K mg base CX0 k f fd ps sp
structure Mth (P : Program) (w : World) (K : PySem.W.Frag) (mg : Str → Option Value) (base : Heap) (C : Addr) (m : Str) (ps : List Str) (dvs : List V) (k : Nat) (sp : Sp) : Prop where
  cl : Cls K C
  ex : ∃ (f : Addr) (fd : FuncData) (ds : List Value), Meth K C m f ∧ Binds K fd ps ds ∧ Vals dvs ds ∧ FnOk P w K mg base CX0 k f fd ps sp
structure Opr (P : Program) (w : World) (K : PySem.W.Frag) (mg : Str → Option Value) (base : Heap) (C : Addr) (m : Str) (ps : List Str) (k : Nat) (sp : Sp) : Prop where
  ex : ∃ (f : Addr) (fd : FuncData), Own K C m f ∧ Binds K fd ps [] ∧ FnOk P w K mg base CX0 k f fd ps sp
section
variable {X : Cx} {k : Nat} {sp : Sp} {ps : List Str} {dvs : List V} {C : Addr} {x m : Str} {p pos apos : Pos} {e o : Expr} {es : List Expr} {t : TA} {ta : TE}
theorem pe_mk (F : Made X.prog X.w X.K X.mg X.base x C ps dvs k sp) (hr : Room (k + 1) X.A) (hg : Gl X x) (ha : PA X (e :: es) t) (hdb : (x == ("__debug__" : Str)) = false := by decide)
    (he : starEach (e :: es) X.env = (false, eval e X.env) :: starEach es X.env := by rfl) (hpl : (backTo pos (starEach es X.env)).any (·.1) = false := by rfl) : PE X (.Call (.Name x p) (e :: es) [] pos) (tMake C sp dvs E0 t) := by
  obtain ⟨f, fd, ds, hm, hk, hb, hd, ok⟩ := F.ex
  exact pe_make hk ok hr hg hm hb hd pass0 ha hdb he hpl
theorem pe_mth {pl : Sem Bool} (F : Mth X.prog X.w X.K X.mg X.base C m ps dvs k sp) (he : PE X o ta) (hr : Room k X.A) (ha : PA X (e :: es) t)
    (hst : starEach (e :: es) X.env = (false, eval e X.env) :: starEach es X.env := by rfl) (hpl : (backTo pos (starEach es X.env)).any (·.1) = false := by rfl)
    (ht : eval (.Call (.Attribute o m apos) (e :: es) [] pos) X.env = (do
      let ov ← eval o X.env
      standAt apos.atName
      let (f, first) ← holding [ov] (getMethod ov m pl)
      callWith pos f first (backTo pos (starEach (e :: es) X.env)) (backToKw pos (keywordEach [] X.env))) := by rfl) :
    PE X (.Call (.Attribute o m apos) (e :: es) [] pos) (tMeth C m sp dvs E0 ta t) := by
  obtain ⟨f, fd, ds, hm, hb, hd, ok⟩ := F.ex
  exact pe_meth he F.cl hm ok hr hb hd pass0 ha hst hpl ht
theorem op_in (F : Opr X.prog X.w X.K X.mg X.base C "__contains__" ps k sp) (hr : Room k X.A) : OpR X (compareOp .In) (rOwnIn C sp) := by
  obtain ⟨f, fd, O, hb, ok⟩ := F.ex
  exact op_in_own O ok hr hb
end
theorem rMeth {C : Addr} {m : Str} {sp : Sp} {dvs : List V} {E : XK} {ta : TE} {t : TA} {σ : L2.St} {H : Hp} {Q : VK} (h : ta σ H fun x H1 => ∃ a dx fs, x = .ref a ∧ H1 a = some (.ins C dx fs) ∧ fs.lookup m = none ∧ t σ H1 fun vs H2 => sp (x :: (vs ++ dvs)) H2 Q E) :
  tMeth C m sp dvs E ta t σ H Q := h
theorem lkMut {p a : Addr} {H : Hp} {o u o' : HO} (h : H a = some u) (hp : H p = some o') (d : u ≠ o') : L2.upd H p o a = some u := lkNe (ne_of h hp d) h
def rInt : List V → Hp → VK → Prop := fun xs H Q => (∃ i, xs = [.int i] ∧ Q (.int i) H) ∨ ∃ k : Bool, xs = [.bl k] ∧ Q (.int (if k then 1 else 0)) H
theorem c_int {X : Cx} : CallR X (.type "int") rInt := call_int1
theorem rInt_ {i : Int} {H : Hp} {Q : VK} (h : Q (.int i) H) : rInt [.int i] H Q := Or.inl ⟨i, rfl, h⟩
def rAbs : List V → Hp → VK → Prop := fun xs H Q => ∃ i, xs = [.int i] ∧ Q (.int (if i < 0 then -i else i)) H
theorem c_abs {X : Cx} : CallR X (.builtin "abs") rAbs := call_abs
theorem rAbs_ {i : Int} {H : Hp} {Q : VK} (h : Q (.int (if i < 0 then -i else i)) H) : rAbs [.int i] H Q := ⟨i, rfl, h⟩
def rStr : List V → Hp → VK → Prop := fun xs H Q => ∃ i : Int, xs = [.int i] ∧ i.natAbs.log2 < 1920 ∧ Q (.str (toString i)) H
theorem c_str {X : Cx} : CallR X (.type "str") rStr := call_str_int
theorem rStr_ {i : Int} {H : Hp} {Q : VK} (l : i.natAbs.log2 < 1920) (h : Q (.str (toString i)) H) : rStr [.int i] H Q := ⟨i, rfl, l, h⟩
def rLenStr : List V → Hp → VK → Prop := fun xs H Q => ∃ z : Str, xs = [.str z] ∧ z.length ≤ sizeLine ∧ Q (.int z.length) H
theorem c_lenStr {X : Cx} : CallR X (.builtin "len") rLenStr := call_len_str
theorem rLenStr_ {z : Str} {H : Hp} {Q : VK} (l : z.length ≤ sizeLine) (h : Q (.int z.length) H) : rLenStr [.str z] H Q := ⟨z, rfl, l, h⟩
def rLen (K : PySem.W.Frag) : List V → Hp → VK → Prop := fun xs H Q => ∃ p ys, xs = [.ref p] ∧ (SqL K H p ys ∨ SqT K H p ys) ∧ Q (.int ys.length) H
theorem c_len {X : Cx} : CallR X (.builtin "len") (rLen X.K) := call_len_seq
theorem rLenL {K : PySem.W.Frag} {a : Addr} {ys : List V} {H : Hp} {Q : VK} (h1 : SqL K H a ys) (h : Q (.int ys.length) H) : rLen K [.ref a] H Q := ⟨a, ys, rfl, Or.inl h1, h⟩
theorem rLenT {K : PySem.W.Frag} {a : Addr} {ys : List V} {H : Hp} {Q : VK} (h1 : SqT K H a ys) (h : Q (.int ys.length) H) : rLen K [.ref a] H Q := ⟨a, ys, rfl, Or.inr h1, h⟩
theorem rSub {to ti : TE} {t : TSet} {v : V} {σ : L2.St} {H : Hp} {Q : L2.St → Hp → Prop} (h : to σ H fun o H1 => ti σ H1 fun i H2 => t o i v H2 fun H3 => Q σ H3) : gSub to ti t v σ H Q := h
theorem rSetL_ {a : Addr} {xs : List V} {k : Int} {j : Nat} {v : V} {H : Hp} {Q : Hp → Prop} (h1 : H a = some (.lst xs)) (h2 : ixN xs.length k = some j) (h : Q (upd H a (.lst (xs.set j v)))) : rSetL (.ref a) (.int k) v H Q := ⟨a, xs, k, j, rfl, rfl, h1, h2, h⟩
theorem rAppend_ {a : Addr} {xs : List V} {y : V} {H : Hp} {Q : VK} (h1 : H a = some (.lst xs)) (l : xs.length < sizeLine) (h : Q .non (upd H a (.lst (xs ++ [y])))) : rAppend (.ref a) [y] H Q := ⟨a, xs, y, rfl, rfl, h1, l, h⟩
theorem rBM {K : PySem.W.Frag} {T : String} {r : V → List V → Hp → VK → Prop} {to : TE} {t : TA} {σ : L2.St} {H : Hp} {Q : VK} (h : to σ H fun x H1 => tyV K T x H1 ∧ t σ H1 fun xs H2 => r x xs H2 Q) : tBM K T r to t σ H Q := h
theorem tyL {K : PySem.W.Frag} {a : Addr} {xs : List V} {H : Hp} {R : Prop} (h1 : SqL K H a xs) (h : R) : tyV K "list" (.ref a) H ∧ R := ⟨Or.inl ⟨rfl, _, h1⟩, h⟩
theorem sqW (x : Int) {m : Int} (h0 : 0 < m) (h : m ≤ 2147483647) : CMulW (x % m) (x % m) := by
  have h1 := Int.emod_nonneg x (Int.ne_of_gt h0)
  have h2 := Int.emod_lt_of_pos x h0
  have h3 : (x % m).natAbs < 2 ^ 31 := by omega
  exact wide_mul h3 h3 (by decide) (by decide) (by decide)
theorem rSl {r : V → Option Int → Option Int → Hp → VK → Prop} {te : TE} {tl th : TO} {σ : L2.St} {H : Hp} {Q : VK} (h : te σ H fun x H1 => tl σ H1 fun l H2 => th σ H2 fun u H3 => r x l u H3 Q) : tSl r te tl th σ H Q := h
theorem rNoPart {σ : L2.St} {H : Hp} {Q : Option Int → Hp → Prop} (h : Q none H) : tNoPart σ H Q := h
theorem rPart {t : TE} {σ : L2.St} {H : Hp} {Q : Option Int → Hp → Prop} (h : t σ H fun x H1 => ∃ i, x = .int i ∧ Q (some i) H1) : tPart t σ H Q := h
theorem rInI {i : Int} {R : Int → Prop} (h : R i) : ∃ j, V.int i = .int j ∧ R j := ⟨i, rfl, h⟩
theorem rSlL_ {K : PySem.W.Frag} {a : Addr} {xs : List V} {lo hi : Option Int} {H : Hp} {Q : VK} (h1 : SqL K H a xs) (h : ∀ p, H p = none → Q (.ref p) (upd H p (.lst (cutV xs lo hi)))) : rSlL K (.ref a) lo hi H Q := ⟨a, xs, rfl, h1, h⟩
theorem cut_mem {xs : List V} {lo hi : Option Int} {v : V} (h : v ∈ cutV xs lo hi) : v ∈ xs := List.mem_of_mem_drop (List.mem_of_mem_take h)
theorem cut_int {ns : List Int} {lo hi : Option Int} {i : Nat} {v : V} (h : (cutV (ns.map V.int) lo hi)[i]? = some v) : ∃ u, v = .int u := by
  have h1 := cut_mem (List.mem_of_getElem? h)
  obtain ⟨u, _, e⟩ := List.mem_map.mp h1
  exact ⟨u, e.symm⟩
theorem at_map {ns : List Int} {j : Nat} (h : j < ns.length) : atI (ns.map V.int) (j : Int) = some (.int ns[j]) := atI_nat (by
  rw [List.getElem?_map, List.getElem?_eq_getElem h]
  rfl)
/-! ### loops -/
section
variable {σ : L2.St} {H : Hp} {D : Ends} {g : TG} {tb : TS} {K : PySem.W.Frag}
theorem rFor {wi : TI} (h : wi σ H fun J H1 => ∃ W : Nat → Nat → L2.St → Hp → Prop, (∃ m, W 0 m σ H1) ∧ ∀ i m σ H, W i m σ H →
  (J.stop i H ∧ D.nx σ H) ∨ (J.go i H ∧ ∃ N : L2.St → Hp → Prop, (∀ σ' H', N σ' H' → ∃ m', m' < m ∧ W (i + 1) m' σ' H') ∧ ∀ x H', J.yld i H x H' → g x σ H' fun σ2 H2 => tb { D with nx := N, ct := N, bk := D.nx } σ2 H2)) : tFor wi g tb D σ H := h
theorem rRng1 {ta : TA} {R : It → Hp → Prop} (h : ta σ H fun vs H1 => ∃ j : Int, vs = [.int j] ∧ -(2 ^ 62) ≤ j ∧ j < 2 ^ 62 ∧ R (Itr 0 j.toNat) H1) : iRng1 ta σ H R := h
theorem rRng2 {ta : TA} {R : It → Hp → Prop} (h : ta σ H fun vs H1 => ∃ i j : Int, vs = [.int i, .int j] ∧ (-(2 ^ 62) ≤ i ∧ i < 2 ^ 62 ∧ -(2 ^ 62) ≤ j ∧ j < 2 ^ 62) ∧ R (Itr i (j - i).toNat) H1) : iRng2 ta σ H R := h
theorem rLst1 {tl : TE} {R : It → Hp → Prop} (h : tl σ H fun x H1 => ∃ a, x = .ref a ∧ (∃ xs, SqL K H1 a xs) ∧ R (Itl K a) H1) : iList K tl σ H R := h
theorem rTup1 {tl : TE} {R : It → Hp → Prop} (h : tl σ H fun x H1 => ∃ a, x = .ref a ∧ (∃ xs, SqT K H1 a xs) ∧ R (Itt K a) H1) : iTup K tl σ H R := h
/-- a loop over range(j), the turn's number an int -/
theorem forR {j : Int} (n : Nat) (e : j.toNat = n) (Pv : Nat → L2.St → Hp → Prop) (b : -(2 ^ 62) ≤ j ∧ j < 2 ^ 62) (h0 : Pv 0 σ H)
    (hs : ∀ i σ H, i < n → Pv i σ H → g (.int (i : Int)) σ H fun σ2 H2 => tb ⟨Pv (i + 1), D.rt, D.nx, Pv (i + 1)⟩ σ2 H2) (hd : ∀ σ H, Pv n σ H → D.nx σ H) :
    ∃ j', [V.int j] = [V.int j'] ∧ -(2 ^ 62) ≤ j' ∧ j' < 2 ^ 62 ∧ ∃ W : Nat → Nat → L2.St → Hp → Prop, (∃ m, W 0 m σ H) ∧ ∀ i m σ H, W i m σ H →
      ((Itr 0 j'.toNat).stop i H ∧ D.nx σ H) ∨ ((Itr 0 j'.toNat).go i H ∧ ∃ N : L2.St → Hp → Prop, (∀ σ' H', N σ' H' → ∃ m', m' < m ∧ W (i + 1) m' σ' H') ∧ ∀ x H', (Itr 0 j'.toNat).yld i H x H' → g x σ H' fun σ2 H2 => tb { D with nx := N, ct := N, bk := D.nx } σ2 H2) := by
  subst e
  refine ⟨j, rfl, b.1, b.2, for_range (lo := 0) (n := j.toNat) Pv h0 (fun i σ H hi p => ?_) hd⟩
  have e : (0 : Int) + (i : Int) = (i : Int) := Int.zero_add _
  rw [e]
  exact hs i σ H hi p
/-- a loop over a list that stands still -/
theorem forL {a : Addr} {xs : List V} (Pv : Nat → L2.St → Hp → Prop) (hx : SqL K H a xs) (h0 : Pv 0 σ H) (hl : ∀ i σ H, i ≤ xs.length → Pv i σ H → SqL K H a xs)
    (hs : ∀ i x σ H, xs[i]? = some x → Pv i σ H → g x σ H fun σ2 H2 => tb ⟨Pv (i + 1), D.rt, D.nx, Pv (i + 1)⟩ σ2 H2) (hd : ∀ σ H, Pv xs.length σ H → D.nx σ H) :
    ∃ a', V.ref a = V.ref a' ∧ (∃ xs, SqL K H a' xs) ∧ ∃ W : Nat → Nat → L2.St → Hp → Prop, (∃ m, W 0 m σ H) ∧ ∀ i m σ H, W i m σ H →
      ((Itl K a').stop i H ∧ D.nx σ H) ∨ ((Itl K a').go i H ∧ ∃ N : L2.St → Hp → Prop, (∀ σ' H', N σ' H' → ∃ m', m' < m ∧ W (i + 1) m' σ' H') ∧ ∀ x H', (Itl K a').yld i H x H' → g x σ H' fun σ2 H2 => tb { D with nx := N, ct := N, bk := D.nx } σ2 H2) :=
  ⟨a, rfl, ⟨xs, hx⟩, for_list Pv h0 hl hs hd⟩
theorem forT {a : Addr} {xs : List V} (Pv : Nat → L2.St → Hp → Prop) (hx : SqT K H a xs) (h0 : Pv 0 σ H) (hl : ∀ i σ H, i ≤ xs.length → Pv i σ H → SqT K H a xs)
    (hs : ∀ i x σ H, xs[i]? = some x → Pv i σ H → g x σ H fun σ2 H2 => tb ⟨Pv (i + 1), D.rt, D.nx, Pv (i + 1)⟩ σ2 H2) (hd : ∀ σ H, Pv xs.length σ H → D.nx σ H) :
    ∃ a', V.ref a = V.ref a' ∧ (∃ xs, SqT K H a' xs) ∧ ∃ W : Nat → Nat → L2.St → Hp → Prop, (∃ m, W 0 m σ H) ∧ ∀ i m σ H, W i m σ H →
      ((Itt K a').stop i H ∧ D.nx σ H) ∨ ((Itt K a').go i H ∧ ∃ N : L2.St → Hp → Prop, (∀ σ' H', N σ' H' → ∃ m', m' < m ∧ W (i + 1) m' σ' H') ∧ ∀ x H', (Itt K a').yld i H x H' → g x σ H' fun σ2 H2 => tb { D with nx := N, ct := N, bk := D.nx } σ2 H2) :=
  ⟨a, rfl, ⟨xs, hx⟩, for_tup Pv h0 hl hs hd⟩
end
/-! ### isinstance, is None -/
theorem kit_int_int : kitB "int" "int" = some true := by decide +kernel
theorem kit_int_bool : kitB "int" "bool" = some false := by decide +kernel
theorem kit_int_str : kitB "int" "str" = some false := by decide +kernel
theorem kit_int_list : kitB "int" "list" = some false := by decide +kernel
theorem kit_int_tuple : kitB "int" "tuple" = some false := by decide +kernel
theorem kit_bool_int : kitB "bool" "int" = some true := by decide +kernel
theorem kit_bool_bool : kitB "bool" "bool" = some true := by decide +kernel
theorem kit_bool_str : kitB "bool" "str" = some false := by decide +kernel
theorem kit_bool_list : kitB "bool" "list" = some false := by decide +kernel
theorem kit_bool_tuple : kitB "bool" "tuple" = some false := by decide +kernel
theorem kit_str_int : kitB "str" "int" = some false := by decide +kernel
theorem kit_str_bool : kitB "str" "bool" = some false := by decide +kernel
theorem kit_str_str : kitB "str" "str" = some true := by decide +kernel
theorem kit_str_list : kitB "str" "list" = some false := by decide +kernel
theorem kit_str_tuple : kitB "str" "tuple" = some false := by decide +kernel
theorem kit_list_int : kitB "list" "int" = some false := by decide +kernel
theorem kit_list_bool : kitB "list" "bool" = some false := by decide +kernel
theorem kit_list_str : kitB "list" "str" = some false := by decide +kernel
theorem kit_list_list : kitB "list" "list" = some true := by decide +kernel
theorem kit_list_tuple : kitB "list" "tuple" = some false := by decide +kernel
theorem kit_tuple_int : kitB "tuple" "int" = some false := by decide +kernel
theorem kit_tuple_bool : kitB "tuple" "bool" = some false := by decide +kernel
theorem kit_tuple_str : kitB "tuple" "str" = some false := by decide +kernel
theorem kit_tuple_list : kitB "tuple" "list" = some false := by decide +kernel
theorem kit_tuple_tuple : kitB "tuple" "tuple" = some true := by decide +kernel
theorem kit_NoneType_int : kitB "NoneType" "int" = some false := by decide +kernel
theorem kit_NoneType_bool : kitB "NoneType" "bool" = some false := by decide +kernel
theorem kit_NoneType_str : kitB "NoneType" "str" = some false := by decide +kernel
theorem kit_NoneType_list : kitB "NoneType" "list" = some false := by decide +kernel
theorem kit_NoneType_tuple : kitB "NoneType" "tuple" = some false := by decide +kernel
section
variable {X : Cx} {K : PySem.W.Frag} {H : Hp} {Q : VK} {b : String} {r : Bool} {σ : L2.St}
theorem isiTy {x : V} {a : String} (t : TyX K H x (.type a)) (h : kitB a b = some r) (q : Q (.bl r) H) : rIsi K [x, .ty b] H Q := ⟨x, .ty b, _, _, r, rfl, .ty b, t, kit_ty h, q⟩
theorem isiI {i : Int} (h : kitB "int" b = some r) (q : Q (.bl r) H) : rIsi K [.int i, .ty b] H Q := isiTy (.base (.int i)) h q
theorem isiB {i : Bool} (h : kitB "bool" b = some r) (q : Q (.bl r) H) : rIsi K [.bl i, .ty b] H Q := isiTy (.base (.bl i)) h q
theorem isiS {i : Str} (h : kitB "str" b = some r) (q : Q (.bl r) H) : rIsi K [.str i, .ty b] H Q := isiTy (.base (.str i)) h q
theorem isiN (h : kitB "NoneType" b = some r) (q : Q (.bl r) H) : rIsi K [.non, .ty b] H Q := isiTy (.base .non) h q
theorem isiL {a : Addr} {xs : List V} (e : H a = some (.lst xs)) (h : kitB "list" b = some r) (q : Q (.bl r) H) : rIsi K [.ref a, .ty b] H Q := isiTy (.base (.lst e)) h q
theorem isiT {a : Addr} {xs : List V} (e : H a = some (.tup xs)) (h : kitB "tuple" b = some r) (q : Q (.bl r) H) : rIsi K [.ref a, .ty b] H Q := isiTy (.base (.tup e)) h q
def rIsNone : R2 := fun x y H Q => y = .non ∧ Q (.bl (decide (x = .non))) H
def rNotNone : R2 := fun x y H Q => y = .non ∧ Q (.bl (!decide (x = .non))) H
theorem o_isN : OpR X (compareOp .Is) rIsNone := op_isN
theorem o_notN : OpR X (compareOp .IsNot) rNotNone := op_notN
theorem rIsN_n (q : Q (.bl true) H) : rIsNone .non .non H Q := ⟨rfl, q⟩
theorem rIsN_i {i : Int} (q : Q (.bl false) H) : rIsNone (.int i) .non H Q := ⟨rfl, q⟩
theorem rIsN_b {i : Bool} (q : Q (.bl false) H) : rIsNone (.bl i) .non H Q := ⟨rfl, q⟩
theorem rIsN_s {i : Str} (q : Q (.bl false) H) : rIsNone (.str i) .non H Q := ⟨rfl, q⟩
theorem rIsN_r {i : Addr} (q : Q (.bl false) H) : rIsNone (.ref i) .non H Q := ⟨rfl, q⟩
theorem rNoN_n (q : Q (.bl false) H) : rNotNone .non .non H Q := ⟨rfl, q⟩
theorem rNoN_i {i : Int} (q : Q (.bl true) H) : rNotNone (.int i) .non H Q := ⟨rfl, q⟩
theorem rNoN_b {i : Bool} (q : Q (.bl true) H) : rNotNone (.bl i) .non H Q := ⟨rfl, q⟩
theorem rNoN_s {i : Str} (q : Q (.bl true) H) : rNotNone (.str i) .non H Q := ⟨rfl, q⟩
theorem rNoN_r {i : Addr} (q : Q (.bl true) H) : rNotNone (.ref i) .non H Q := ⟨rfl, q⟩
theorem rIxSL {a : Addr} {xs : List V} {i : Int} {v : V} (h1 : H a = some (.lst xs)) (h2 : atI xs i = some v) (h : Q v H) : rIx K (.ref a) (.int i) H Q := .inl ⟨a, xs, i, v, rfl, rfl, SqL.of h1, h2, h⟩
theorem rIxST {a : Addr} {xs : List V} {i : Int} {v : V} (h1 : H a = some (.tup xs)) (h2 : atI xs i = some v) (h : Q v H) : rIx K (.ref a) (.int i) H Q := .inr (.inl ⟨a, xs, i, v, rfl, rfl, SqT.of h1, h2, h⟩)
theorem rEqS {s : Str} (q : Q (.bl true) H) : rEq (.str s) (.str s) H Q := ⟨rfl, by
  rw [decide_eq_true rfl]
  exact q⟩
theorem fn_false {P : Program} {w : World} {mg : Str → Option Value} {base : Heap} {k : Nat} {f : Addr} {fd : FuncData} {ps : List Str} {sp : Sp} (h : ∀ vs H Q E, ¬ sp vs H Q E) : FnOk P w K mg base CX0 k f fd ps sp :=
  ⟨fun _ _ _ _ q => (h _ _ _ _ q).elim, fun _ _ _ _ _ _ _ _ _ _ _ _ _ q => (h _ _ _ _ q).elim⟩
end
/-! ### the steps that ask nothing, found by their form -/
class Rd (p : Prop) (q : outParam Prop) : Prop where
  imp : q → p
theorem rd {p q : Prop} [h : Rd p q] (x : q) : p := h.imp x
/-- what stands in a slot -/
class At (σ : L2.St) (i : Nat) (v : outParam V) : Prop where
  eq : σ[i]? = some (some v)
instance {v : V} {σ : L2.St} : At (some v :: σ) 0 v := ⟨rfl⟩
instance {v : V} {a : Option V} {σ : L2.St} {i : Nat} [h : At σ i v] : At (a :: σ) (i + 1) v := ⟨h.eq⟩
class Put (σ : L2.St) (i : Nat) (v : V) (τ : outParam L2.St) : Prop where
  eq : σ.set i (some v) = τ
instance {v : V} {a : Option V} {σ : L2.St} : Put (a :: σ) 0 v (some v :: σ) := ⟨rfl⟩
instance {v : V} {a : Option V} {σ τ : L2.St} {i : Nat} [h : Put σ i v τ] : Put (a :: σ) (i + 1) v (a :: τ) := ⟨congrArg (List.cons a) h.eq⟩
section
variable {D : Ends} {σ τ : L2.St} {H : Hp} {Q : VK} {QB : Bool → Hp → Prop} {QL : List V → Hp → Prop} {QS : L2.St → Hp → Prop} {QI : It → Hp → Prop} {QO : Option Int → Hp → Prop} {t u : TS} {te ta tb tc : TE} {tt tu : TT} {g : TG} {v x y : V} {i j : Int} {n : Nat} {K : PySem.W.Frag}
instance : Rd (tSeq t u D σ H) (t ⟨u D, D.rt, D.bk, D.ct⟩ σ H) := ⟨fun h => h⟩
instance : Rd (tNext D σ H) (D.nx σ H) := ⟨fun h => h⟩
instance : Rd (tBreak D σ H) (D.bk σ H) := ⟨fun h => h⟩
instance : Rd (tCont D σ H) (D.ct σ H) := ⟨fun h => h⟩
instance {f b c : L2.St → Hp → Prop} {r : VK} : Rd (Ends.nx ⟨f, r, b, c⟩ σ H) (f σ H) := ⟨fun h => h⟩
instance {f b c : L2.St → Hp → Prop} {r : VK} : Rd (Ends.ct ⟨f, r, b, c⟩ σ H) (c σ H) := ⟨fun h => h⟩
instance {f b c : L2.St → Hp → Prop} {r : VK} : Rd (Ends.bk ⟨f, r, b, c⟩ σ H) (b σ H) := ⟨fun h => h⟩
instance {f b c : L2.St → Hp → Prop} {r : VK} : Rd (Ends.rt ⟨f, r, b, c⟩ v H) (r v H) := ⟨fun h => h⟩
instance : Rd (tAsg te g D σ H) (te σ H fun x H1 => g x σ H1 D.nx) := ⟨fun h => h⟩
instance : Rd (tDrop te D σ H) (te σ H fun _ H1 => D.nx σ H1) := ⟨fun h => h⟩
instance : Rd (tRet te D σ H) (te σ H D.rt) := ⟨fun h => h⟩
instance : Rd (tRetN D σ H) (D.rt .non H) := ⟨fun h => h⟩
instance : Rd (tIfS tt t u D σ H) (tt σ H fun b H1 => if b = true then t D σ H1 else u D σ H1) := ⟨fun h => h⟩
instance [h : At σ n v] : Rd (tVar n σ H Q) (Q v H) := ⟨fun q => ⟨v, h.eq, q⟩⟩
instance [h : Put σ n v τ] : Rd (gName n v σ H QS) (QS τ H) := ⟨fun q => by rw [← h.eq] at q; exact q⟩
instance : Rd (tC v σ H Q) (Q v H) := ⟨fun h => h⟩
instance {r : R2} : Rd (tOp r ta tb σ H Q) (ta σ H fun x H1 => tb σ H1 fun y H2 => r x y H2 Q) := ⟨fun h => h⟩
instance {r : V → Hp → VK → Prop} : Rd (tUn r ta σ H Q) (ta σ H fun x H1 => r x H1 Q) := ⟨fun h => h⟩
instance {f : Int → Int → V} : Rd (rI0 f (.int i) (.int j) H Q) (Q (f i j) H) := ⟨rI0_⟩
instance {f : Int → V} : Rd (rU f (.int i) H Q) (Q (f i) H) := ⟨rU_⟩
instance : Rd (rEq (.int i) (.int j) H Q) (Q (.bl (decide (i = j))) H) := ⟨rEqI⟩
instance : Rd (rNe (.int i) (.int j) H Q) (Q (.bl (!decide (i = j))) H) := ⟨rNeI⟩
instance {a b : Bool} : Rd (rEq (.bl a) (.bl b) H Q) (Q (.bl (a == b)) H) := ⟨rEqBl⟩
instance {a b : Bool} : Rd (rNe (.bl a) (.bl b) H Q) (Q (.bl (!(a == b))) H) := ⟨rNeBl⟩
instance {s : Str} : Rd (rEq (.str s) (.str s) H Q) (Q (.bl true) H) := ⟨rEqS⟩
instance : Rd (tTest te σ H QB) (te σ H fun x H' => ∃ k, x = .bl k ∧ QB k H') := ⟨fun h => h⟩
instance : Rd (tB te σ H QB) (te σ H fun x H' => ∃ k, x = .bl k ∧ QB k H') := ⟨fun h => h⟩
instance {b : Bool} {P : Bool → Prop} : Rd (∃ k, V.bl b = .bl k ∧ P k) (P b) := ⟨rBl⟩
instance {P : Int → Prop} : Rd (∃ k, V.int i = .int k ∧ P k) (P i) := ⟨rInI⟩
instance : Rd (tNot tt σ H QB) (tt σ H fun c H1 => QB (!c) H1) := ⟨fun h => h⟩
instance : Rd (tAnd tt tu σ H QB) (tt σ H fun c H1 => if c = true then tu σ H1 QB else QB false H1) := ⟨fun h => h⟩
instance : Rd (tOr tt tu σ H QB) (tt σ H fun c H1 => if c = true then QB true H1 else tu σ H1 QB) := ⟨fun h => h⟩
instance : Rd (tAndV ta tb σ H Q) (ta σ H fun x H1 => ∃ c, x = .bl c ∧ if c = true then tb σ H1 Q else Q (.bl false) H1) := ⟨fun h => h⟩
instance : Rd (tOrV ta tb σ H Q) (ta σ H fun x H1 => ∃ c, x = .bl c ∧ if c = true then Q (.bl true) H1 else tb σ H1 Q) := ⟨fun h => h⟩
instance : Rd (tNotV ta σ H Q) (ta σ H fun x H1 => ∃ c, x = .bl c ∧ Q (.bl (!c)) H1) := ⟨fun h => h⟩
instance : Rd (tIf tt ta tb σ H Q) (tt σ H fun c H1 => if c = true then ta σ H1 Q else tb σ H1 Q) := ⟨fun h => h⟩
instance {r : List V → Hp → VK → Prop} {t : TA} : Rd (tCB r t σ H Q) (t σ H fun vs H1 => r vs H1 Q) := ⟨fun h => h⟩
instance : Rd (tNil σ H QL) (QL [] H) := ⟨fun h => h⟩
instance {t : TA} : Rd (tCons te t σ H QL) (te σ H fun x H1 => t σ H1 fun xs H2 => QL (x :: xs) H2) := ⟨fun h => h⟩
instance {t : TA} : Rd (tTup t σ H Q) (t σ H fun xs H1 => xs.length ≤ sizeLine ∧ ∀ p, H1 p = none → Q (.ref p) (upd H1 p (.tup xs))) := ⟨fun h => h⟩
instance {t : TA} : Rd (tLst t σ H Q) (t σ H fun xs H1 => xs.length ≤ sizeLine ∧ ∀ p, H1 p = none → Q (.ref p) (upd H1 p (.lst xs))) := ⟨fun h => h⟩
instance {sp : Sp} {dvs : List V} {E : XK} {t : TA} : Rd (tCall sp dvs E t σ H Q) (t σ H fun vs H1 => sp (vs ++ dvs) H1 Q E) := ⟨fun h => h⟩
instance {C : Addr} {sp : Sp} {dvs : List V} {E : XK} {t : TA} : Rd (tMake C sp dvs E t σ H Q) (t σ H fun vs H1 => ∀ x dx, H1 x = none → H1 dx = none → dx ≠ x → sp (.ref x :: (vs ++ dvs)) (upd (upd H1 dx (.own x)) x (.ins C dx [])) (fun v H2 => v = .non ∧ Q (.ref x) H2) E) := ⟨fun h => h⟩
instance {C : Addr} {m : Str} {sp : Sp} {dvs : List V} {E : XK} {t : TA} : Rd (tMeth C m sp dvs E ta t σ H Q) (ta σ H fun x H1 => ∃ a dx fs, x = .ref a ∧ H1 a = some (.ins C dx fs) ∧ fs.lookup m = none ∧ t σ H1 fun vs H2 => sp (x :: (vs ++ dvs)) H2 Q E) := ⟨fun h => h⟩
instance {f : Str} : Rd (tFld K te f σ H Q) (te σ H fun x H1 => ∃ a C dx fs v, x = .ref a ∧ H1 a = some (.ins C dx fs) ∧ Cls K C ∧ NoAttr K C f ∧ fs.lookup f = some v ∧ Q v H1) := ⟨fun h => h⟩
instance {f : Str} : Rd (sFld K ta te f D σ H) (te σ H fun y H1 => ta σ H1 fun x H2 => ∃ a C dx fs, x = .ref a ∧ H2 a = some (.ins C dx fs) ∧ Cls K C ∧ NoAttr K C f ∧ fs.length < 1000 ∧ D.nx σ (upd H2 a (.ins C dx (putF f y fs)))) := ⟨fun h => h⟩
instance {r r' : R2} : Rd (tChain r r' ta tb tc σ H Q) (ta σ H fun x H1 => tb σ H1 fun y H2 => r x y H2 fun z H3 => ∃ k, z = .bl k ∧ (if k = true then tc σ H3 fun w' H4 => r' y w' H4 Q else Q (.bl false) H3)) := ⟨fun h => h⟩
instance : Rd (rInt [.int i] H Q) (Q (.int i) H) := ⟨rInt_⟩
instance : Rd (rAbs [.int i] H Q) (Q (.int (if i < 0 then -i else i)) H) := ⟨rAbs_⟩
instance {to ti : TE} {t : TSet} : Rd (gSub to ti t v σ H QS) (to σ H fun o H1 => ti σ H1 fun i H2 => t o i v H2 fun H3 => QS σ H3) := ⟨fun h => h⟩
instance {T : String} {r : V → List V → Hp → VK → Prop} {to : TE} {t : TA} : Rd (tBM K T r to t σ H Q) (to σ H fun x H1 => tyV K T x H1 ∧ t σ H1 fun xs H2 => r x xs H2 Q) := ⟨fun h => h⟩
instance {T : String} {r : V → List V → Hp → VK → Prop} {to : TE} : Rd (tBM0 K T r to σ H Q) (to σ H fun x H1 => tyV K T x H1 ∧ r x [] H1 Q) := ⟨fun h => h⟩
instance {r : V → Option Int → Option Int → Hp → VK → Prop} {tl th : TO} : Rd (tSl r te tl th σ H Q) (te σ H fun x H1 => tl σ H1 fun l H2 => th σ H2 fun u H3 => r x l u H3 Q) := ⟨fun h => h⟩
instance : Rd (tNoPart σ H QO) (QO none H) := ⟨fun h => h⟩
instance : Rd (tPart te σ H QO) (te σ H fun x H1 => ∃ i, x = .int i ∧ QO (some i) H1) := ⟨fun h => h⟩
instance {wi : TI} : Rd (tFor wi g t D σ H) (wi σ H fun J H1 => ∃ W : Nat → Nat → L2.St → Hp → Prop, (∃ m, W 0 m σ H1) ∧ ∀ i m σ H, W i m σ H →
  (J.stop i H ∧ D.nx σ H) ∨ (J.go i H ∧ ∃ N : L2.St → Hp → Prop, (∀ σ' H', N σ' H' → ∃ m', m' < m ∧ W (i + 1) m' σ' H') ∧ ∀ x H', J.yld i H x H' → g x σ H' fun σ2 H2 => t { D with nx := N, ct := N, bk := D.nx } σ2 H2)) := ⟨fun h => h⟩
instance {ta : TA} : Rd (iRng1 ta σ H QI) (ta σ H fun vs H1 => ∃ j : Int, vs = [.int j] ∧ -(2 ^ 62) ≤ j ∧ j < 2 ^ 62 ∧ QI (Itr 0 j.toNat) H1) := ⟨fun h => h⟩
instance {ta : TA} : Rd (iRng2 ta σ H QI) (ta σ H fun vs H1 => ∃ i j : Int, vs = [.int i, .int j] ∧ (-(2 ^ 62) ≤ i ∧ i < 2 ^ 62 ∧ -(2 ^ 62) ≤ j ∧ j < 2 ^ 62) ∧ QI (Itr i (j - i).toNat) H1) := ⟨fun h => h⟩
instance : Rd (iList K te σ H QI) (te σ H fun x H1 => ∃ a, x = .ref a ∧ (∃ xs, SqL K H1 a xs) ∧ QI (Itl K a) H1) := ⟨fun h => h⟩
instance : Rd (iTup K te σ H QI) (te σ H fun x H1 => ∃ a, x = .ref a ∧ (∃ xs, SqT K H1 a xs) ∧ QI (Itt K a) H1) := ⟨fun h => h⟩
instance : Rd (rIsNone .non .non H Q) (Q (.bl true) H) := ⟨rIsN_n⟩
instance : Rd (rIsNone (.int i) .non H Q) (Q (.bl false) H) := ⟨rIsN_i⟩
instance {b : Bool} : Rd (rIsNone (.bl b) .non H Q) (Q (.bl false) H) := ⟨rIsN_b⟩
instance {b : Str} : Rd (rIsNone (.str b) .non H Q) (Q (.bl false) H) := ⟨rIsN_s⟩
instance {b : Addr} : Rd (rIsNone (.ref b) .non H Q) (Q (.bl false) H) := ⟨rIsN_r⟩
instance : Rd (rNotNone .non .non H Q) (Q (.bl false) H) := ⟨rNoN_n⟩
instance : Rd (rNotNone (.int i) .non H Q) (Q (.bl true) H) := ⟨rNoN_i⟩
instance {b : Bool} : Rd (rNotNone (.bl b) .non H Q) (Q (.bl true) H) := ⟨rNoN_b⟩
instance {b : Str} : Rd (rNotNone (.str b) .non H Q) (Q (.bl true) H) := ⟨rNoN_s⟩
instance {b : Addr} : Rd (rNotNone (.ref b) .non H Q) (Q (.bl true) H) := ⟨rNoN_r⟩
instance : Rd (rIsi K [.int i, .ty "int"] H Q) (Q (.bl true) H) := ⟨isiI kit_int_int⟩
instance : Rd (rIsi K [.int i, .ty "bool"] H Q) (Q (.bl false) H) := ⟨isiI kit_int_bool⟩
instance : Rd (rIsi K [.int i, .ty "str"] H Q) (Q (.bl false) H) := ⟨isiI kit_int_str⟩
instance : Rd (rIsi K [.int i, .ty "list"] H Q) (Q (.bl false) H) := ⟨isiI kit_int_list⟩
instance : Rd (rIsi K [.int i, .ty "tuple"] H Q) (Q (.bl false) H) := ⟨isiI kit_int_tuple⟩
instance {bb : Bool} : Rd (rIsi K [.bl bb, .ty "int"] H Q) (Q (.bl true) H) := ⟨isiB kit_bool_int⟩
instance {bb : Bool} : Rd (rIsi K [.bl bb, .ty "bool"] H Q) (Q (.bl true) H) := ⟨isiB kit_bool_bool⟩
instance {bb : Bool} : Rd (rIsi K [.bl bb, .ty "str"] H Q) (Q (.bl false) H) := ⟨isiB kit_bool_str⟩
instance {bb : Bool} : Rd (rIsi K [.bl bb, .ty "list"] H Q) (Q (.bl false) H) := ⟨isiB kit_bool_list⟩
instance {bb : Bool} : Rd (rIsi K [.bl bb, .ty "tuple"] H Q) (Q (.bl false) H) := ⟨isiB kit_bool_tuple⟩
instance {ss : Str} : Rd (rIsi K [.str ss, .ty "int"] H Q) (Q (.bl false) H) := ⟨isiS kit_str_int⟩
instance {ss : Str} : Rd (rIsi K [.str ss, .ty "bool"] H Q) (Q (.bl false) H) := ⟨isiS kit_str_bool⟩
instance {ss : Str} : Rd (rIsi K [.str ss, .ty "str"] H Q) (Q (.bl true) H) := ⟨isiS kit_str_str⟩
instance {ss : Str} : Rd (rIsi K [.str ss, .ty "list"] H Q) (Q (.bl false) H) := ⟨isiS kit_str_list⟩
instance {ss : Str} : Rd (rIsi K [.str ss, .ty "tuple"] H Q) (Q (.bl false) H) := ⟨isiS kit_str_tuple⟩
instance : Rd (rIsi K [.non, .ty "int"] H Q) (Q (.bl false) H) := ⟨isiN kit_NoneType_int⟩
instance : Rd (rIsi K [.non, .ty "bool"] H Q) (Q (.bl false) H) := ⟨isiN kit_NoneType_bool⟩
instance : Rd (rIsi K [.non, .ty "str"] H Q) (Q (.bl false) H) := ⟨isiN kit_NoneType_str⟩
instance : Rd (rIsi K [.non, .ty "list"] H Q) (Q (.bl false) H) := ⟨isiN kit_NoneType_list⟩
instance : Rd (rIsi K [.non, .ty "tuple"] H Q) (Q (.bl false) H) := ⟨isiN kit_NoneType_tuple⟩
theorem iteLit : True := trivial
instance {A B : Prop} {d : Decidable ((true) = true)} : Rd (@ite Prop ((true) = true) d A B) A := ⟨fun h => by rw [if_pos (show _ from by first | rfl | (intro z; cases z))]; exact h⟩
instance {A B : Prop} {d : Decidable ((false) = true)} : Rd (@ite Prop ((false) = true) d A B) B := ⟨fun h => by rw [if_neg (show _ from by first | rfl | (intro z; cases z))]; exact h⟩
instance {A B : Prop} {d : Decidable ((!true) = true)} : Rd (@ite Prop ((!true) = true) d A B) B := ⟨fun h => by rw [if_neg (show _ from by first | rfl | (intro z; cases z))]; exact h⟩
instance {A B : Prop} {d : Decidable ((!false) = true)} : Rd (@ite Prop ((!false) = true) d A B) A := ⟨fun h => by rw [if_pos (show _ from by first | rfl | (intro z; cases z))]; exact h⟩
instance {A B : Prop} {d : Decidable ((true == true) = true)} : Rd (@ite Prop ((true == true) = true) d A B) A := ⟨fun h => by rw [if_pos (show _ from by first | rfl | (intro z; cases z))]; exact h⟩
instance {A B : Prop} {d : Decidable ((!(true == true)) = true)} : Rd (@ite Prop ((!(true == true)) = true) d A B) B := ⟨fun h => by rw [if_neg (show _ from by first | rfl | (intro z; cases z))]; exact h⟩
instance {A B : Prop} {d : Decidable ((true == false) = true)} : Rd (@ite Prop ((true == false) = true) d A B) B := ⟨fun h => by rw [if_neg (show _ from by first | rfl | (intro z; cases z))]; exact h⟩
instance {A B : Prop} {d : Decidable ((!(true == false)) = true)} : Rd (@ite Prop ((!(true == false)) = true) d A B) A := ⟨fun h => by rw [if_pos (show _ from by first | rfl | (intro z; cases z))]; exact h⟩
instance {A B : Prop} {d : Decidable ((false == true) = true)} : Rd (@ite Prop ((false == true) = true) d A B) B := ⟨fun h => by rw [if_neg (show _ from by first | rfl | (intro z; cases z))]; exact h⟩
instance {A B : Prop} {d : Decidable ((!(false == true)) = true)} : Rd (@ite Prop ((!(false == true)) = true) d A B) A := ⟨fun h => by rw [if_pos (show _ from by first | rfl | (intro z; cases z))]; exact h⟩
instance {A B : Prop} {d : Decidable ((false == false) = true)} : Rd (@ite Prop ((false == false) = true) d A B) A := ⟨fun h => by rw [if_pos (show _ from by first | rfl | (intro z; cases z))]; exact h⟩
instance {A B : Prop} {d : Decidable ((!(false == false)) = true)} : Rd (@ite Prop ((!(false == false)) = true) d A B) B := ⟨fun h => by rw [if_neg (show _ from by first | rfl | (intro z; cases z))]; exact h⟩
end
end Bar

namespace Bar
open PySem PySem.W PySem.Calls PyProof.Rows
section
variable {prog : Program} {w : World} {A : Around} {E : Value → Shared → Prop} {s : Shared} {i : Int} {t : Tok} {x : Addr} {ob : Obj} {Q : Value → Shared → Prop}
theorem int_no_floordiv (hx : s.heap.get? x = some ob) (hd : ob.data = .plain) (h : Q .notImplemented s) : wpAny (model prog w) A (call (.builtin "int.__floordiv__") [.int i t, .ref x]) Q E s := by
  refine GQ.call_here PySem.F.slot_int_floordiv (typeIs_int _ _ _) PySem.F.entry_int_floordiv (PySem.F.args_int_floordiv_2 _ _) ?_
  obtain ⟨hp, g, d, tk, os⟩ := s
  obtain ⟨c, dd, dt, sl⟩ := ob
  simp only at hd
  subst hd
  wp_walk using AutoSeq1.wpAny_loadPart' hx
  exact h
theorem int_no_mod (hx : s.heap.get? x = some ob) (hd : ob.data = .plain) (h : Q .notImplemented s) : wpAny (model prog w) A (call (.builtin "int.__mod__") [.int i t, .ref x]) Q E s := by
  refine GQ.call_here PySem.F.slot_int_mod (typeIs_int _ _ _) PySem.F.entry_int_mod (PySem.F.args_int_mod_2 _ _) ?_
  obtain ⟨hp, g, d, tk, os⟩ := s
  obtain ⟨c, dd, dt, sl⟩ := ob
  simp only at hd
  subst hd
  wp_walk using AutoSeq1.wpAny_loadPart' hx
  exact h
theorem int_no_add (hx : s.heap.get? x = some ob) (hd : ob.data = .plain) (h : Q .notImplemented s) : wpAny (model prog w) A (call (.builtin "int.__add__") [.int i t, .ref x]) Q E s := by
  refine GQ.call_here PySem.F.slot_int_add (typeIs_int _ _ _) PySem.F.entry_int_add (PySem.F.args_int_add_2 _ _) ?_
  obtain ⟨hp, g, d, tk, os⟩ := s
  obtain ⟨c, dd, dt, sl⟩ := ob
  simp only at hd
  subst hd
  wp_walk using AutoSeq1.wpAny_loadPart' hx
  exact h
theorem int_no_mul (hx : s.heap.get? x = some ob) (hd : ob.data = .plain) (h : Q .notImplemented s) : wpAny (model prog w) A (call (.builtin "int.__mul__") [.int i t, .ref x]) Q E s := by
  refine GQ.call_here PySem.F.slot_int_mul (typeIs_int _ _ _) PySem.F.entry_int_mul (PySem.F.args_int_mul_2 _ _) ?_
  obtain ⟨hp, g, d, tk, os⟩ := s
  obtain ⟨c, dd, dt, sl⟩ := ob
  simp only at hd
  subst hd
  wp_walk using AutoSeq1.wpAny_loadPart' hx
  exact h
end
theorem fillsR {M : Model} {K : Frag} {C f : Addr} {h : Heap} {nm : String} {cd : ClassData} {rest : List Value} {fo : Option Value} (X : K.In h) (hc : clsIn K C = some cd) (hm : cd.mro = .ref C :: rest)
    (hfo : findIn K (.ref C) (PySem.dunder nm) = some fo) (ho : fo = none ∨ ∃ g : Addr, fo = some (.ref g)) (hr : findIn K (.ref C) (dunderR nm) = some (some (.ref f))) : Looks M h (fillsNumberSlot (.ref C) nm) true := by
  intro A Q E s k q
  unfold fillsNumberSlot
  refine wpAny_bind ((looks_clsIn X hc).andThen (f := fun cd => pure cd.mro) .now A _ E s k ?_)
  rw [hm, List.anyM_cons]
  refine wpAny_bind ?_
  show wpAny M A (List.anyM _ [PySem.dunder nm, dunderR nm]) _ _ _
  rw [List.anyM_cons]
  refine wpAny_bind (wpAny_bind (looks_findIn X hfo A _ E s k ?_))
  rcases ho with rfl | ⟨g, rfl⟩
  · dsimp only
    refine wpAny_pure ?_
    rw [if_neg (by simp), List.anyM_cons]
    refine wpAny_bind (wpAny_bind (looks_findIn X hr A _ E s k ?_))
    dsimp only
    rw [if_pos (show (!ownNameWrapper (.ref f) (dunderR nm)) = true from rfl)]
    refine wpAny_pure ?_
    rw [if_pos rfl]
    refine wpAny_pure ?_
    rw [if_pos rfl]
    exact wpAny_pure q
  · dsimp only
    rw [if_pos (show (!ownNameWrapper (.ref g) (PySem.dunder nm)) = true from rfl)]
    refine wpAny_pure ?_
    rw [if_pos rfl]
    refine wpAny_pure ?_
    rw [if_pos rfl]
    exact wpAny_pure q
theorem own_right {prog : Program} {w : World} {A : Around} {E : Value → Shared → Prop} {s : Shared} {K : Frag} {x C L f : Addr} {h₀ : Heap} {m : Str → Option Value} {ox : Obj} {od : Option Obj} {i : Int} {t : Tok} {op : Operator} {fo : Option Value} {idl : String} {Q : Value → Shared → Prop}
    (F : Fr h₀ L s.heap m) (X₀ : K.In h₀) (I : InstAt s.heap x ox C od) (hc : selfFirst K C = true) (hfo : findIn K (.ref C) (PySem.dunder op.info.2) = some fo) (ho : fo = none ∨ ∃ g : Addr, fo = some (.ref g))
    (hr : findIn K (.ref C) (dunderR op.info.2) = some (some (.ref f))) (hf : isFn K (.ref f) = true) (hsub : subIn K (.ref C) (.type "int") = some false)
    (fillsT : fillsNumberSlot (.type "int") op.info.2 = pure true) (slot : Slot "int" (PySem.dunder op.info.2) idl)
    (dec : ∀ Q' : Value → Shared → Prop, Q' .notImplemented s → wpAny (model prog w) A (call (.builtin idl) [.int i t, .ref x]) Q' E s)
    (h : wpAny (model prog w) A (call (.ref f) [.ref x, .int i t]) (PySem.W.CmpBack Q) E s) : wpAny (model prog w) A (binaryOp op (.int i t) (.ref x)) Q E s := by
  have X := X₀.keeps F.keep
  obtain ⟨cd, rest, hcd, hm⟩ := ksp_first hc
  rcases hi : op.info with ⟨sym, nm'⟩
  rw [hi] at hfo hr fillsT slot
  dsimp only at hfo hr fillsT slot
  have one := ksp_try X I hr hf h
  have two : wpAny (model prog w) A (tryMethod (.int i t) (PySem.dunder nm') (.ref x)) (fun r s' => r = none ∧ s' = s) E s :=
    wpAny_tryMethod_declines (typeIs_int _ _ _) slot (dec _ ⟨rfl, rfl, rfl⟩)
  obtain ⟨hh, g, d, tt, os⟩ := s
  have L2 : Looks (model prog w) hh (typeOf (.ref x)) (.ref C) := I.type
  have L3 : Looks (model prog w) hh (fillsNumberSlot (.ref C) nm') true := fillsR X hcd hm hfo ho hr
  have L5 : Looks (model prog w) hh (isSubtype (.ref C) (.type "int")) false := looks_subIn X hsub
  have hne : (Value.type "int" == Value.ref C) = false := Bool.eq_false_iff.mpr fun q => by cases beq_iff_eq.mp q
  have hpy : numberSlotInPython (.type "int") nm' = pure false := rfl
  simp only [binaryOp, hi]
  refine wpAny_holding (wpAny_bind ?_)
  unfold binaryOp1
  refine wpAny_bind (wpAny_typeOf (typeIs_int _ _ _) (wpAny_bind (L2.at (wpAny_bind (wpAny_of_eq fillsT ?_)))))
  simp only [hne, Bool.false_eq_true, if_false]
  refine wpAny_bind (L3.at ?_)
  simp only [Bool.and_self, if_true]
  refine wpAny_bind (L5.at ?_)
  simp only [Bool.false_eq_true, if_false, pure_bind, Bool.not_false, Bool.and_self, if_true, hpy]
  refine wpAny_bind (wpAny_mono two (fun r s1 hr1 => ?_) fun _ _ e => e)
  obtain ⟨rfl, rfl⟩ := hr1
  dsimp only
  refine wpAny_bind (wpAny_mono one (fun r s2 hr2 => ?_) fun _ _ e => e)
  obtain ⟨v, rfl, hq⟩ := hr2
  dsimp only
  exact wpAny_bind (wpAny_rule (wpAny_pure (wpAny_pure hq)))
end Bar

namespace Bar
open PySem L2
theorem relV_back {v : V} {u : Value} {Q : Value → Shared → Prop} {s : Shared} (r : RelV v u) (h : Q u s) : PySem.W.CmpBack Q u s := by
  cases v with
  | non => cases (show u = Value.none from r); exact h
  | bl b => cases (show u = Value.bool b from r); exact h
  | int i => obtain ⟨t, rfl⟩ := (show ∃ t, u = Value.int i t from r); exact h
  | str i => obtain ⟨t, rfl⟩ := (show ∃ t, u = Value.str i t from r); exact h
  | byt i => obtain ⟨t, rfl⟩ := (show ∃ t, u = Value.bytes i t from r); exact h
  | flt i => obtain ⟨t, rfl⟩ := (show ∃ t, u = Value.float i t from r); exact h
  | ref i => cases (show u = Value.ref i from r); exact h
  | ty n => cases (show u = Value.type n from r); exact h
def oi (op : Operator) : String := op.info.2
/-- what the written part says of an own operator beside an int -/
structure OwnL (K : PySem.W.Frag) (C : Addr) (op : Operator) (f : Addr) : Prop where
  sf : PySem.W.selfFirst K C = true
  find : PySem.W.findIn K (.ref C) (PySem.dunder op.info.2) = some (some (.ref f))
  fn : PySem.W.isFn K (.ref f) = true
  rr : ∃ rc, PySem.W.findIn K (.ref C) (dunderR op.info.2) = some rc ∧ (rc = none ∨ ∃ g : Addr, rc = some (.ref g))
  i1 : ∃ fo, PySem.W.findIn K (.type "int") (PySem.dunder op.info.2) = some fo
  i2 : ∃ ro, PySem.W.findIn K (.type "int") (dunderR op.info.2) = some ro
  sub : PySem.W.subIn K (.type "int") (.ref C) = some false
structure OwnR (K : PySem.W.Frag) (C : Addr) (op : Operator) (f : Addr) : Prop where
  sf : PySem.W.selfFirst K C = true
  find : PySem.W.findIn K (.ref C) (dunderR op.info.2) = some (some (.ref f))
  fn : PySem.W.isFn K (.ref f) = true
  ll : ∃ rc, PySem.W.findIn K (.ref C) (PySem.dunder op.info.2) = some rc ∧ (rc = none ∨ ∃ g : Addr, rc = some (.ref g))
  sub : PySem.W.subIn K (.ref C) (.type "int") = some false
/-- how an int declines -/
structure IntNo (op : Operator) : Prop where
  fills : fillsNumberSlot (.type "int") op.info.2 = pure true
  ex : ∃ idl, Slot "int" (PySem.dunder op.info.2) idl ∧ ∀ {prog : Program} {w : World} {A : Around} {E : Value → Shared → Prop} {s : Shared} {i : Int} {t : Tok} {x : Addr} {ob : Obj} {Q : Value → Shared → Prop}, s.heap.get? x = some ob → ob.data = .plain → Q .notImplemented s →
    wpAny (model prog w) A (call (.builtin idl) [.int i t, .ref x]) Q E s
theorem no_floordiv : IntNo .FloorDiv := ⟨PySem.F.fills_int_floordiv, _, PySem.F.slot_int_floordiv, fun hx hd h => int_no_floordiv hx hd h⟩
theorem no_mod : IntNo .Mod := ⟨PySem.F.fills_int_mod, _, PySem.F.slot_int_mod, fun hx hd h => int_no_mod hx hd h⟩
theorem no_add : IntNo .Add := ⟨PySem.F.fills_int_add, _, PySem.F.slot_int_add, fun hx hd h => int_no_add hx hd h⟩
theorem no_mul : IntNo .Mult := ⟨PySem.F.fills_int_mul, _, PySem.F.slot_int_mul, fun hx hd h => int_no_mul hx hd h⟩
/-- o op n, n op o -/
def rOwnL (C : Addr) (sp : Sp) : R2 := fun x y H Q => ∃ a dx fs i, x = .ref a ∧ y = .int i ∧ H a = some (.ins C dx fs) ∧ sp [x, y] H Q E0
def rOwnR (C : Addr) (sp : Sp) : R2 := fun x y H Q => ∃ a dx fs i, y = .ref a ∧ x = .int i ∧ H a = some (.ins C dx fs) ∧ sp [y, x] H Q E0
structure OprL (P : Program) (w : World) (K : PySem.W.Frag) (mg : Str → Option Value) (base : Heap) (C : Addr) (op : Operator) (ps : List Str) (k : Nat) (sp : Sp) : Prop where
  ex : ∃ (f : Addr) (fd : FuncData), OwnL K C op f ∧ Binds K fd ps [] ∧ FnOk P w K mg base CX0 k f fd ps sp
structure OprR (P : Program) (w : World) (K : PySem.W.Frag) (mg : Str → Option Value) (base : Heap) (C : Addr) (op : Operator) (ps : List Str) (k : Nat) (sp : Sp) : Prop where
  ex : ∃ (f : Addr) (fd : FuncData), OwnR K C op f ∧ Binds K fd ps [] ∧ FnOk P w K mg base CX0 k f fd ps sp
section
variable {X : Cx} {C f : Addr} {ps : List Str} {k : Nat} {sp : Sp} {op : Operator}
theorem op_L (F : OprL X.prog X.w X.K X.mg X.base C op ps k sp) (hr : Room k X.A) : OpR X (binaryOp op) (rOwnL C sp) := by
  intro pins s σ H x y v u Q I rx ry h
  obtain ⟨f, fd, O, hb, ok⟩ := F.ex
  obtain ⟨a, dx, fs, i, rfl, rfl, ea, q⟩ := h
  obtain rfl : v = Value.ref a := rx
  obtain ⟨t, rfl⟩ := (show ∃ t, u = Value.int i t from ry)
  obtain ⟨mA, O', _⟩ := ins_get I.hok ea
  obtain ⟨od, J, _⟩ := O'.look
  obtain ⟨m, Fr⟩ := I.fr
  obtain ⟨rc, hrc, hp⟩ := O.rr
  obtain ⟨fo, h1⟩ := O.i1
  obtain ⟨ro, h2⟩ := O.i2
  refine PySem.W.ksp_binT Fr I.mod.kin J rfl O.sf O.find O.fn hrc hp h1 h2 O.sub ?_
  refine thn (run_fn (us := [.ref a, .int i t]) (vs := [.ref a, .int i]) ok hr hb .nil pass0 I (.cons rfl (.cons ⟨t, rfl⟩ .nil)) q) fun u' s' hq => ?_
  obtain ⟨v', H', I', rv, hv⟩ := hq
  exact relV_back rv ⟨v', H', I', rv, hv⟩
theorem op_R (F : OprR X.prog X.w X.K X.mg X.base C op ps k sp) (N : IntNo op) (hr : Room k X.A) : OpR X (binaryOp op) (rOwnR C sp) := by
  intro pins s σ H x y v u Q I rx ry h
  obtain ⟨f, fd, O, hb, ok⟩ := F.ex
  obtain ⟨a, dx, fs, i, rfl, rfl, ea, q⟩ := h
  obtain rfl : u = Value.ref a := ry
  obtain ⟨t, rfl⟩ := (show ∃ t, v = Value.int i t from rx)
  obtain ⟨mA, O', _⟩ := ins_get I.hok ea
  obtain ⟨od, J, _⟩ := O'.look
  obtain ⟨m, Fr⟩ := I.fr
  obtain ⟨rc, hrc, hp⟩ := O.ll
  obtain ⟨idl, slot, dec⟩ := N.ex
  refine own_right Fr I.mod.kin J O.sf hrc hp O.find O.fn O.sub N.fills slot (fun Q' hq => dec O'.obj rfl hq) ?_
  refine thn (run_fn (us := [.ref a, .int i t]) (vs := [.ref a, .int i]) ok hr hb .nil pass0 I (.cons rfl (.cons ⟨t, rfl⟩ .nil)) q) fun u' s' hq => ?_
  obtain ⟨v', H', I', rv, hv⟩ := hq
  exact relV_back rv ⟨v', H', I', rv, hv⟩
end
end Bar

namespace Bar
open PySem L2
section
variable {σ τ : L2.St} {H : Hp} {Q : VK} {g : TG} {tt : TT} {te : TE} {vs : List Nat}
instance {wi : TI} : Rd (tLc wi g tt te vs σ H Q) (wi σ H fun J H1 => ∀ D, H1 D = none → ∃ W : Nat → Nat → Hp → Prop, (∃ m, W 0 m (upd H1 D (.lst []))) ∧ ∀ i m H, W i m H →
  (J.stop i H ∧ Q (.ref D) H) ∨ (J.go i H ∧ ∃ Nx : Hp → Prop, (∀ H', Nx H' → ∃ m', m' < m ∧ W (i + 1) m' H') ∧ ∀ x H', J.yld i H x H' → g x (wipe σ vs) H' fun σ2 H2 => wipe σ2 vs = wipe σ vs ∧ tt σ2 H2 fun b H3 =>
    if b = true then te σ2 H3 fun y H4 => ∃ acc, H4 D = some (.lst acc) ∧ acc.length < sizeLine ∧ Nx (upd H4 D (.lst (acc ++ [y]))) else Nx H3)) := ⟨fun h => h⟩
instance {QB : Bool → Hp → Prop} : Rd (tYes σ H QB) (QB true H) := ⟨fun h => h⟩
/-- a comprehension over range(j) -/
theorem lcR {j : Int} {R : Addr → Hp → Prop} (n : Nat) (e : j.toNat = n) (ew : wipe σ vs = τ) (b : -(2 ^ 62) ≤ j ∧ j < 2 ^ 62)
    (h : ∀ D, H D = none → ∃ Pv : Nat → Hp → Prop, Pv 0 (upd H D (.lst [])) ∧
      (∀ i H', i < n → Pv i H' → g (.int (i : Int)) τ H' fun σ2 H2 => wipe σ2 vs = τ ∧ tt σ2 H2 fun b H3 =>
        if b = true then te σ2 H3 fun y H4 => ∃ acc, H4 D = some (.lst acc) ∧ acc.length < sizeLine ∧ Pv (i + 1) (upd H4 D (.lst (acc ++ [y]))) else Pv (i + 1) H3) ∧ ∀ H', Pv n H' → R D H') :
    ∃ j', [V.int j] = [V.int j'] ∧ -(2 ^ 62) ≤ j' ∧ j' < 2 ^ 62 ∧ ∀ D, H D = none → ∃ W : Nat → Nat → Hp → Prop, (∃ m, W 0 m (upd H D (.lst []))) ∧ ∀ i m H, W i m H →
      ((Itr 0 j'.toNat).stop i H ∧ R D H) ∨ ((Itr 0 j'.toNat).go i H ∧ ∃ Nx : Hp → Prop, (∀ H', Nx H' → ∃ m', m' < m ∧ W (i + 1) m' H') ∧ ∀ x H', (Itr 0 j'.toNat).yld i H x H' → g x (wipe σ vs) H' fun σ2 H2 => wipe σ2 vs = wipe σ vs ∧ tt σ2 H2 fun b H3 =>
        if b = true then te σ2 H3 fun y H4 => ∃ acc, H4 D = some (.lst acc) ∧ acc.length < sizeLine ∧ Nx (upd H4 D (.lst (acc ++ [y]))) else Nx H3) := by
  subst e ew
  refine ⟨j, rfl, b.1, b.2, fun D hD => ?_⟩
  obtain ⟨Pv, h0, hs, hd⟩ := h D hD
  refine lc_range (lo := 0) (n := j.toNat) Pv h0 (fun i H' hi p => ?_) hd
  have e : (0 : Int) + (i : Int) = (i : Int) := Int.zero_add _
  rw [e]
  exact hs i H' hi p
/-- over a list that stands still -/
theorem lcL {K : PySem.W.Frag} {a : Addr} {xs : List V} {R : Addr → Hp → Prop} (ew : wipe σ vs = τ) (hx : SqL K H a xs)
    (h : ∀ D, H D = none → ∃ Pv : Nat → Hp → Prop, Pv 0 (upd H D (.lst [])) ∧ (∀ i H', i ≤ xs.length → Pv i H' → SqL K H' a xs) ∧
      (∀ i x H', xs[i]? = some x → Pv i H' → g x τ H' fun σ2 H2 => wipe σ2 vs = τ ∧ tt σ2 H2 fun b H3 =>
        if b = true then te σ2 H3 fun y H4 => ∃ acc, H4 D = some (.lst acc) ∧ acc.length < sizeLine ∧ Pv (i + 1) (upd H4 D (.lst (acc ++ [y]))) else Pv (i + 1) H3) ∧ ∀ H', Pv xs.length H' → R D H') :
    ∃ a', V.ref a = V.ref a' ∧ (∃ xs, SqL K H a' xs) ∧ ∀ D, H D = none → ∃ W : Nat → Nat → Hp → Prop, (∃ m, W 0 m (upd H D (.lst []))) ∧ ∀ i m H, W i m H →
      ((Itl K a').stop i H ∧ R D H) ∨ ((Itl K a').go i H ∧ ∃ Nx : Hp → Prop, (∀ H', Nx H' → ∃ m', m' < m ∧ W (i + 1) m' H') ∧ ∀ x H', (Itl K a').yld i H x H' → g x (wipe σ vs) H' fun σ2 H2 => wipe σ2 vs = wipe σ vs ∧ tt σ2 H2 fun b H3 =>
        if b = true then te σ2 H3 fun y H4 => ∃ acc, H4 D = some (.lst acc) ∧ acc.length < sizeLine ∧ Nx (upd H4 D (.lst (acc ++ [y]))) else Nx H3) := by
  subst ew
  refine ⟨a, rfl, ⟨xs, hx⟩, fun D hD => ?_⟩
  obtain ⟨Pv, h0, hl, hs, hd⟩ := h D hD
  exact lc_list Pv h0 hl hs hd
theorem rSum_ {K : PySem.W.Frag} {a : Addr} {ns : List Int} (h1 : SqL K H a (ns.map V.int)) (h : Q (.int ns.sum) H) : rSum K [.ref a] H Q := ⟨a, ns, rfl, h1, h⟩
theorem sum_ones : ∀ n : Nat, (List.replicate n (1 : Int)).sum = (n : Int)
  | 0 => rfl
  | n + 1 => by
    rw [List.replicate_succ, List.sum_cons, sum_ones n]
    omega
end
end Bar

namespace Bar
open PySem PySem.W PySem.Calls PyProof.Rows
theorem ne_own {prog : Program} {w : World} {A : Around} {E : Value → Shared → Prop} {s : Shared} {K : Frag} {x C L f : Addr} {h₀ : Heap} {m : Str → Option Value} {ox : Obj} {od : Option Obj} {b tb : Value} {Q : Value → Shared → Prop}
    (hu : A.units + 1 < cLine) (F : Fr h₀ L s.heap m) (X₀ : K.In h₀) (I : InstAt s.heap x ox C od) (hb : Looks (model prog w) s.heap (typeOf b) tb) (hn : notFirst K C tb = true)
    (hne : findIn K (.ref C) "__ne__" = some (some (.builtin "object.__ne__"))) (heq : findIn K (.ref C) "__eq__" = some (some (.ref f))) (hf : isFn K (.ref f) = true) (hm : mroIn K C (.type "object") = some true)
    (h : wpAny (model prog w) A.in1 (call (.ref f) [.ref x, b]) (fun r s' => ∃ c, r = .bool c ∧ Q (.bool (!c)) s') E s) : wpAny (model prog w) A (richCompare .NotEq (.ref x) b) Q E s := by
  have X := X₀.keeps F.keep
  have one : wpAny (model prog w) A (tryCompare (.ref x) "__ne__" b) (fun r s' => ∃ v, r = some v ∧ Q v s') E s := by
    have sub : Looks (model prog w) s.heap (isInstance (.ref x) (.type "object")) true := I.type.andThen (looks_mroIn X hm)
    have back : wpAny (model prog w) A (call (.builtin "object.__ne__") [.ref x, b]) (fun v s' => ∃ c, v = .bool c ∧ Q (.bool c) s') E s := by
      refine wpAny_call (codeAny_call_builtin PySem.F.cmp_object.ne.plain PySem.F.cmpEntry_ne (@PySem.W.check_slot (model prog w) _ _ s "object.__ne__" "object" "__ne__" (.ref x) [b] [] _ PySem.F.cmpKind_ne PySem.F.cmpSplit_ne sub (PySem.F.cmpArgs_ne _ _) ?_))
      unfold Builtin.«object.__ne__»
      refine wpAny_bind (wpAny_of_eq (a := ((Value.ref x : Value), [b])) (by first | rfl | (simp only [slotArgs]; rfl)) ?_)
      refine wpAny_bind (wpAny_cRoomFor hu ?_)
      refine wpAny_bind (ifBound_K X I heq hf (wpAny_mono h (fun v s' hv => ?_) fun _ _ e => e))
      obtain ⟨c, rfl, q⟩ := hv
      dsimp only
      refine wpAny_bind (wpAny_truthy_bool ?_)
      exact wpAny_pure ⟨!c, rfl, q⟩
    simp only [tryCompare, callSpecialIfBound?, bindSpecialIfBound?]
    refine wpAny_bind (wpAny_holding (wpAny_bind (wpAny_bind (wpAny_bind (I.type.here ((looks_findIn X hne).here ?_))))))
    simp only [PySem.F.cmp_object.ne.bind]
    refine wpAny_bind (wpAny_askSetting (wpAny_ite ?_))
    have fin : wpAny (model prog w) A (call (.builtin "object.__ne__") ([.ref x] ++ [b]) >>= fun v => pure (some v)) (fun r s' => wpAny (model prog w) A (match r with | some .notImplemented => pure none | none => pure none | some v => pure (some v)) (fun r s' => ∃ v, r = some v ∧ Q v s') E s') E s :=
      wpAny_bind (wpAny_mono back (fun v s' hv => by
        obtain ⟨c, rfl, q⟩ := hv
        exact wpAny_pure (wpAny_pure ⟨_, rfl, q⟩)) fun _ _ e => e)
    split
    · exact wpAny_bind (wpAny_pure (wpAny_pure fin))
    · exact wpAny_tryCatch (wpAny_bind (wpAny_pure (wpAny_pure fin)))
  unfold richCompare
  simp only [oneThing_ref]
  refine wpAny_holding (wpAny_bind (wpAny_cRoomFor (by omega) ?_))
  refine wpAny_bind (I.type.here (wpAny_bind (hb.here ?_)))
  split
  · rename_i q
    have e : subIn K tb (.ref C) = some false := by
      rcases Bool.or_eq_true_iff.mp hn with e | e
      · rw [beq_iff_eq.mp e] at q; simp at q
      · exact beq_iff_eq.mp e
    refine wpAny_bind ((looks_subIn X e).here ?_)
    simp only [Bool.false_eq_true, if_false]
    refine wpAny_bind (wpAny_mono one (fun r s' z => ?_) fun _ _ e => e)
    obtain ⟨v, rfl, hq⟩ := z
    exact wpAny_pure hq
  · refine wpAny_bind (wpAny_pure ?_)
    simp only [Bool.false_eq_true, if_false]
    refine wpAny_bind (wpAny_mono one (fun r s' z => ?_) fun _ _ e => e)
    obtain ⟨v, rfl, hq⟩ := z
    exact wpAny_pure hq
end Bar

namespace Bar
open PySem L2
structure OwnEq (K : PySem.W.Frag) (C f : Addr) : Prop where
  eq : PySem.W.findIn K (.ref C) "__eq__" = some (some (.ref f))
  fn : PySem.W.isFn K (.ref f) = true
  ne : PySem.W.findIn K (.ref C) "__ne__" = some (some (.builtin "object.__ne__"))
  ob : PySem.W.mroIn K C (.type "object") = some true
def rOwnEq (K : PySem.W.Frag) (C : Addr) (neg : Bool) (sp : Sp) : R2 := fun x y H Q => ∃ a dx fs t, x = .ref a ∧ H a = some (.ins C dx fs) ∧ TyX K H y t ∧ PySem.W.notFirst K C t = true ∧ sp [x, y] H (fun v H' => ∃ c, v = .bl c ∧ Q (.bl (if neg then !c else c)) H') E0
structure OprEq (P : Program) (w : World) (K : PySem.W.Frag) (mg : Str → Option Value) (base : Heap) (C : Addr) (ps : List Str) (k : Nat) (sp : Sp) : Prop where
  ex : ∃ (f : Addr) (fd : FuncData), OwnEq K C f ∧ Binds K fd ps [] ∧ FnOk P w K mg base CX0 k f fd ps sp
section
variable {X : Cx} {C : Addr} {ps : List Str} {k : Nat} {sp : Sp}
theorem op_Eq (F : OprEq X.prog X.w X.K X.mg X.base C ps k sp) (hr : Room k X.A) : OpR X (compareOp .Eq) (rOwnEq X.K C false sp) := by
  intro pins s σ H x y v u Q I rx ry h
  obtain ⟨f, fd, O, hb, ok⟩ := F.ex
  obtain ⟨a, dx, fs, t, rfl, ea, ty, hn, q⟩ := h
  obtain rfl : v = Value.ref a := rx
  obtain ⟨mA, O', _⟩ := ins_get I.hok ea
  obtain ⟨od, J, _⟩ := O'.look
  obtain ⟨m, Fr⟩ := I.fr
  obtain ⟨Pz, Z, p, _⟩ := kit_of I ry ty
  show wpAny _ _ (richCompare .Eq (.ref a) u) _ _ _
  refine PySem.W.cmp_K (op := .Eq) hr.units0 Fr I.mod.kin J (Z.ty _ _ I.kIn p) hn O.eq O.fn ?_
  refine thn (run_fn (us := [.ref a, u]) (vs := [.ref a, y]) ok hr hb .nil pass0 I (.cons rfl (.cons ry .nil)) q) fun u' s' hq => ?_
  obtain ⟨v', H', I', rv, hv⟩ := hq
  obtain ⟨c, rfl, q'⟩ := hv
  exact relV_back rv ⟨_, H', I', rv, q'⟩
theorem op_Ne (F : OprEq X.prog X.w X.K X.mg X.base C ps k sp) (hr : Room (k + 1) X.A) : OpR X (compareOp .NotEq) (rOwnEq X.K C true sp) := by
  intro pins s σ H x y v u Q I rx ry h
  obtain ⟨f, fd, O, hb, ok⟩ := F.ex
  obtain ⟨a, dx, fs, t, rfl, ea, ty, hn, q⟩ := h
  obtain rfl : v = Value.ref a := rx
  obtain ⟨mA, O', _⟩ := ins_get I.hok ea
  obtain ⟨od, J, _⟩ := O'.look
  obtain ⟨m, Fr⟩ := I.fr
  obtain ⟨Pz, Z, p, _⟩ := kit_of I ry ty
  show wpAny _ _ (richCompare .NotEq (.ref a) u) _ _ _
  refine ne_own (by have := hr.units; omega) Fr I.mod.kin J (Z.ty _ _ I.kIn p) hn O.ne O.eq O.fn O.ob ?_
  have r2 : Vals [V.ref a, y] [Value.ref a, u] := .cons rfl (.cons ry .nil)
  have hl : ([Value.ref a, u] ++ ([] : List Value)).length = ps.length := by
    have e := ok.len _ _ _ _ q
    rw [← e]
    rfl
  have bnd : BindsTo s fd ⟨[Value.ref a, u], []⟩ (ps.zip [Value.ref a, u]) := by
    have e := hb s [Value.ref a, u] I.kIn hl
    rwa [List.append_nil] at e
  have run := ok.run X.A.in1 X.stack s H ⟨[Value.ref a, u], []⟩ [Value.ref a, u] [V.ref a, y] _ E0 hr.in1 I.env0.in1 bnd r2 q
  refine wpAny_call (codeAny_mono run fun r s' hq => ?_)
  cases r with
  | error e => exact False.elim hq
  | ok fl =>
    cases fl with
    | ret u' =>
      obtain ⟨v', H', I', rv, c, ev, q'⟩ := I.after hq
      subst ev
      exact ⟨c, rv, .bl (!c), H', I', rfl, q'⟩
    | next => exact False.elim hq
    | brk => exact False.elim hq
    | cont => exact False.elim hq
end
end Bar

set_option Elab.async false
set_option linter.all false
set_option maxRecDepth 100000
set_option maxHeartbeats 4000000
namespace Bar
open PySem L2
/-! ### own errors: their making -/
/-- an own error class, made by its name; sp: what its __init__ keeps -/
structure Err (P : Program) (w : World) (K : PySem.W.Frag) (mg : Str → Option Value) (base : Heap) (x : Str) (C : Addr) (ps : List Str) (k : Nat) (sp : Sp) : Prop where
  ex : ∃ (f : Addr) (fd : FuncData), mg x = some (.ref C) ∧ OexC K C ∧ PySem.W.findIn K (.ref C) "__init__" = some (some (.ref f)) ∧ PySem.W.typeIn K (.ref f) = some (.type "function") ∧ Binds K fd ps [] ∧ FnOk P w K mg base CX0 k f fd ps sp
/-- the base class's own name, and its __init__ -/
structure EBase (K : PySem.W.Frag) (mg : Str → Option Value) (bn : Str) (B : Addr) : Prop where
  g : mg bn = some (.ref B)
  r : ClX.CRead K B (.type "type")
  v : PySem.W.findCls K (.ref B) (.type "type") "__init__" = some (.val (.builtin "ValueError.__init__"))
section
variable {X : Cx} {B C : Addr} {x bn : Str} {k : Nat} {sp : Sp} {ps : List Str} {e : Expr} {es : List Expr} {ta : TA} {p p1 p2 pos : Pos}
theorem pmk_err (F : Err X.prog X.w X.K X.mg X.base x C ps k sp) (hr : Room (k + 1) X.A) (hg : Gl X x) (ha : PA X (e :: es) ta) (hdb : (x == ("__debug__" : Str)) = false := by decide)
    (he : starEach (e :: es) X.env = (false, eval e X.env) :: starEach es X.env := by rfl) (hpl : (backTo pos (starEach es X.env)).any (·.1) = false := by rfl) : PMk X (.Call (.Name x p) (e :: es) [] pos) (tMkO C sp [] ta) := by
  obtain ⟨f, fd, hm, T, iC, tI, hb, ok⟩ := F.ex
  exact pmk_oex T iC tI ok hr hb .nil (fun _ _ _ _ _ _ _ z => z.elim) hg hm ha hdb he hpl
theorem pe_baseInit {pl : Sem Bool} (N : EBase X.K X.mg bn B) (hg : Gl X bn) (ha : PA X (e :: es) ta) (hdb : (bn == ("__debug__" : Str)) = false := by decide)
    (hc : eval (.Call (.Attribute (.Name bn p1) "__init__" p2) (e :: es) [] pos) X.env = (do
      let ov ← eval (.Name bn p1) X.env; standAt p2.atName
      let (f, first) ← holding [ov] (getMethod ov "__init__" pl)
      callWith pos f first (backTo pos (starEach (e :: es) X.env)) (backToKw pos (keywordEach [] X.env))) := by rfl)
    (he : starEach (e :: es) X.env = (false, eval e X.env) :: starEach es X.env := by rfl) (hpl : (backTo pos (starEach es X.env)).any (·.1) = false := by rfl) :
    PE X (.Call (.Attribute (.Name bn p1) "__init__" p2) (e :: es) [] pos) (tVeI X.K ta) := ⟨fun pins s σ H Q I h => by
  refine PySem.W.methodCall_KW (pl := pl) (ld_glob I hg N.g ?_ hdb) hc
  refine PySem.W.method_cls I.kIn N.r.ga (PySem.W.cls_value I.kIn N.r.rd N.v rfl ?_)
  show wpAny _ _ (callWith pos (.builtin "ValueError.__init__") [] (backTo pos (starEach (e :: es) X.env)) []) _ _ _
  have I' := I.tok (s.toks + 1)
  refine PyProof.Rows.callWith_method1 (thn (ha.run pos pins _ σ H _ I' h) fun us s1 hs => ?_) he hpl
  obtain ⟨vs, H1, J, rv, a, C, ws, ev, hl, T, ea, q⟩ := hs
  subst ev
  cases rv with
  | cons ra rw' =>
    cases ra
    refine oinit_ok T J ea ?_ fun s' J' => ⟨.non, H1, J', rfl, q⟩
    rw [← Paired.length rw', sizeLine_eq]
    omega⟩
end

/-! ### defs that raise, called where what they raise is taken -/
structure FnX (P : Program) (w : World) (K : PySem.W.Frag) (mg : Str → Option Value) (base : Heap) (x : Str) (ps : List Str) (dvs : List V) (k : Nat) (sp : Sp) : Prop where
  ex : ∃ (f : Addr) (fd : FuncData) (ds : List Value), mg x = some (.ref f) ∧ PySem.W.keepIn K (.ref f) = true ∧ Binds K fd ps ds ∧ Vals dvs ds ∧ FnOk P w K mg base (L2.CX P w) k f fd ps sp
structure MadeX (P : Program) (w : World) (K : PySem.W.Frag) (mg : Str → Option Value) (base : Heap) (x : Str) (C : Addr) (ps : List Str) (dvs : List V) (k : Nat) (sp : Sp) : Prop where
  ex : ∃ (f : Addr) (fd : FuncData) (ds : List Value), mg x = some (.ref C) ∧ Mk K C f ∧ Binds K fd ps ds ∧ Vals dvs ds ∧ FnOk P w K mg base (L2.CX P w) k f fd ps sp
structure MthX (P : Program) (w : World) (K : PySem.W.Frag) (mg : Str → Option Value) (base : Heap) (C : Addr) (m : Str) (ps : List Str) (dvs : List V) (k : Nat) (sp : Sp) : Prop where
  cl : Cls K C
  ex : ∃ (f : Addr) (fd : FuncData) (ds : List Value), Meth K C m f ∧ Binds K fd ps ds ∧ Vals dvs ds ∧ FnOk P w K mg base (L2.CX P w) k f fd ps sp
/-- what is raised, wished for at the slots as they stand -/
def wAt (W : WX) (σ : L2.St) : XK := fun cls d H => W cls d σ H
def tCallX (sp : Sp) (dvs : List V) (W : WX) (t : TA) : TE := fun σ H Q => t σ H fun vs H1 => sp (vs ++ dvs) H1 Q (wAt W σ)
def tMakeX (C : Addr) (sp : Sp) (dvs : List V) (W : WX) (t : TA) : TE := fun σ H Q => t σ H fun vs H1 => ∀ x dx, H1 x = none → H1 dx = none → dx ≠ x →
  sp (.ref x :: (vs ++ dvs)) (upd (upd H1 dx (.own x)) x (.ins C dx [])) (fun v H2 => v = .non ∧ Q (.ref x) H2) (wAt W σ)
def tMethX (C : Addr) (m : Str) (sp : Sp) (dvs : List V) (W : WX) (ta : TE) (t : TA) : TE := fun σ H Q => ta σ H fun x H1 => ∃ a dx fs, x = .ref a ∧ H1 a = some (.ins C dx fs) ∧ fs.lookup m = none ∧
  t σ H1 fun vs H2 => sp (x :: (vs ++ dvs)) H2 Q (wAt W σ)
section
variable {X : Cx} {W : WX} {k : Nat} {f C : Addr} {fd : FuncData} {ps : List Str} {sp : Sp} {dvs : List V} {ds : List Value} {x m : Str} {p pos apos : Pos} {e o : Expr} {es : List Expr} {ta : TE} {t : TA}
theorem run_fnX {pins : List (Addr × Obj)} {σ : L2.St} {H : Hp} {s : Shared} {Q : VK} {us : List Value} {vs : List V} (F : FnOk X.prog X.w X.K X.mg X.base (L2.CX X.prog X.w) k f fd ps sp) (hr : Room k X.A) (hb : Binds X.K fd ps ds) (hd : Vals dvs ds)
    (tk : Takes X W) (I : Inv X pins σ H s) (r : Vals vs us) (h : sp (vs ++ dvs) H Q (wAt W σ)) : wpAny (model X.prog X.w) X.A (call (.ref f) us) (EP X pins σ Q) X.xe s := by
  have r2 : Vals (vs ++ dvs) (us ++ ds) := r.append hd
  have hl : (us ++ ds).length = ps.length := r2.length.symm.trans (F.len _ _ _ _ h)
  refine wpAny_call (codeAny_mono (F.run X.A X.stack s H ⟨us, []⟩ (us ++ ds) (vs ++ dvs) Q (wAt W σ) hr I.env0 (hb s us I.kIn hl) r2 h) fun z s' hq => ?_)
  match z, hq with
  | .error e, hq => exact tk e s' (XE.of_call I (fun _ _ _ h => h) hq)
  | .ok (.ret u), hq => exact I.after hq
theorem pe_fnX (F : FnX X.prog X.w X.K X.mg X.base x ps dvs k sp) (tk : Takes X W) (hr : Room k X.A) (hg : Gl X x) (ha : PA X (e :: es) t) (hdb : (x == ("__debug__" : Str)) = false := by decide)
    (he : starEach (e :: es) X.env = (false, eval e X.env) :: starEach es X.env := by rfl) (hpl : (backTo pos (starEach es X.env)).any (·.1) = false := by rfl) : PE X (.Call (.Name x p) (e :: es) [] pos) (tCallX sp dvs W t) := ⟨fun pins s σ H Q I h => by
  obtain ⟨f, fd, ds, hm, hk, hb, hd, ok⟩ := F.ex
  refine wpAny_Call_Name_kw (ld_glob I hg hm ?_ hdb)
  refine PySem.W.callWith_K (h₀ := X.base) I.ok.mod.kin hk (thn (ha.run pos pins s σ H _ I h) fun us s1 hs => ?_) he hpl
  obtain ⟨vs, H1, J, r, q⟩ := hs
  exact ⟨J.kIn, run_fnX ok hr hb hd tk J r q⟩⟩
theorem pe_mthX {pl : Sem Bool} (F : MthX X.prog X.w X.K X.mg X.base C m ps dvs k sp) (tk : Takes X W) (ho : PE X o ta) (hr : Room k X.A) (ha : PA X (e :: es) t)
    (hst : starEach (e :: es) X.env = (false, eval e X.env) :: starEach es X.env := by rfl) (hpl : (backTo pos (starEach es X.env)).any (·.1) = false := by rfl)
    (ht : eval (.Call (.Attribute o m apos) (e :: es) [] pos) X.env = (do
      let ov ← eval o X.env; standAt apos.atName
      let (f, first) ← holding [ov] (getMethod ov m pl)
      callWith pos f first (backTo pos (starEach (e :: es) X.env)) (backToKw pos (keywordEach [] X.env))) := by rfl) :
    PE X (.Call (.Attribute o m apos) (e :: es) [] pos) (tMethX C m sp dvs W ta t) := ⟨fun pins s σ H Q I h => by
  obtain ⟨f, fd, ds, hm, hb, hd, ok⟩ := F.ex
  refine PySem.W.methodCall_KW (pl := pl) (thn (ho.run pins s σ H _ I h) fun u s1 hs => ?_) ht
  obtain ⟨x, H1, J, rx, a, dx, fs, ex, ea, l, q⟩ := hs
  subst ex
  cases rx
  refine getmeth_ok J ea F.cl hm l (PySem.W.callWith_K (first := [.ref a]) (h₀ := X.base) J.ok.mod.kin hm.kp (thn (ha.run pos pins s1 σ H1 _ J q) fun us s2 hs => ?_) hst hpl)
  obtain ⟨vs, H2, J2, r, q2⟩ := hs
  exact ⟨J2.kIn, run_fnX (us := .ref a :: us) (vs := .ref a :: vs) ok hr hb hd tk J2 (.cons rfl r) q2⟩⟩
theorem run_makeX {pins : List (Addr × Obj)} {σ : L2.St} {H : Hp} {s : Shared} {Q : VK} {us : List Value} {vs : List V} (M : Mk X.K C f) (F : FnOk X.prog X.w X.K X.mg X.base (L2.CX X.prog X.w) k f fd ps sp) (hr : Room (k + 1) X.A) (hb : Binds X.K fd ps ds) (hd : Vals dvs ds)
    (tk : Takes X W) (I : Inv X pins σ H s) (r : Vals vs us)
    (h : ∀ x dx, H x = none → H dx = none → dx ≠ x → sp (.ref x :: (vs ++ dvs)) (upd (upd H dx (.own x)) x (.ins C dx [])) (fun v H2 => v = .non ∧ Q (.ref x) H2) (wAt W σ)) :
    wpAny (model X.prog X.w) X.A (call (.ref C) us) (EP X pins σ Q) X.xe s := by
  have hq := h (s.heap.objs.size + 1) s.heap.objs.size (I.hok.fresh (Nat.le_succ _)) (I.hok.fresh (Nat.le_refl _)) (Nat.ne_of_lt (Nat.lt_succ_self _))
  have J := Inv.made (C := C) I
  have r2 : Vals (V.ref (s.heap.objs.size + 1) :: (vs ++ dvs)) (Value.ref (s.heap.objs.size + 1) :: (us ++ ds)) := .cons rfl (r.append hd)
  have hl : (Value.ref (s.heap.objs.size + 1) :: us ++ ds).length = ps.length := r2.length.symm.trans (F.len _ _ _ _ hq)
  refine wpAny_call (make_map (f := f) I.kIn M.makes M.init (beq_iff_eq.mp M.fn) (codeAny_mono (F.run _ X.stack _ _ ⟨Value.ref (s.heap.objs.size + 1) :: us, []⟩ (Value.ref (s.heap.objs.size + 1) :: (us ++ ds)) _ _ (wAt W σ) (hr.make C us [])
    (J.env0.make C us []) (hb _ (Value.ref (s.heap.objs.size + 1) :: us) J.kIn hl) r2 hq) fun z s' hz => ?_))
  match z, hz with
  | .error e, hz => exact tk e s' (XE.of_call J (fun _ _ _ h => h) hz)
  | .ok (.ret u), hz =>
    obtain ⟨v, H', J3, rv, ev, q3⟩ := J.after hz
    subst ev
    exact ⟨rv, ⟨V.ref (s.heap.objs.size + 1), H', J3, rfl, q3⟩⟩
theorem pe_mkX (F : MadeX X.prog X.w X.K X.mg X.base x C ps dvs k sp) (tk : Takes X W) (hr : Room (k + 1) X.A) (hg : Gl X x) (ha : PA X (e :: es) t) (hdb : (x == ("__debug__" : Str)) = false := by decide)
    (he : starEach (e :: es) X.env = (false, eval e X.env) :: starEach es X.env := by rfl) (hpl : (backTo pos (starEach es X.env)).any (·.1) = false := by rfl) : PE X (.Call (.Name x p) (e :: es) [] pos) (tMakeX C sp dvs W t) := ⟨fun pins s σ H Q I h => by
  obtain ⟨f, fd, ds, hm, M, hb, hd, ok⟩ := F.ex
  refine wpAny_Call_Name_kw (ld_glob I hg hm ?_ hdb)
  refine PySem.W.callWith_K (h₀ := X.base) I.ok.mod.kin M.kp (thn (ha.run pos pins s σ H _ I h) fun us s1 hs => ?_) he hpl
  obtain ⟨vs, H1, J, r, q⟩ := hs
  exact ⟨J.kIn, run_makeX M ok hr hb hd tk J r q⟩⟩
end

/-- what raises nothing here, though it may -/
theorem FnX0 {P : Program} {w : World} {K : PySem.W.Frag} {mg : Str → Option Value} {base : Heap} {k : Nat} {f : Addr} {fd : FuncData} {ps : List Str} {sp : Sp} (F : FnOk P w K mg base (L2.CX P w) k f fd ps sp) : FnOk P w K mg base CX0 k f fd ps (fun vs H Q _ => sp vs H Q E0) :=
  ⟨fun vs H Q _ h => F.len vs H Q E0 h, fun A outer s H args us vs Q _ hr e0 hb r h => codeAny_mono (F.run A outer s H args us vs Q E0 hr e0 hb r h) fun z s' hq => by
    match z, hq with
    | .error e, hq =>
      obtain ⟨_, _, _, _, _, _, _, _, _, _, _, _, x⟩ := hq
      exact x.elim
    | .ok (.ret u), hq => exact hq⟩
/-- a block, with a word between its first statement and the rest -/
def tMid (t u : TS) : TS := fun D σ H => ∃ M : L2.St → Hp → Prop, t { D with nx := M } σ H ∧ ∀ σ' H', M σ' H' → u D σ' H'
theorem pss_mid {X : Cx} {s1 : Stmt} {ss : List Stmt} {t u : TS} (a : PS X s1 t) (b : PSs X ss u) : PSs X (s1 :: ss) (tMid t u) := ⟨fun pins s σ H D I ⟨M, hm, hu⟩ => by
  refine wpAny_execs_cons (thn (a.run pins s σ H { D with nx := M } I hm) fun z s1 q => ?_)
  match z, q with
  | .next, ⟨σ', H', I', q⟩ => exact b.run pins s1 σ' H' D I' (hu σ' H' q)
  | .ret _, q => exact q
  | .brk, q => exact q
  | .cont, q => exact q⟩
/-! ### range of two ints of any size -/
theorem turn_big {P : Program} {w : World} {K : PySem.W.Frag} {tg : Expr} (it : Addr) (lo : Int) (n : Nat) : Turn P w K tg (Itr lo n) [it] it (fun i h => IsLongIter h it (lo + (i : Nat) * 1) ((n : Int) - (i : Nat)) 1) where
  mem := List.mem_singleton.mpr rfl
  obj := fun i h st b hb => by
    cases List.mem_singleton.mp hb
    refine ⟨_, st, fun v z => ?_⟩
    have y : Data.fields _ = Data.cell v := z
    cases y
  keep := fun i h h' st k => k it (List.mem_singleton.mpr rfl) _ st
  item := by
    rintro X rfl rfl rfl hc i pins s σ H E I hf st hg
    obtain ⟨f0, f1, f2, f3, f4, f5⟩ := hf it (List.mem_singleton.mpr rfl)
    refine (Walks.longrange (prog := X.prog) (w := X.w) (I.ok.hd hc) it lo 1 n).item i s _ _ hg st fun v h' tk hv st' kk => ?_
    obtain ⟨t, rfl⟩ := hv
    have J : Inv X pins σ H { s with heap := h', toks := tk } := I.turned (fun b o hb e => kk b o (fun z => hb (List.mem_singleton.mp z)) e) f0 f1 f3 f4 f5
    exact ⟨_, rfl, go_of (s := { s with heap := h', toks := tk }) (n := "longrange_iterator") st' rfl rfl (by decide) ⟨.int (lo + i), H, J, ⟨t, by rw [Int.mul_one]⟩, ⟨rfl, rfl⟩, st', fun b hb => (hf b hb).1⟩⟩
  done := by
    rintro X rfl rfl rfl hc i pins s σ H E I hf st hg
    obtain ⟨f0, f1, f2, f3, f4, f5⟩ := hf it (List.mem_singleton.mpr rfl)
    have hn : n ≤ i := hg
    exact wpAny_pyNext_long_end (I.ok.hd hc) st (by omega) fun h' eb => ⟨rfl, I.turned (t' := s.toks) (fun b o hb e => eb b o hb e) f0 f1 f3 f4 f5⟩
  self := fun _ _ _ _ _ st h => wpAny_pyIter_longiter st h
section
variable {X : Cx} {tg : Expr}
theorem range_any {pins : List (Addr × Obj)} {σ : L2.St} {H : Hp} {s : Shared} {R : It → Hp → Prop} {E : Value → Shared → Prop} {lo hi : Int} {t u v : Tok} {tk : Nat} (I : Inv X pins σ H s) (q : R (Itr lo (hi - lo).toNat) H) :
    wpAny (model X.prog X.w) X.A (pyIter (.ref s.heap.objs.size)) (PIE X pins σ tg R) E { s with heap := s.heap.push { cls := .type "range", data := .fields #[.int lo t, .int hi u, .int 1 v] }, toks := tk } := by
  have J : Inv X pins σ H { s with heap := s.heap.push { cls := .type "range", data := .fields #[.int lo t, .int hi u, .int 1 v] }, toks := tk } := I.kept fun b o e => Heap.get?_push_of_some _ e
  have ef : ∀ b, b ∈ [(s.heap.push { cls := .type "range", data := .fields #[.int lo t, .int hi u, .int 1 v] }).objs.size] → b = (s.heap.push { cls := .type "range", data := .fields #[.int lo t, .int hi u, .int 1 v] }).objs.size := fun b hb => List.mem_singleton.mp hb
  have e1 : lo + ((0 : Nat) : Int) * 1 = lo := by simp
  have e2 : (((hi - lo).toNat : Nat) : Int) - ((0 : Nat) : Int) = Builtin.Range.rangeSize lo hi 1 := by
    rw [rangeSize_one]
    split <;> omega
  cases sm : Builtin.Range.small lo hi 1 with
  | true =>
    refine wpAny_pyIter_range (IsRange.new ..) sm ⟨_, _, _, _, H, rfl, J.kept (t' := tk) fun b o e => Heap.get?_push_of_some _ e, turn_range _ lo (hi - lo).toNat, ?_, fun b hb => ?_, q⟩
    · show IsRangeIter _ _ (lo + ((0 : Nat) : Int) * 1) ((((hi - lo).toNat : Nat) : Int) - ((0 : Nat) : Int)) 1
      rw [e1, e2]
      exact Heap.get?_push_size _ rfl
    · cases ef b hb
      exact J.fpOk (Nat.le_refl _) (J.hok.fresh (Nat.le_refl _))
  | false =>
    refine wpAny_pyIter_longrange (IsRange.new ..) sm ⟨_, _, _, _, H, rfl, J.kept (t' := tk) fun b o e => Heap.get?_push_of_some _ e, turn_big _ lo (hi - lo).toNat, ?_, fun b hb => ?_, q⟩
    · show IsLongIter _ _ (lo + ((0 : Nat) : Int) * 1) ((((hi - lo).toNat : Nat) : Int) - ((0 : Nat) : Int)) 1
      rw [e1, e2]
      exact Heap.get?_push_size _ rfl
    · cases ef b hb
      exact J.fpOk (Nat.le_refl _) (J.hok.fresh (Nat.le_refl _))
def iRngW (ta : TA) : TI := fun σ H R => ta σ H fun vs H1 => ∃ i j : Int, vs = [.int i, .int j] ∧ R (Itr i (j - i).toNat) H1
theorem pi_rangeW {a b : Expr} {ta : TA} {p pos : Pos} (hg : Gl X "range") (hm : X.mg "range" = none) (ha : PA X [a, b] ta) (hs : starEach [a, b] X.env = [(false, eval a X.env), (false, eval b X.env)] := by rfl) (hs2 : starEach [b] X.env = [(false, eval b X.env)] := by rfl) :
    PI X tg (.Call (.Name "range" p) [a, b] [] pos) (iRngW ta) := ⟨fun pins s σ H R I h => by
  refine PyProof.Rows.Call_ (ld_blt I hg hm PyProof.Rows.boot_range (PyProof.Rows.callWith_type1 (thn (ha.run pos pins s σ H _ I h) fun us s1 hu => ?_) (by rw [hs, hs2]) (by rw [hs2]; rfl)))
  obtain ⟨vs, H1, J, rv, i, j, e, q⟩ := hu
  subst e
  match us, rv with
  | [_, _], .cons ⟨t, r1⟩ (.cons ⟨t', r2⟩ .nil) =>
    cases r1
    cases r2
    exact call_range_2 (range_any J q)⟩
end
/-! ### C(e, .., k = v) -/
structure MadeN (P : Program) (w : World) (K : PySem.W.Frag) (mg : Str → Option Value) (base : Heap) (x : Str) (C : Addr) (ps ks : List Str) (n k : Nat) (sp : Sp) : Prop where
  ex : ∃ (f : Addr) (fd : FuncData) (g : List Value → List Value → List Value), mg x = some (.ref C) ∧ Mk K C f ∧ KBn K fd ps (n + 1) ks g (fun vs zs => vs ++ zs) ∧ FnOk P w K mg base CX0 k f fd ps sp
theorem pe_mkN {X : Cx} {C : Addr} {ps ks : List Str} {n k : Nat} {sp : Sp} {x : Str} {p pos : Pos} {e : Expr} {es : List Expr} {kws : List Keyword} {t tk : TA} (F : MadeN X.prog X.w X.K X.mg X.base x C ps ks n k sp) (hr : Room (k + 1) X.A) (hg : Gl X x) (ha : PA X (e :: es) t) (hkw : PK X kws tk)
    (hall : (backToKw pos (keywordEach kws X.env)).all (·.1.isSome) = true := by rfl) (hks : (backToKw pos (keywordEach kws X.env)).filterMap (·.1) = ks := by rfl)
    (hdb : (x == ("__debug__" : Str)) = false := by decide) (he : starEach (e :: es) X.env = (false, eval e X.env) :: starEach es X.env := by rfl)
    (hpl : ((backTo pos (starEach (e :: es) X.env)).any (·.1) || (backToKw pos (keywordEach kws X.env)).any (·.1.isNone)) = false := by rfl) : PE X (.Call (.Name x p) (e :: es) kws pos) (tMakeN C n ks.length sp (fun vs zs => vs ++ zs) E0 t tk) := by
  obtain ⟨f, fd, g, hm, M, hb, ok⟩ := F.ex
  exact pe_makeN M ok hr hg hm hb pass0 ha hkw hall hks hdb he hpl
theorem pe_fldK {X : Cx} {K : PySem.W.Frag} {e : Expr} {ta : TE} {f : Str} {pos : Pos} (he : PE X e ta) (hK : X.K = K) (hb : attributeBase e f X.env (eval e X.env) = eval e X.env) : PE X (.Attribute e f pos) (tFld K ta f) := by
  subst hK
  exact pe_fld he hb
/-! ### own operators that raise -/
def OpRS (X : Cx) (f : Value → Value → Sem Value) (r : L2.St → R2) : Prop :=
  ∀ (pins : List (Addr × Obj)) (s : Shared) (σ : L2.St) (H : Hp) (x y : V) (v u : Value) (Q : VK), Inv X pins σ H s → RelV x v → RelV y u → r σ x y H Q → wpAny (model X.prog X.w) X.A (f v u) (EP X pins σ Q) X.xe s
def tOpS (r : L2.St → R2) (ta tb : TE) : TE := fun σ H Q => ta σ H fun x H1 => tb σ H1 fun y H2 => r σ x y H2 Q
theorem pe_opS {X : Cx} {a b : Expr} {ta tb : TE} {pos : Pos} {op : Operator} {r : L2.St → R2} (ho : OpRS X (binaryOp op) r) (ha : PE X a ta) (hb : PE X b tb) : PE X (.BinOp a op b pos) (tOpS r ta tb) :=
  ⟨fun pins s σ H Q I h => wpAny_BinOp (binT ha hb I h fun v u s2 x y H2 J rx ry q => ho pins s2 σ H2 x y v u Q J rx ry q)⟩
def rOwnLX (C : Addr) (sp : Sp) (W : WX) : L2.St → R2 := fun σ x y H Q => ∃ a dx fs i, x = .ref a ∧ y = .int i ∧ H a = some (.ins C dx fs) ∧ sp [x, y] H Q (wAt W σ)
def rOwnRX (C : Addr) (sp : Sp) (W : WX) : L2.St → R2 := fun σ x y H Q => ∃ a dx fs i, y = .ref a ∧ x = .int i ∧ H a = some (.ins C dx fs) ∧ sp [y, x] H Q (wAt W σ)
structure OprLX (P : Program) (w : World) (K : PySem.W.Frag) (mg : Str → Option Value) (base : Heap) (C : Addr) (op : Operator) (ps : List Str) (k : Nat) (sp : Sp) : Prop where
  ex : ∃ (f : Addr) (fd : FuncData), OwnL K C op f ∧ Binds K fd ps [] ∧ FnOk P w K mg base (L2.CX P w) k f fd ps sp
structure OprRX (P : Program) (w : World) (K : PySem.W.Frag) (mg : Str → Option Value) (base : Heap) (C : Addr) (op : Operator) (ps : List Str) (k : Nat) (sp : Sp) : Prop where
  ex : ∃ (f : Addr) (fd : FuncData), OwnR K C op f ∧ Binds K fd ps [] ∧ FnOk P w K mg base (L2.CX P w) k f fd ps sp
section
variable {X : Cx} {C f : Addr} {ps : List Str} {k : Nat} {sp : Sp} {op : Operator} {W : WX}
theorem op_LX (F : OprLX X.prog X.w X.K X.mg X.base C op ps k sp) (tk : Takes X W) (hr : Room k X.A) : OpRS X (binaryOp op) (rOwnLX C sp W) := by
  rintro pins s σ H x y v u Q I rx ry ⟨a, dx, fs, i, rfl, rfl, ea, q⟩
  obtain ⟨f, fd, O, hb, ok⟩ := F.ex
  cases rx
  obtain ⟨t, rfl⟩ := ry
  obtain ⟨mA, O', _⟩ := ins_get I.hok ea
  obtain ⟨od, J, _⟩ := O'.look
  obtain ⟨m, Fr⟩ := I.fr
  obtain ⟨rc, hrc, hp⟩ := O.rr
  obtain ⟨fo, h1⟩ := O.i1
  obtain ⟨ro, h2⟩ := O.i2
  refine PySem.W.ksp_binT Fr I.mod.kin J rfl O.sf O.find O.fn hrc hp h1 h2 O.sub ?_
  refine thn (run_fnX (us := [.ref a, .int i t]) (vs := [.ref a, .int i]) ok hr hb .nil tk I (.cons rfl (.cons ⟨t, rfl⟩ .nil)) q) fun u' s' ⟨v', H', I', rv, hv⟩ => ?_
  exact relV_back rv ⟨v', H', I', rv, hv⟩
theorem op_RX (F : OprRX X.prog X.w X.K X.mg X.base C op ps k sp) (N : IntNo op) (tk : Takes X W) (hr : Room k X.A) : OpRS X (binaryOp op) (rOwnRX C sp W) := by
  rintro pins s σ H x y v u Q I rx ry ⟨a, dx, fs, i, rfl, rfl, ea, q⟩
  obtain ⟨f, fd, O, hb, ok⟩ := F.ex
  cases ry
  obtain ⟨t, rfl⟩ := rx
  obtain ⟨mA, O', _⟩ := ins_get I.hok ea
  obtain ⟨od, J, _⟩ := O'.look
  obtain ⟨m, Fr⟩ := I.fr
  obtain ⟨rc, hrc, hp⟩ := O.ll
  obtain ⟨idl, slot, dec⟩ := N.ex
  refine own_right Fr I.mod.kin J O.sf hrc hp O.find O.fn O.sub N.fills slot (fun Q' hq => dec O'.obj rfl hq) ?_
  refine thn (run_fnX (us := [.ref a, .int i t]) (vs := [.ref a, .int i]) ok hr hb .nil tk I (.cons rfl (.cons ⟨t, rfl⟩ .nil)) q) fun u' s' ⟨v', H', I', rv, hv⟩ => ?_
  exact relV_back rv ⟨v', H', I', rv, hv⟩
end

/-! ### o op p, both of one own class -/
section
open PySem.W PySem.Calls PyProof.Rows
theorem own_same {prog : Program} {w : World} {A : Around} {E : Value → Shared → Prop} {s : Shared} {K : Frag} {x C L f : Addr} {h₀ : Heap} {m : Str → Option Value} {ox : Obj} {od : Option Obj} {v : Value} {op : Operator} {Q : Value → Shared → Prop}
    (F : Fr h₀ L s.heap m) (X₀ : K.In h₀) (I : InstAt s.heap x ox C od) (hv : Looks (model prog w) s.heap (typeOf v) (.ref C)) (hc : selfFirst K C = true)
    (hs : findIn K (.ref C) (PySem.dunder op.info.2) = some (some (.ref f))) (hf : isFn K (.ref f) = true) (h : wpAny (model prog w) A (call (.ref f) [.ref x, v]) (PySem.W.CmpBack Q) E s) : wpAny (model prog w) A (binaryOp op (.ref x) v) Q E s := by
  have X := X₀.keeps F.keep
  obtain ⟨cd, rest, hcd, hm⟩ := ksp_first hc
  rcases hi : op.info with ⟨sym, nm'⟩
  rw [hi] at hs
  dsimp only at hs
  have one := ksp_try X I hs hf h
  obtain ⟨hh, g, d, tt, os⟩ := s
  have L3 : Looks (model prog w) hh (fillsNumberSlot (.ref C) nm') true := fills_K X hcd hm hs
  simp only [binaryOp, hi]
  refine wpAny_holding (wpAny_bind ?_)
  unfold binaryOp1
  refine wpAny_bind (I.type.at (wpAny_bind (hv.at (wpAny_bind (L3.at ?_)))))
  simp only [beq_self_eq_true, if_true, pure_bind, Bool.and_false, Bool.false_and, Bool.false_eq_true, if_false]
  refine wpAny_bind (wpAny_mono one (fun r s2 hr2 => ?_) fun _ _ e => e)
  obtain ⟨u, rfl, hq⟩ := hr2
  exact wpAny_pure (wpAny_pure hq)
end
structure OwnS (K : PySem.W.Frag) (C : Addr) (op : Operator) (f : Addr) : Prop where
  sf : PySem.W.selfFirst K C = true
  find : PySem.W.findIn K (.ref C) (PySem.dunder op.info.2) = some (some (.ref f))
  fn : PySem.W.isFn K (.ref f) = true
structure OprSX (P : Program) (w : World) (K : PySem.W.Frag) (mg : Str → Option Value) (base : Heap) (C : Addr) (op : Operator) (ps : List Str) (k : Nat) (sp : Sp) : Prop where
  ex : ∃ (f : Addr) (fd : FuncData), OwnS K C op f ∧ Binds K fd ps [] ∧ FnOk P w K mg base (L2.CX P w) k f fd ps sp
def rOwnSX (C : Addr) (sp : Sp) (W : WX) : L2.St → R2 := fun σ x y H Q => ∃ a dx fs b dy gs, x = .ref a ∧ y = .ref b ∧ H a = some (.ins C dx fs) ∧ H b = some (.ins C dy gs) ∧ sp [x, y] H Q (wAt W σ)
theorem op_SX {X : Cx} {C : Addr} {ps : List Str} {k : Nat} {sp : Sp} {op : Operator} {W : WX} (F : OprSX X.prog X.w X.K X.mg X.base C op ps k sp) (tk : Takes X W) (hr : Room k X.A) : OpRS X (binaryOp op) (rOwnSX C sp W) := by
  rintro pins s σ H x y v u Q I rx ry ⟨a, dx, fs, b, dy, gs, rfl, rfl, ea, eb, q⟩
  obtain ⟨f, fd, O, hb, ok⟩ := F.ex
  cases rx
  cases ry
  obtain ⟨mA, O', _⟩ := ins_get I.hok ea
  obtain ⟨od, J, _⟩ := O'.look
  obtain ⟨mB, O2, _⟩ := ins_get I.hok eb
  obtain ⟨od2, J2, _⟩ := O2.look
  obtain ⟨m, Fr⟩ := I.fr
  refine own_same Fr I.mod.kin J J2.type O.sf O.find O.fn ?_
  refine thn (run_fnX (us := [.ref a, .ref b]) (vs := [.ref a, .ref b]) ok hr hb .nil tk I (.cons rfl (.cons rfl .nil)) q) fun u' s' ⟨v', H', I', rv, hv⟩ => ?_
  exact relV_back rv ⟨v', H', I', rv, hv⟩

/-! ### C.m(..), m a staticmethod -/
structure SMth (P : Program) (w : World) (K : PySem.W.Frag) (mg : Str → Option Value) (base : Heap) (C : Addr) (m : Str) (ps : List Str) (k : Nat) (sp : Sp) : Prop where
  cr : ClX.CRead K C (.type "type")
  ex : ∃ (f p : Addr) (rest : List Value) (fd : FuncData), PySem.W.findCls K (.ref C) (.type "type") m = some (.get (.builtin "staticmethod.__get__") (.ref p) .none (.ref C)) ∧ PySem.W.recIn K p "staticmethod" = some (.ref f :: rest) ∧ PySem.W.keepIn K (.ref f) = true ∧ Binds K fd ps [] ∧ FnOk P w K mg base CX0 k f fd ps sp
def tSMth (C : Addr) (sp : Sp) (to : TE) (t : TA) : TE := fun σ H Q => to σ H fun x H1 => x = .ref C ∧ t σ H1 fun vs H2 => sp (vs ++ []) H2 Q E0
theorem pe_smth {X : Cx} {C : Addr} {m : Str} {ps : List Str} {k : Nat} {sp : Sp} {o e : Expr} {es : List Expr} {to : TE} {t : TA} {pos apos : Pos} {pl : Sem Bool} (F : SMth X.prog X.w X.K X.mg X.base C m ps k sp) (hr : Room k X.A) (ho : PE X o to) (ha : PA X (e :: es) t)
    (hst : starEach (e :: es) X.env = (false, eval e X.env) :: starEach es X.env := by rfl) (hpl : (backTo pos (starEach es X.env)).any (·.1) = false := by rfl)
    (ht : eval (.Call (.Attribute o m apos) (e :: es) [] pos) X.env = (do
      let ov ← eval o X.env; standAt apos.atName
      let (f, first) ← holding [ov] (getMethod ov m pl)
      callWith pos f first (backTo pos (starEach (e :: es) X.env)) (backToKw pos (keywordEach [] X.env))) := by rfl) :
    PE X (.Call (.Attribute o m apos) (e :: es) [] pos) (tSMth C sp to t) := ⟨fun pins s σ H Q I h => by
  obtain ⟨f, p, rest, fd, hfc, hrc, hk, hb, ok⟩ := F.ex
  refine PySem.W.methodCall_KW (pl := pl) (thn (ho.run pins s σ H _ I h) fun u s1 hs => ?_) ht
  obtain ⟨x, H1, J, rx, ex, q⟩ := hs
  subst ex
  cases rx
  refine PySem.W.method_cls J.kIn F.cr.ga (PySem.W.cls_bind J.kIn F.cr.rd hfc (wpAny_call (PySem.W.sm_get (s := { s1 with toks := s1.toks + 1 }) J.kIn hrc ?_)))
  refine PySem.W.handed_on rfl ?_
  have J' := J.tok (s1.toks + 1)
  refine PySem.W.callWith_K (h₀ := X.base) J.ok.mod.kin hk (thn (ha.run pos pins _ σ H1 _ J' q) fun us s2 hs => ?_) hst hpl
  obtain ⟨vs, H2, J2, r, q2⟩ := hs
  exact ⟨J2.kIn, run_fn ok hr hb .nil pass0 J2 r q2⟩⟩

/-! ### x not in o, by an own __contains__ -/
def rOwnNin (C : Addr) (sp : Sp) : R2 := fun x y H Q => ∃ a dx fs, y = .ref a ∧ H a = some (.ins C dx fs) ∧ sp [y, x] H (fun v H' => ∃ c, v = .bl c ∧ Q (.bl (!c)) H') E0
theorem op_notin {X : Cx} {C : Addr} {ps : List Str} {k : Nat} {sp : Sp} (F : Opr X.prog X.w X.K X.mg X.base C "__contains__" ps k sp) (hr : Room k X.A) : OpR X (compareOp .NotIn) (rOwnNin C sp) := by
  rintro pins s σ H x y v u Q I rx ry ⟨a, dx, fs, rfl, ea, q⟩
  obtain ⟨f, fd, O, hb, ok⟩ := F.ex
  cases ry
  obtain ⟨mA, O', _⟩ := ins_get I.hok ea
  obtain ⟨od, J, _⟩ := O'.look
  obtain ⟨m, Fr⟩ := I.fr
  refine PySem.W.notIn_K Fr I.mod.kin J O.find O.fn ?_
  refine thn (run_fn (us := [.ref a, v]) (vs := [.ref a, x]) ok hr hb .nil pass0 I (.cons rfl (.cons rx .nil)) q) fun u' s' hs => ?_
  obtain ⟨v', H', I', rv, b, rfl, q'⟩ := hs
  cases rv
  exact wpAny_truthy_bool ⟨.bl (!b), H', I', rfl, q'⟩

/-! ### a caught error of an own class: isinstance -/
/-- what the class D must say, so that isinstance asks its instances rightly -/
structure XIs (K : PySem.W.Frag) (D : Addr) : Prop where
  x : XfC K D
  cl : (PySem.W.clsIn K D).isSome = true
  ha : PySem.W.findIn K (.ref D) "__class__" = some (some (.builtin "object.__class__"))
  hn : PySem.W.specialIn K (.builtin "object.__class__") "__get__" = some (some (.builtin "getset_descriptor.__get__"))
  ht : PySem.W.takesIn K (.builtin "object.__class__") = some true
  hm : PySem.W.mroIn K D (.type "object") = some true
def rIsX (K : PySem.W.Frag) (a : Addr) (cls : Value) (d : Option Addr) (D : Addr) : List V → Hp → VK → Prop := fun xs H Q => ∃ (c : V) (cv : Value) (b : Bool) (dd : Addr) (fs : List (Str × V)), xs = [.ref a, c] ∧ cls = .ref D ∧ d = some dd ∧ H dd = some (.xd fs) ∧
  (∀ u, RelV c u → u = cv) ∧ PySem.W.kitOne K (.ref D) cv = some b ∧ Q (.bl b) H
theorem call_isX {X : Cx} {a D : Addr} {oe : Obj} {cls : Value} {d : Option Addr} {pn : List (Addr × Obj)} (N : XIs X.K D) (hz : Zc cls d oe) (hf : ∃ vs, oe.data = .fields vs) : CallR (X.suite a ((a, oe) :: pn)) (.builtin "isinstance") (rIsX X.K a cls d D) := by
  rintro pins s σ H xs us Q I r ⟨c, cv, b, dd, fs, rfl, rfl, rfl, ed, hcv, e, q⟩
  match us, r with
  | [u0, u1], .cons rx (.cons rt .nil) =>
    cases rx
    have ec := hcv _ rt
    subst ec
    have hget := (I.pin (a, oe) (List.mem_append.mpr (.inl List.mem_cons_self))).1
    obtain ⟨vs, hv⟩ := hf
    have hx : ObjOk X.prog X.w H s.heap dd (.xd fs) := I.hok dd _ ed
    obtain ⟨mA, hns, hrel⟩ := hx
    obtain ⟨od, ho, hl⟩ := lookIn_ns hns
    have J : PySem.W.InstAt s.heap a oe D (some od) := ⟨hget, hz.1, by unfold PySem.W.notCls; rw [hv] <;> rfl, by rw [hz.2]; exact ho⟩
    exact PySem.W.kia_one (PySem.W.kitx_exc N.cl N.x.ga N.x.gg N.x.exC N.ha N.hn N.ht N.hm) I.kIn J e (fun z => nomatch z) fun tk => ⟨.bl b, H, I.kept (t' := tk) fun _ _ z => z, rfl, q⟩
/-- the clause's test: the very class -/
theorem exm_own {K : PySem.W.Frag} {C : Addr} {cls : Value} {b : Bool} (h1 : PySem.W.subIn K (.ref C) (.type "BaseException") = some true) (hc : (PySem.W.clsIn K C).isSome = true) (ht : PySem.W.typeIn K (.ref C) = some (.type "type")) (h4 : PySem.W.subIn K cls (.ref C) = some b) :
    PySem.W.exmOne K cls (.ref C) = some b := by
  have e1 : (PySem.W.subIn K (.ref C) (.type "BaseException") == some true) = true := by rw [h1] <;> rfl
  have e2 : ((PySem.W.clsIn K C).isSome && PySem.W.typeIn K (.ref C) == some (.type "type")) = true := by rw [hc, ht] <;> rfl
  show (if (PySem.W.subIn K (.ref C) (.type "BaseException") == some true) = true then (if ((PySem.W.clsIn K C).isSome && PySem.W.typeIn K (.ref C) == some (.type "type")) = true then PySem.W.subIn K cls (.ref C) else none) else none) = some b
  rw [if_pos e1, if_pos e2, h4]
/-- all that is used of an own error class -/
structure ETxt (K : PySem.W.Frag) (mg : Str → Option Value) (x : Str) (C : Addr) : Prop where
  g : mg x = some (.ref C)
  oex : OexC K C
  is : XIs K C
  te : PySem.W.exmOne K (.ref C) (.ref C) = some true
theorem kit_xC {K : PySem.W.Frag} {t : Value} {D : Addr} {b : Bool} (h1 : PySem.W.isClsIn K D = true) (h2 : PySem.W.typeIn K (.ref D) = some (.type "type")) (h3 : PySem.W.subIn K t (.ref D) = some b) : (t = .ref D → b = true) → PySem.W.kitOne K t (.ref D) = some b := fun hb => by
  unfold PySem.W.kitOne
  by_cases e : t = .ref D
  · rw [if_pos (beq_iff_eq.mpr e), hb e]
  · rw [if_neg (fun z => e (beq_iff_eq.mp z))]
    have q : ((PySem.W.clsIn K D).isSome && PySem.W.typeIn K (.ref D) == some (.type "type")) = true := by
      rw [h2, show (PySem.W.clsIn K D).isSome = true from h1]
      rfl
    show (if ((PySem.W.clsIn K D).isSome && PySem.W.typeIn K (.ref D) == some (.type "type")) = true then PySem.W.subIn K t (.ref D) else none) = some b
    rw [if_pos q, h3]
theorem kit_xT {K : PySem.W.Frag} {C : Addr} {b : Bool} (h3 : PySem.W.subIn K (.ref C) (.type "ValueError") = some b) : PySem.W.kitOne K (.ref C) (.type "ValueError") = some b := by
  have km : PySem.W.kitMeta "ValueError" = true := by decide +kernel
  have e : PySem.W.kitCls K (.ref C) (.type "ValueError") = some b := by
    show (if PySem.W.kitMeta "ValueError" = true then PySem.W.subIn K (.ref C) (.type "ValueError") else none) = some b
    rw [if_pos km]
    exact h3
  show (if ((Value.ref C) == (.type "ValueError")) = true then some true else PySem.W.kitCls K (.ref C) (.type "ValueError")) = some b
  have ne : ¬ ((Value.ref C == .type "ValueError") = true) := fun z => by cases beq_iff_eq.mp z
  rw [if_neg ne]
  exact e
/-! ### what such an __init__ leaves, and raise -/
/-- __init__(self, x): self.f = x -/
def spErr1 (C : Addr) (f : Str) (ok : V → Prop) : Sp := fun vs H Q _ => ∃ (a : Addr) (v : V), vs = [.ref a, v] ∧ H a = some (exo a C none) ∧ ok v ∧ ∀ d, H d = none → d ≠ a → Q .non (upd (upd H d (exd d [(f, v)])) a (exo a C (some d)))
/-- __init__(self, x, y): self.f = x; self.g = y -/
def spErr2 (C : Addr) (f g : Str) (ok : V → V → Prop) : Sp := fun vs H Q _ => ∃ (a : Addr) (v u : V), vs = [.ref a, v, u] ∧ H a = some (exo a C none) ∧ ok v u ∧ ∀ d, H d = none → d ≠ a → Q .non (upd (upd (upd H d (exd d [(f, v)])) a (exo a C (some d))) d (exd d [(g, u), (f, v)]))
section
variable {K : PySem.W.Frag} {H : Hp} {C : Addr} {f g : Str}
/-- an error with one field is made -/
theorem rErr1 {ok : V → Prop} {v : V} {R : XK} (o : ok v) (h : ∀ d H', H d = none → Same H H' → H' d = some (.xd [(f, v)]) → R (.ref C) (some d) H') :
    [v].length ≤ 1000 ∧ ∀ a, H a = none → spErr1 C f ok (.ref a :: ([v] ++ [])) (upd H a (exo a C none)) (fun z H2 => z = .non ∧ ∃ (d : Addr) (fs : List (Str × V)), H2 a = some (exo a C (some d)) ∧ H2 d = some (exd d fs) ∧ H d = none ∧ R (.ref C) (some d) (upd (del H2 a) d (.xd fs))) (fun _ _ _ => False) := by
  refine ⟨(by show 1 ≤ 1000; decide), fun a ha => ⟨a, v, rfl, upd_same, o, fun d hd ne => ⟨rfl, d, _, upd_same, ?_, ?_, h _ _ ?_ (fun b u e => ?_) upd_same⟩⟩⟩
  · rw [upd_ne ne, upd_same]
  · rwa [upd_ne ne] at hd
  · rwa [upd_ne ne] at hd
  · have hd' : H d = none := by rwa [upd_ne ne] at hd
    have nd : b ≠ d := ne_of_none e hd'
    have na : b ≠ a := ne_of_none e ha
    rw [upd_ne nd, del_ne na, upd_ne na, upd_ne nd, upd_ne na, e]
theorem rErr2 {ok : V → V → Prop} {v u : V} {R : XK} (o : ok v u) (h : ∀ d H', H d = none → Same H H' → H' d = some (.xd [(g, u), (f, v)]) → R (.ref C) (some d) H') :
    [v, u].length ≤ 1000 ∧ ∀ a, H a = none → spErr2 C f g ok (.ref a :: ([v, u] ++ [])) (upd H a (exo a C none)) (fun z H2 => z = .non ∧ ∃ (d : Addr) (fs : List (Str × V)), H2 a = some (exo a C (some d)) ∧ H2 d = some (exd d fs) ∧ H d = none ∧ R (.ref C) (some d) (upd (del H2 a) d (.xd fs))) (fun _ _ _ => False) := by
  refine ⟨(by show 2 ≤ 1000; decide), fun a ha => ⟨a, v, u, rfl, upd_same, o, fun d hd ne => ⟨rfl, d, _, ?_, upd_same, ?_, h _ _ ?_ (fun b u e => ?_) upd_same⟩⟩⟩
  · rw [upd_ne (Ne.symm ne), upd_same]
  · rwa [upd_ne ne] at hd
  · rwa [upd_ne ne] at hd
  · have hd' : H d = none := by rwa [upd_ne ne] at hd
    have nd : b ≠ d := ne_of_none e hd'
    have na : b ≠ a := ne_of_none e ha
    rw [upd_ne nd, del_ne na, upd_ne nd, upd_ne na, upd_ne nd, upd_ne na, e]
theorem lk_hd {f : Str} {v : V} {fs : List (Str × V)} : ((f, v) :: fs).lookup f = some v := by simp [List.lookup]
theorem lk_tl {f g : Str} {v u : V} {fs : List (Str × V)} (n : (f == g) = false) (h : fs.lookup f = some v) : ((g, u) :: fs).lookup f = some v := by simp [List.lookup, n, h]
theorem rCat_ {l b : Addr} {xs zs : List V} {Q : VK} (h1 : H l = some (.lst xs)) (h2 : H b = some (.lst zs)) (hz : xs.length + zs.length ≤ sizeLine) (h : ∀ p, H p = none → Q (.ref p) (upd H p (.lst (xs ++ zs)))) : rCat (.ref l) (.ref b) H Q := ⟨l, b, xs, zs, rfl, rfl, h1, h2, hz, h⟩
/-- a tuple is unpacked -/
theorem rTupU {a : Addr} {n : Nat} {xs : List V} {t : TGs} {σ : L2.St} {R : L2.St → Hp → Prop} (h : SqT K H a xs) (l : xs.length = n) (q : t xs σ H R) : gTup K n t (.ref a) σ H R := ⟨a, xs, rfl, h, l, q⟩
/-- the clause takes it -/
theorem rTake {c cls : Value} {i : Nat} {ts : Addr → Value → Option Addr → TS} {Wout : WX} {D : Ends} {σ : L2.St} {d : Option Addr} (te : PySem.W.exmOne K cls c = some true)
    (h : ∀ a, H a = none → ts a cls d { nx := fun σ' H' => D.nx (σ'.set i none) H', rt := D.rt, bk := fun σ' H' => D.bk (σ'.set i none) H', ct := fun σ' H' => D.ct (σ'.set i none) H' } (σ.set i (some (.ref a))) H) : wAs K c i ts Wout D cls d σ H :=
  ⟨true, te, fun _ => h, fun z => nomatch z⟩
/-- e.f of the caught error -/
theorem rXf {a dd : Addr} {fs : List (Str × V)} {v : V} {R : V → Prop} (hd : H dd = some (.xd fs)) (l : fs.lookup f = some v) (r : R v) :
    (V.ref a : V) = .ref a ∧ (Value.ref C : Value) = .ref C ∧ ∃ (d' : Addr) (fs : List (Str × V)) (v : V), some dd = some d' ∧ H d' = some (.xd fs) ∧ fs.lookup f = some v ∧ R v := ⟨rfl, rfl, dd, fs, v, rfl, hd, l, r⟩
theorem rIsX_ {c : V} {cv : Value} {b : Bool} {a dd D : Addr} {fs : List (Str × V)} {Q : VK} (hd : H dd = some (.xd fs)) (hc : ∀ u, RelV c u → u = cv) (k : PySem.W.kitOne K (.ref D) cv = some b) (q : Q (.bl b) H) : rIsX K a (.ref D) (some dd) D [.ref a, c] H Q :=
  ⟨c, cv, b, dd, fs, rfl, rfl, rfl, hd, hc, k, q⟩
theorem rIsXC {E : Addr} {b : Bool} {a dd D : Addr} {fs : List (Str × V)} {Q : VK} (hd : H dd = some (.xd fs)) (k : PySem.W.kitOne K (.ref D) (.ref E) = some b) (q : Q (.bl b) H) : rIsX K a (.ref D) (some dd) D [.ref a, .ref E] H Q :=
  rIsX_ hd (fun _ h => h) k q
theorem rIsXT {T : String} {b : Bool} {a dd D : Addr} {fs : List (Str × V)} {Q : VK} (hd : H dd = some (.xd fs)) (k : PySem.W.kitOne K (.ref D) (.type T) = some b) (q : Q (.bl b) H) : rIsX K a (.ref D) (some dd) D [.ref a, .ty T] H Q :=
  rIsX_ hd (fun _ h => h) k q
end
/-- a loop over range(i, j) -/
theorem forW {D : Ends} {σ : L2.St} {H : Hp} {g : TG} {tb : TS} {i j : Int} (n : Nat) (e : (j - i).toNat = n) (Pv : Nat → L2.St → Hp → Prop) (h0 : Pv 0 σ H)
    (hs : ∀ k σ H, k < n → Pv k σ H → g (.int (i + (k : Int))) σ H fun σ2 H2 => tb ⟨Pv (k + 1), D.rt, D.nx, Pv (k + 1)⟩ σ2 H2) (hd : ∀ σ H, Pv n σ H → D.nx σ H) :
    ∃ i' j', [V.int i, V.int j] = [V.int i', V.int j'] ∧ ∃ W : Nat → Nat → L2.St → Hp → Prop, (∃ m, W 0 m σ H) ∧ ∀ k m σ H, W k m σ H →
      ((Itr i' (j' - i').toNat).stop k H ∧ D.nx σ H) ∨ ((Itr i' (j' - i').toNat).go k H ∧ ∃ N : L2.St → Hp → Prop, (∀ σ' H', N σ' H' → ∃ m', m' < m ∧ W (k + 1) m' σ' H') ∧ ∀ x H', (Itr i' (j' - i').toNat).yld k H x H' → g x σ H' fun σ2 H2 => tb { D with nx := N, ct := N, bk := D.nx } σ2 H2) := by
  subst e
  exact ⟨i, j, rfl, for_range (lo := i) (n := (j - i).toNat) Pv h0 hs hd⟩
theorem rMin2 {i j : Int} {H : Hp} {Q : VK} (h : Q (.int (if j < i then j else i)) H) : ∃ i' j', [V.int i, V.int j] = [V.int i', V.int j'] ∧ Q (.int (if j' < i' then j' else i')) H := ⟨i, j, rfl, h⟩
section
variable {D : Ends} {σ : L2.St} {H : Hp} {Q : VK} {sp : Sp} {dvs : List V} {W : WX} {t : TA} {ta tb te : TE} {C : Addr} {R : XK} {K : PySem.W.Frag} {f m : Str}
instance : Rd (tCallX sp dvs W t σ H Q) (t σ H fun vs H1 => sp (vs ++ dvs) H1 Q (wAt W σ)) := ⟨fun h => h⟩
instance : Rd (tMakeX C sp dvs W t σ H Q) (t σ H fun vs H1 => ∀ x dx, H1 x = none → H1 dx = none → dx ≠ x →
  sp (.ref x :: (vs ++ dvs)) (upd (upd H1 dx (.own x)) x (.ins C dx [])) (fun v H2 => v = .non ∧ Q (.ref x) H2) (wAt W σ)) := ⟨fun h => h⟩
instance : Rd (tMethX C m sp dvs W ta t σ H Q) (ta σ H fun x H1 => ∃ a dx fs, x = .ref a ∧ H1 a = some (.ins C dx fs) ∧ fs.lookup m = none ∧ t σ H1 fun vs H2 => sp (x :: (vs ++ dvs)) H2 Q (wAt W σ)) := ⟨fun h => h⟩
instance {to : TE} : Rd (tSMth C sp to t σ H Q) (to σ H fun x H1 => x = .ref C ∧ t σ H1 fun vs H2 => sp (vs ++ []) H2 Q E0) := ⟨fun h => h⟩
instance {r : L2.St → R2} : Rd (tOpS r ta tb σ H Q) (ta σ H fun x H1 => tb σ H1 fun y H2 => r σ x y H2 Q) := ⟨fun h => h⟩
instance : Rd (tMkO C sp dvs t σ H R) (t σ H fun vs H1 => vs.length ≤ 1000 ∧ ∀ a, H1 a = none → sp (.ref a :: (vs ++ dvs)) (upd H1 a (exo a C none))
  (fun v H2 => v = .non ∧ ∃ (d : Addr) (fs : List (Str × V)), H2 a = some (exo a C (some d)) ∧ H2 d = some (exd d fs) ∧ H1 d = none ∧ R (.ref C) (some d) (upd (del H2 a) d (.xd fs))) (fun _ _ _ => False)) := ⟨fun h => h⟩
instance : Rd (tVeI K t σ H Q) (t σ H fun vs H1 => ∃ (a C : Addr) (ws : List V), vs = .ref a :: ws ∧ ws.length ≤ 1000 ∧ OexC K C ∧ H1 a = some (exo a C none) ∧ Q .non H1) := ⟨fun h => h⟩
instance : Rd (tOst K f ta te D σ H) (te σ H fun y H1 => ta σ H1 fun x H2 => ∃ a C : Addr, x = .ref a ∧ OexC K C ∧ PySem.W.findIn K (.ref C) f = some none ∧
  ((H2 a = some (exo a C none) ∧ ∀ dx, H2 dx = none → dx ≠ a → D.nx σ (upd (upd H2 dx (exd dx [(f, y)])) a (exo a C (some dx)))) ∨
    ∃ (dx : Addr) (fs : List (Str × V)), H2 a = some (exo a C (some dx)) ∧ H2 dx = some (exd dx fs) ∧ fs.length ≤ 900 ∧ D.nx σ (upd H2 dx (exd dx ((f, y) :: fs))))) := ⟨fun h => h⟩
instance {a : Addr} {cls : Value} {d : Option Addr} : Rd (tXf a cls d C f te σ H Q) (te σ H fun x H1 => x = .ref a ∧ cls = .ref C ∧ ∃ (dd : Addr) (fs : List (Str × V)) (v : V), d = some dd ∧ H1 dd = some (.xd fs) ∧ fs.lookup f = some v ∧ Q v H1) := ⟨fun h => h⟩
instance {n m : Nat} {gV : List V → List V → List V} {E : XK} {tk : TA} : Rd (tMakeN C n m sp gV E t tk σ H Q) (t σ H fun vs H1 => tk σ H1 fun zs H2 => vs.length = n ∧ zs.length = m ∧
  ∀ x dx, H2 x = none → H2 dx = none → dx ≠ x → sp (gV (.ref x :: vs) zs) (upd (upd H2 dx (.own x)) x (.ins C dx [])) (fun v H3 => v = .non ∧ Q (.ref x) H3) E) := ⟨fun h => h⟩
instance {i j : Nat} : Rd (tPar i j t D σ H) (t σ H fun vs H1 => ∃ v w, vs = [v, w] ∧ D.nx ((σ.set i (some v)).set j (some w)) H1) := ⟨fun h => h⟩
instance {x y : V} {R : V → V → Prop} : Rd (∃ v w, [x, y] = [v, w] ∧ R v w) (R x y) := ⟨fun h => ⟨x, y, rfl, h⟩⟩
instance {QI : It → Hp → Prop} : Rd (iRngW t σ H QI) (t σ H fun vs H1 => ∃ i j : Int, vs = [.int i, .int j] ∧ QI (Itr i (j - i).toNat) H1) := ⟨fun h => h⟩
instance : Rd (tRevL K te σ H Q) (te σ H fun x H1 => ∃ a xs, x = .ref a ∧ SqL K H1 a xs ∧ ∀ p, H1 p = none → Q (.ref p) (upd H1 p (.lst xs.reverse))) := ⟨fun h => h⟩
instance {y : V} {ys : List V} {S : V → List V → Prop} : Rd (∃ v r, (y :: ys) = v :: r ∧ S v r) (S y ys) := ⟨fun h => ⟨y, ys, rfl, h⟩⟩
instance {R : Prop} : Rd (([] : List V) = [] ∧ R) R := ⟨fun h => ⟨rfl, h⟩⟩
instance {tg : TG} {u : TGs} {vs : List V} {QS : L2.St → Hp → Prop} : Rd (gCons tg u vs σ H QS) (∃ v r, vs = v :: r ∧ tg v σ H fun σ' H' => u r σ' H' QS) := ⟨fun h => h⟩
instance {vs : List V} {QS : L2.St → Hp → Prop} : Rd (gNil vs σ H QS) (vs = [] ∧ QS σ H) := ⟨fun h => h⟩
instance {d : Option Addr} {cls : Value} : Rd (wAt W σ cls d H) (W cls d σ H) := ⟨fun h => h⟩
end
section
variable {σ τ : L2.St} {H : Hp} {g : TG} {tt : TT} {te : TE} {vs : List Nat}
/-- over a tuple that stands still -/
theorem lcT {K : PySem.W.Frag} {a : Addr} {xs : List V} {R : Addr → Hp → Prop} (ew : wipe σ vs = τ) (hx : SqT K H a xs)
    (h : ∀ D, H D = none → ∃ Pv : Nat → Hp → Prop, Pv 0 (upd H D (.lst [])) ∧ (∀ i H', i ≤ xs.length → Pv i H' → SqT K H' a xs) ∧
      (∀ i x H', xs[i]? = some x → Pv i H' → g x τ H' fun σ2 H2 => wipe σ2 vs = τ ∧ tt σ2 H2 fun b H3 =>
        if b = true then te σ2 H3 fun y H4 => ∃ acc, H4 D = some (.lst acc) ∧ acc.length < sizeLine ∧ Pv (i + 1) (upd H4 D (.lst (acc ++ [y]))) else Pv (i + 1) H3) ∧ ∀ H', Pv xs.length H' → R D H') :
    ∃ a', V.ref a = V.ref a' ∧ (∃ xs, SqT K H a' xs) ∧ ∀ D, H D = none → ∃ W : Nat → Nat → Hp → Prop, (∃ m, W 0 m (upd H D (.lst []))) ∧ ∀ i m H, W i m H →
      ((Itt K a').stop i H ∧ R D H) ∨ ((Itt K a').go i H ∧ ∃ Nx : Hp → Prop, (∀ H', Nx H' → ∃ m', m' < m ∧ W (i + 1) m' H') ∧ ∀ x H', (Itt K a').yld i H x H' → g x (wipe σ vs) H' fun σ2 H2 => wipe σ2 vs = wipe σ vs ∧ tt σ2 H2 fun b H3 =>
        if b = true then te σ2 H3 fun y H4 => ∃ acc, H4 D = some (.lst acc) ∧ acc.length < sizeLine ∧ Nx (upd H4 D (.lst (acc ++ [y]))) else Nx H3) := by
  subst ew
  refine ⟨a, rfl, ⟨xs, hx⟩, fun D hD => ?_⟩
  obtain ⟨Pv, h0, hl, hs, hd⟩ := h D hD
  exact lc_tup Pv h0 hl hs hd
end
end Bar

set_option Elab.async false
set_option linter.all false
set_option maxRecDepth 100000
set_option maxHeartbeats 4000000
namespace Bar
open PySem L2 PySem.Spec PyProof.Rows
/-- several clauses that give what they take one and the same name -/
abbrev TakeL := List (Value × (Addr → Value → Option Addr → TS))
def wAll (K : PySem.W.Frag) (i : Nat) (Wout : WX) (D : Ends) : TakeL → WX
  | [] => Wout
  | p :: r => wAs K p.1 i p.2 (wAll K i Wout D r) D
/-- the clauses as they are written, and what is read of each -/
inductive Clauses (X : Cx) (n : Str) : List ExceptHandler → TakeL → Prop
  | nil : Clauses X n [] []
  | cons {x : Str} {c : Value} {ts : Addr → Value → Option Addr → TS} {st : Stmt} {rest : List Stmt} {q q' : Pos} {more : List ExceptHandler} {l : TakeL} (names : Names X x c)
      (body : ∀ (a : Addr) (ob : Obj) (k : Value) (d : Option Addr) (pn : List (Addr × Obj)), Zc k d ob → (∃ fs, ob.data = .fields fs) → PSs (X.suite a ((a, ob) :: pn)) (st :: rest) (ts a k d))
      (tail : Clauses X n more l) : Clauses X n (.ExceptHandler (some (.Name x q)) (some n) (st :: rest) q' :: more) ((c, ts) :: l)
section
variable {X : Cx} {n : Str} {i : Nat} {body : List Stmt} {hd : ExceptHandler} {hds : List ExceptHandler} {l : TakeL} {pos : Pos} {tb : WX → TS} {Wout : WX}
theorem ps_try_all (st : X.stack = X.env :: X.outer) (fr : X.env.frame = some X.env.locals) (nd : X.N.Nodup) (at_i : X.N[i]? = some n) (loc : X.env.kindOf n = some .local) (tk : Takes X Wout)
    (run : ∀ (W : WX) (pn : List (Addr × Obj)) (xe : Value → Shared → Prop), Takes (X.tr pn xe) W → PassesOwn (model X.prog X.w) X.A X.env xe → PSs (X.tr pn xe) body (tb W))
    (cs : Clauses X n (hd :: hds) l) : PS X (.Try body (hd :: hds) [] [] pos) (fun D σ H => tb (wAll X.K i Wout D l) D σ H) := by
  constructor
  intro pins s σ H D I h
  have ok := I.ok
  have frs_eq : X.A.frames = some (X.env :: X.outer) := ok.frames.trans (by rw [st])
  have catches : Takes (X.tr (X.pn ++ pins) fun e s₁ => wpAny (model X.prog X.w) X.A (noteFrame e X.env) (fun _ s₂ => wpAny (model X.prog X.w) X.A (setFlight e none) (fun _ s₃ => wpAny (model X.prog X.w) X.A (handleBy e X.env (hd :: hds)) (SP X pins D) X.xe s₃) X.xe s₂) X.xe s₁)
      (wAll X.K i Wout D l) := by
    intro u s' hx
    obtain ⟨a, B, sI, pins', τ, G, k, d, rfl, J0, nb, up, sky, na, os, ag, w⟩ := hx
    have J : Inv X pins τ G sI := J0.ofTry ok
    rw [show (X.tr (X.pn ++ pins) _).stack = X.stack from rfl, st] at sky
    refine Sky.land Zc.steady frs_eq fr sky fun h3 fly up3 => ?_
    have J3 : Inv X pins τ G { s' with heap := h3 } := J.landed nb fly.1 (up.trans up3) os ag
    obtain ⟨ob, fs, e_ob, z_ob, f_ob⟩ := fly.there
    have apart : a ∉ frs (X.env :: X.outer) := fun hm => by
      obtain ⟨_, o', e', no⟩ := fly.2.2.1.mem hm
      cases e_ob.symm.trans e'
      exact no _ f_ob
    have n1 : a ≠ X.env.locals := fun z => apart (List.mem_filterMap.mpr ⟨X.env, .head _, by rw [fr, z]⟩)
    have n2 : a ∉ X.fs := fun hm => by
      obtain ⟨e, he, q⟩ := List.mem_filterMap.mp hm
      exact apart (List.mem_filterMap.mpr ⟨e, .tail _ he, q⟩)
    have S3 := J3.suite e_ob f_ob na n1 n2
    suffices go : ∀ {hs : List ExceptHandler} {m : TakeL}, Clauses X n hs m → wAll X.K i Wout D m k d τ G → wpAny (model X.prog X.w) X.A (handleBy (.ref a) X.env hs) (SP X pins D) X.xe { s' with heap := h3 } from go cs w
    intro hs m hk
    induction hk with
    | nil =>
      intro w
      refine wpAny_handleBy_nil ?_
      obtain ⟨_, _, _, oe, vs, Tr, oT, ts', he, hz, hd', h1, _⟩ := id fly
      unfold PySem.passOn
      refine wpAny_bind (wpAny_field he hd' h1 ?_)
      rw [if_neg (show ¬ ((Value.ref Tr == Value.none) = true) by simp)]
      have out : wpAny (model X.prog X.w) X.A (setFlight (.ref a) X.env.frame) (fun _ s4 => wpAny (model X.prog X.w) X.A (throw (.ref a) : Sem Flow) (SP X pins D) X.xe s4) X.xe { s' with heap := h3 } := by
        rw [fr]
        refine HandSPX.setFlight_upZ fly fun h4 hh4 up4 => wpAny_throw (tk _ _ ⟨a, B, sI, pins, τ, G, k, d, rfl, J, nb, (up.trans up3).trans up4, .inr (.inr (by rw [st]; exact hh4)), na, os, ag, w⟩)
      first
        | exact wpAny_bind (wpAny_pure (wpAny_bind out))
        | exact wpAny_bind out
    | @cons x c ts s0 rest q q' more m2 names suite tail ih =>
      intro w
      obtain ⟨b, e1, yes, no⟩ := w
      refine wpAny_handleBy_cons (codeAny_handlers_test ?_) (by intro q; cases q)
      have ty : PySem.W.Looks (model X.prog X.w) h3 (typeOf (.ref a)) k := fun A Q E s kk q => wpAny_typeOf_ref (kk _ _ e_ob) (by rw [z_ob.1]; exact q)
      have match_ := PySem.W.exm_one (M := model X.prog X.w) J3.kIn ty e1
      have reads : ∀ {Q : Value → Shared → Prop} {E : Value → Shared → Prop}, Q c { s' with heap := h3 } → wpAny (model X.prog X.w) (X.A.mark (some (.ref a))) (eval (.Name x q) X.env) Q E { s' with heap := h3 } := fun {Q E} hq => by
        obtain ⟨g, db, hm | ⟨hm, hv, nn⟩⟩ := names
        · exact ld_glob (X := X.suite a ((a, ob) :: (X.pn ++ pins))) S3 g hm hq db
        · exact ld_blt (X := X.suite a ((a, ob) :: (X.pn ++ pins))) S3 g hm hv hq nn db
      refine reads (match_.here ?_)
      cases b with
      | false => exact ih (no rfl)
      | true =>
        refine codeAny_handlers_suite_as ?_
        refine HandSPX.lands_againZ fly fun h4 fly4 up4 => ?_
        have J4 : Inv X pins τ G { s' with heap := h4 } := J.landed nb fly4.1 ((up.trans up3).trans up4) os ag
        obtain ⟨ob4, fs4, e4, z4, f4⟩ := fly4.there
        have S4 := J4.suite e4 f4 na n1 n2
        refine store_ok (X := X.suite a ((a, ob4) :: (X.pn ++ pins))) (v := .ref a) S4 nd at_i (.inl loc) rfl (fun s5 S5 => ?_) (.inr loc)
        refine wpAny_mono ((suite a ob4 k d (X.pn ++ pins) z4 ⟨_, f4⟩).run [] s5 _ G _ S5 (yes rfl a na)) (fun f s6 sp => ?_) (fun _ _ z => z.elim)
        have ends : ∀ {ρ : L2.St} {H6 : Hp} {Q : Shared → Prop}, Inv (X.suite a ((a, ob4) :: (X.pn ++ pins))) [] ρ H6 s6 → (∀ s7, Inv X pins (ρ.set i none) H6 s7 → Q s7) → wpAny (model X.prog X.w) X.A (do bindName X.env n .none; unbindBehindTheSuite X.env n q') (fun _ s7 => Q s7) X.xe s6 :=
          fun S6 hq => gone_ok (S6.unsuite ok) nd at_i loc hq
        cases f with
        | next => obtain ⟨_, _, S6, z⟩ := sp; exact ends S6 fun s7 J7 => ⟨_, _, J7, z⟩
        | brk => obtain ⟨_, _, S6, z⟩ := sp; exact ends S6 fun s7 J7 => ⟨_, _, J7, z⟩
        | cont => obtain ⟨_, _, S6, z⟩ := sp; exact ends S6 fun s7 J7 => ⟨_, _, J7, z⟩
        | ret u => obtain ⟨_, _, _, S6, r6, z⟩ := sp; exact ends S6 fun s7 J7 => ⟨_, _, _, J7, r6, z⟩
  refine wpAny_Try_except (wpAny_mono ((run _ (X.pn ++ pins) _ catches PassesOwn.looking).run [] s σ H D (I.toTry _) h) (fun f s1 sp => ?_) (fun _ _ z => z))
  cases f with
  | next => obtain ⟨_, _, J', z⟩ := sp; exact wpAny_execs_nil ⟨_, _, J'.ofTry ok, z⟩
  | brk => obtain ⟨_, _, J', z⟩ := sp; exact ⟨_, _, J'.ofTry ok, z⟩
  | cont => obtain ⟨_, _, J', z⟩ := sp; exact ⟨_, _, J'.ofTry ok, z⟩
  | ret u => obtain ⟨_, _, _, J', r, z⟩ := sp; exact ⟨_, _, _, J'.ofTry ok, r, z⟩
end
instance {K : PySem.W.Frag} {i : Nat} {W : WX} {D : Ends} {c : Value} {ts : Addr → Value → Option Addr → TS} {r : TakeL} {cls : Value} {d : Option Addr} {σ : L2.St} {H : Hp} : Rd (wAll K i W D ((c, ts) :: r) cls d σ H) (wAs K c i ts (wAll K i W D r) D cls d σ H) := ⟨fun h => h⟩
/-- the clause leaves it to the next one -/
theorem rPass {K : PySem.W.Frag} {c cls : Value} {i : Nat} {ts : Addr → Value → Option Addr → TS} {Wout : WX} {D : Ends} {σ : L2.St} {H : Hp} {d : Option Addr} (te : PySem.W.exmOne K cls c = some false) (h : Wout cls d σ H) : wAs K c i ts Wout D cls d σ H :=
  ⟨false, te, (fun z => nomatch z), fun _ => h⟩
end Bar

set_option Elab.async false
set_option linter.all false
set_option maxRecDepth 100000
set_option maxHeartbeats 4000000
/-! calls through super() in the first statement of a method -/
namespace Bar
open PySem L2 PySem.Spec PyProof.Rows ClX NdefX

/-! ### an expression, a statement, a block at the code that is known to run -/
structure PEa (X : Cx) (c : Code) (e : Expr) (t : TE) : Prop where
  run : ∀ (pins : List (Addr × Obj)) (s : Shared) (σ : L2.St) (H : Hp) (Q : VK), Inv X pins σ H s → t σ H Q → _root_.PySem.wpAt (model X.prog X.w) X.A c (eval e X.env) (EP X pins σ Q) X.xe s
structure PSa (X : Cx) (c : Code) (st : Stmt) (t : TS) : Prop where
  run : ∀ (pins : List (Addr × Obj)) (s : Shared) (σ : L2.St) (H : Hp) (D : Ends), Inv X pins σ H s → t D σ H → _root_.PySem.wpAt (model X.prog X.w) X.A c (exec st X.env) (SP X pins D) X.xe s
structure PSsa (X : Cx) (c : Code) (ss : List Stmt) (t : TS) : Prop where
  run : ∀ (pins : List (Addr × Obj)) (s : Shared) (σ : L2.St) (H : Hp) (D : Ends), Inv X pins σ H s → t D σ H → _root_.PySem.wpAt (model X.prog X.w) X.A c (execs ss X.env) (SP X pins D) X.xe s
section
variable {X : Cx} {c : Code} {a b e : Expr} {s1 : Stmt} {ss : List Stmt} {ta tb te : TE} {t u : TS} {pos p' : Pos} {i : Nat} {x : Str}
theorem PSsa.nox (h : PSsa X.nox c ss t) : PSsa X c ss t := ⟨fun pins s σ H D I hw => ks_wpAt_mono (h.run pins s σ H D (I.wish _) hw) (fun _ _ q => q.unwish) fun _ _ z => z.elim⟩
theorem pea_op {op : Operator} {r : R2} (hr : OpR X (binaryOp op) r) (ha : PEa X c a ta) (hb : PE X b tb) : PEa X c (.BinOp a op b pos) (tOp r ta tb) := ⟨fun pins s σ H Q I h => by
  refine ks_wpAt_BinOp (ks_wpAt_mono (ha.run pins s σ H _ I h) (fun v s1 q => ?_) fun _ _ z => z)
  obtain ⟨y, H1, I1, r1, q1⟩ := q
  refine thn (hb.run pins s1 σ H1 _ I1 q1) fun w s2 q => ?_
  obtain ⟨z, H2, I2, r2, q2⟩ := q
  exact hr pins s2 σ H2 y z v w Q I2 r1 r2 q2⟩
theorem psa_expr (he : PEa X c e te) (hs : swapsWith e none pos.line X.env = pure false := by rfl) : PSa X c (.Expr e pos) (tDrop te) := ⟨fun pins s σ H D I h => by
  refine ks_wpAt_Expr_any (ks_wpAt_mono (he.run pins s σ H _ I h) (fun v s1 q => ?_) fun _ _ z => z) I.quiet hs
  obtain ⟨y, H1, I1, r1, q1⟩ := q
  exact ⟨σ, H1, I1, q1⟩⟩
theorem psa_ret (he : PEa X c e te) : PSa X c (.Return (some e) pos) (tRet te) := ⟨fun pins s σ H D I h => by
  refine ks_wpAt_Return_some (ks_wpAt_mono (he.run pins s σ H _ I h) (fun v s1 q => ?_) fun _ _ z => z)
  obtain ⟨y, H1, I1, r1, q1⟩ := q
  exact ⟨y, σ, H1, I1, r1, q1⟩⟩
theorem psa_set (hN : X.N.Nodup) (hi : X.N[i]? = some x) (hx : Loc X.env.scope x) (he : PEa X c e te) (hs : swapsWith e (some (.Name x p')) pos.line X.env = pure false := by rfl)
    (hf : X.fn x = true ∨ X.env.scope.names.lookup x = some .local := by first | exact .inl rfl | exact .inr rfl | assumption) : PSa X c (.Assign [.Name x p'] e pos) (tAsg te (gName i)) := ⟨fun pins s σ H D I h => by
  refine ks_wpAt_Assign_Name (ks_wpAt_mono (he.run pins s σ H _ I h) (fun v s1 q => ?_) fun _ _ z => z) hs
  obtain ⟨y, H1, I1, r1, q1⟩ := q
  exact store_ok I1 hN hi hx r1 (fun s2 I2 => ⟨_, H1, I2, q1⟩) hf⟩
theorem pssa_cons (h : PSa X c s1 t) (hs : PSs X ss u) : PSsa X c (s1 :: ss) (tSeq t u) := ⟨fun pins s σ H D I q => by
  refine ks_wpAt_execs_cons (ks_wpAt_mono (h.run pins s σ H _ I q) (fun f s1 z => ?_) fun _ _ z => z)
  match f, z with
  | .next, ⟨σ', H', J, q'⟩ => exact wpAt_of_wpAny (hs.run pins s1 σ' H' D J q')
  | .ret _, z => exact z
  | .brk, z => exact z
  | .cont, z => exact z⟩
end

/-! ### what super().m stands for -/
/-- in the def f (of class D, its cell at cc, its record at cda), called for an instance of the class C: super().m is f2 -/
structure Sup (P : Program) (K : PySem.W.Frag) (mg : Str → Option Value) (f cda cc C : Addr) (slf m : Str) (f2 : Addr) : Prop where
  fn : ∃ (oc : Value) (od : Option Addr) (fd : FuncData) (osl : Array (Option Value)) (ar : Arg), K.lookup f = some ⟨oc, od, .func fd, osl⟩ ∧ (fd.params.posonlyargs ++ fd.params.args).head? = some ar ∧ ar.arg = slf
  code : ∃ (ccl : Value) (cdd : Option Addr) (vs : Array Value) (ccs : Array (Option Value)) (file : Str) (tf : Tok), K.lookup cda = some ⟨ccl, cdd, .fields vs, ccs⟩ ∧ vs[2]? = some (.str file tf) ∧ ((P.main.file : Str) == file) = true
  top : (P.main.scope.names.lookup ("super" : Str)).isSome = false
  cell : ∃ (D : Addr) (cl : Value) (cld : Option Addr) (csl : Array (Option Value)) (cdD : ClassData), K.lookup cc = some ⟨cl, cld, .cell (some (.ref D)), csl⟩ ∧ PySem.W.clsIn K D = some cdD ∧ PySem.W.mroIn K C (.ref D) = some true ∧ PySem.W.ks_superIn K C D m = some (some (.ref f2))
  sup : mg "super" = none
  none' : PySem.W.nsIn K cStatics "thirdparty.any" = some none
  ty : PySem.W.typeIn K (.ref f2) = some (.type "function")
  fi : PySem.W.fnIn K f2 = true
  nm : (m == ("__class__" : Str)) = false
theorem boot_super : bootBuiltins "super" = some (.type "super") := by boot_by_name
/-- a call of the function at f2 -/
structure Runs (X : Cx) (f2 : Addr) (R : List V → L2.St → Hp → VK → Prop) : Prop where
  run : ∀ (pins : List (Addr × Obj)) (s : Shared) (σ : L2.St) (H : Hp) (us : List Value) (vs : List V) (Q : VK), Inv X pins σ H s → Vals vs us → R vs σ H Q →
    codeAny (model X.prog X.w) X.A (.call (.ref f2) ⟨us, []⟩) (fun r s' => match r with | .ok (.ret v) => EP X pins σ Q v s' | .ok _ => False | .error e => X.xe e s') s
section
variable {X : Cx} {W : WX} {k : Nat} {f : Addr} {fd : FuncData} {ps : List Str} {sp : Sp} {dvs : List V} {ds : List Value}
theorem runs_fnX (F : FnOk X.prog X.w X.K X.mg X.base (L2.CX X.prog X.w) k f fd ps sp) (hr : Room k X.A) (hb : Binds X.K fd ps ds) (hd : Vals dvs ds) (tk : Takes X W) : Runs X f fun vs σ H Q => sp (vs ++ dvs) H Q (wAt W σ) := ⟨fun pins s σ H us vs Q I r h => by
  have r2 : Vals (vs ++ dvs) (us ++ ds) := r.append hd
  have hl : (us ++ ds).length = ps.length := r2.length.symm.trans (F.len _ _ _ _ h)
  refine codeAny_mono (F.run X.A X.stack s H ⟨us, []⟩ (us ++ ds) (vs ++ dvs) Q (wAt W σ) hr I.env0 (hb s us I.kIn hl) r2 h) fun z s' hq => ?_
  match z, hq with
  | .error e, hq => exact tk e s' (XE.of_call I (fun _ _ _ h => h) hq)
  | .ok (.ret u), hq => exact I.after hq⟩
theorem runs_fn (F : FnOk X.prog X.w X.K X.mg X.base CX0 k f fd ps sp) (hr : Room k X.A) (hb : Binds X.K fd ps ds) (hd : Vals dvs ds) : Runs X f fun vs σ H Q => sp (vs ++ dvs) H Q E0 := ⟨fun pins s σ H us vs Q I r h => by
  have r2 : Vals (vs ++ dvs) (us ++ ds) := r.append hd
  have hl : (us ++ ds).length = ps.length := r2.length.symm.trans (F.len _ _ _ _ h)
  refine codeAny_mono (F.run X.A X.stack s H ⟨us, []⟩ (us ++ ds) (vs ++ dvs) Q E0 hr I.env0 (hb s us I.kIn hl) r2 h) fun z s' hq => ?_
  match z, hq with
  | .error e, hq => exact pass0 pins σ H s e s' I hq
  | .ok (.ret u), hq => exact I.after hq⟩
end
/-- super().m(..) of the instance in slot 0 -/
def tSup (C : Addr) (R : List V → L2.St → Hp → VK → Prop) (t : TA) : TE := fun σ H Q => ∃ (a dx : Addr) (fs : List (Str × V)), σ[0]? = some (some (.ref a)) ∧ H a = some (.ins C dx fs) ∧ t σ H fun vs H1 => R (.ref a :: vs) σ H1 Q
instance {C : Addr} {R : List V → L2.St → Hp → VK → Prop} {t : TA} {a : Addr} {σ : L2.St} {H : Hp} {Q : VK} : Rd (tSup C R t (some (.ref a) :: σ) H Q) (∃ (dx : Addr) (fs : List (Str × V)), H a = some (.ins C dx fs) ∧ t (some (.ref a) :: σ) H fun vs H1 => R (.ref a :: vs) (some (.ref a) :: σ) H1 Q) :=
  ⟨fun ⟨dx, fs, h, q⟩ => ⟨a, dx, fs, rfl, h, q⟩⟩
section
variable {X : Cx} {body : List Stmt} {f cda cc C f2 : Addr} {slf m : Str} {R : List V → L2.St → Hp → VK → Prop} {p0 p1 p2 pos : Pos} {e : Expr} {es : List Expr} {t : TA} {pl : Sem Bool}
/-- the way to the bound method -/
theorem sup_bound {pins : List (Addr × Obj)} {s : Shared} {σ : L2.St} {H : Hp} {a dx : Addr} {fs : List (Str × V)} {Q : Value → Shared → Prop} {whole : Sem Value} (S : Sup X.prog X.K X.mg f cda cc C slf m f2) (hks : Gl X "super") (hkc : X.env.kindOf ("__class__" : Str) = some .free) (hfu : X.env.func = some f) (hco : X.env.code = .ref cda)
    (hcl : X.env.cells.lookup ("__class__" : Str) = some cc) (h0 : X.N[0]? = some slf) (hself : X.env.kindOf slf = some .local) (I : Inv X pins σ H s) (ea : σ[0]? = some (some (.ref a))) (eh : H a = some (.ins C dx fs))
    (h : ∀ q s', Inv X ((q, PySem.W.methodObj (.ref f2) (.ref a)) :: pins) σ H s' → X.base.get? q = none → Q (.ref q) s') :
    _root_.PySem.wpAt (model X.prog X.w) X.A (.func body X.env) (attributeBase (.Call (.Name "super" p0) [] [] p1) m X.env whole) (fun ov s₁ => wpAny (model X.prog X.w) X.A (getMethod ov m pl) (fun fx s₂ => fx.2 = [] ∧ Q fx.1 s₂) X.xe s₁) X.xe s := by
  obtain ⟨oc, od, fd, osl, ar, lf, hp, rfl⟩ := S.fn
  obtain ⟨ccl, cdd, vs, ccs, file, tf, lc, hvs, hfile⟩ := S.code
  obtain ⟨D, cl, cld, csl, cdD, lcell, hD, hsub, hsup⟩ := S.cell
  have kx := I.kIn
  obtain ⟨oD, hD1, hD2⟩ : ∃ oD, s.heap.get? D = some oD ∧ oD.data = .cls cdD := by
    unfold PySem.W.clsIn at hD
    split at hD
    · rename_i c d cd' sl ho
      cases hD
      exact ⟨_, kx _ _ ho, rfl⟩
    · cases hD
  refine ks_wpAt_super_base (env := X.env) hks hkc S.nm hfu (kx _ _ lf) rfl hp hco (kx _ _ lc) rfl hvs hfile S.top ?_
  obtain ⟨mb, b1, b2⟩ := I.mod.blt
  refine PySem.W.ks_loadName_global I.ok.kind hks (Calls.loadGlobal_builtin (by rw [I.ok.glob]; exact I.mod.glob.keeps I.bk) S.sup (by rw [I.ok.blt]; exact b1.keeps I.bk) ((b2 "super" (by decide)).trans boot_super) ⟨rfl, ?_⟩)
  refine wpAny_loadName_free I.ok.kind hkc hcl ⟨_, kx _ _ lcell, rfl⟩ ?_
  obtain ⟨ns, hn, hl⟩ := id I.loc
  obtain ⟨u, ru, lk⟩ := hl 0 ar.arg (.ref a) h0 ea (.inl hself)
  obtain rfl : u = Value.ref a := ru
  have hv : ns ar.arg = some (.ref a) := by
    rcases lk with ⟨_, hv⟩ | ⟨z, _⟩
    · exact hv
    · rw [hself] at z
      rcases z with z | z <;> cases z
  refine wpAny_loadName_local I.ok.kind hself hn hv ?_
  obtain ⟨mA, O', _⟩ := ins_get I.hok eh
  obtain ⟨odo, J, _⟩ := O'.look
  obtain ⟨hh, g, d, tk, os⟩ := s
  refine ks_wpAny_isType_cls hD1 hD2 ⟨rfl, ?_⟩
  refine ks_wpAny_call_super hD1 hD2 J.at_ J.cls (fun c e => ?_) (PySem.W.looks_mroIn kx hsub) (fun h' e kp => ?_)
  · have := J.no
    unfold PySem.W.notCls at this
    rw [e] at this
    exact Bool.noConfusion this
  · have J1 : Inv X ((hh.objs.size, PySem.W.ks_superObj D a C) :: pins) σ H { heap := h', gens := g, drawn := d, toks := tk, os := os } := pin_new (t' := tk) I kp (Nat.le_refl _) e fun v z => nomatch z
    have kx1 := J1.kIn
    obtain ⟨of, hof, hofc⟩ : ∃ of, h'.get? f2 = some of ∧ of.cls = .type "function" := by
      have ht : (X.K.lookup f2).map (·.cls) = some (.type "function") := S.ty
      cases z : X.K.lookup f2 with
      | none => rw [z] at ht; cases ht
      | some of => rw [z] at ht; exact ⟨of, kx1 _ _ z, Option.some.inj ht⟩
    obtain ⟨cd, hc, hal⟩ := Option.bind_eq_some_iff.mp (show (PySem.W.clsIn X.K C).bind _ = _ from hsup)
    have ne : a ≠ C := PySem.W.ks_ne kx J hc
    refine ks_wpAny_getMethod_super (pin_at J1) (PySem.W.looks_opaque kx1 S.none') (l₀ := cd.mro) (fun A Q E s kk q => wpAny_bind ((PySem.W.looks_clsIn kx1 hc) A _ E s kk (wpAny_pure q))) rfl kx1 hal hof hofc ne S.nm ?_
    have J2 : Inv X ((h'.objs.size, PySem.W.methodObj (.ref f2) (.ref a)) :: (hh.objs.size, PySem.W.ks_superObj D a C) :: pins) σ H { heap := h'.push (PySem.W.methodObj (.ref f2) (.ref a)), gens := g, drawn := d, toks := tk + 1, os := os } :=
      pin_new (t' := tk + 1) J1 (fun _ _ z => Heap.get?_push_of_some _ z) (Nat.le_refl _) (Heap.get?_push_size h' rfl) fun v z => nomatch z
    refine ⟨rfl, h _ _ (J2.pins_of fun p hp => ?_) (base_none J1 (Nat.le_refl _))⟩
    rcases List.mem_cons.mp hp with e | hp
    · exact J2.pin p (List.mem_append_right _ (by rw [e]; exact .head _))
    · exact J2.pin p (List.mem_append_right _ (.tail _ (.tail _ hp)))
/-- super().m(e, ..) -/
theorem pea_sup (S : Sup X.prog X.K X.mg f cda cc C slf m f2) (ru : Runs X f2 R) (hks : Gl X "super") (hkc : X.env.kindOf ("__class__" : Str) = some .free) (hfu : X.env.func = some f) (hco : X.env.code = .ref cda) (hcl : X.env.cells.lookup ("__class__" : Str) = some cc)
    (h0 : X.N[0]? = some slf) (hself : X.env.kindOf slf = some .local) (ha : PA X (e :: es) t) (hst : starEach (e :: es) X.env = (false, eval e X.env) :: starEach es X.env := by rfl) (hpl : (backTo pos (starEach es X.env)).any (·.1) = false := by rfl)
    (ht : eval (.Call (.Attribute (.Call (.Name "super" p0) [] [] p1) m p2) (e :: es) [] pos) X.env = (do
      let ov ← attributeBase (.Call (.Name "super" p0) [] [] p1) m X.env (eval (.Call (.Name "super" p0) [] [] p1) X.env)
      standAt p2.atName
      let (f, first) ← holding [ov] (getMethod ov m pl)
      callWith pos f first (backTo pos (starEach (e :: es) X.env)) []) := by rfl) :
    PEa X (.func body X.env) (.Call (.Attribute (.Call (.Name "super" p0) [] [] p1) m p2) (e :: es) [] pos) (tSup C R t) := ⟨fun pins s σ H Q I h => by
  obtain ⟨a, dx, fs, ea, eh, q⟩ := h
  refine ks_wpAt_MethodCall (pl := pl) (ks_wpAt_mono (sup_bound (pl := pl) (Q := fun u s₂ => wpAny (model X.prog X.w) X.A (callWith pos u [] (backTo pos (starEach (e :: es) X.env)) []) (EP X pins σ Q) X.xe s₂) S hks hkc hfu hco hcl h0 hself I ea eh fun q' s' J hb => ?_) (fun ov s₁ z => thn z fun fx s₂ z => ?_) fun _ _ z => z) ht
  · have hq := pin_at J
    have hL : q' ≠ X.env.locals := (J.pin (q', PySem.W.methodObj (.ref f2) (.ref a)) (List.mem_append_right _ (.head _))).2.2.1
    refine PySem.W.callWith_M (K := X.K) (h₀ := X.base) (first := []) J.ok.mod.kin (news_at hL hb hq) (.head _) S.fi (thn (ha.run pos _ s' σ H _ J q) fun us s3 z => ?_) hst hpl
    obtain ⟨vs, H2, J3, rv, q2⟩ := z
    refine ⟨⟨pin_at J3, J3.kIn⟩, ?_⟩
    exact thn (wpAny_call (PySem.W.method_call (pin_at J3) (codeAny_mono (ru.run _ s3 σ H2 (.ref a :: us) (.ref a :: vs) Q J3 (.cons rfl rv) q2) fun r s' z => z))) fun _ _ y => unpinE y
  · obtain ⟨u, l⟩ := fx
    obtain ⟨rfl, z⟩ := z
    exact z⟩
/-- super().m() -/
theorem pea_sup0 (S : Sup X.prog X.K X.mg f cda cc C slf m f2) (ru : Runs X f2 R) (hks : Gl X "super") (hkc : X.env.kindOf ("__class__" : Str) = some .free) (hfu : X.env.func = some f) (hco : X.env.code = .ref cda) (hcl : X.env.cells.lookup ("__class__" : Str) = some cc)
    (h0 : X.N[0]? = some slf) (hself : X.env.kindOf slf = some .local)
    (ht : eval (.Call (.Attribute (.Call (.Name "super" p0) [] [] p1) m p2) [] [] pos) X.env = (do
      let ov ← attributeBase (.Call (.Name "super" p0) [] [] p1) m X.env (eval (.Call (.Name "super" p0) [] [] p1) X.env)
      standAt p2.atName
      let (f, first) ← holding [ov] (getMethod ov m pl)
      callWith pos f first (backTo pos (starEach [] X.env)) []) := by rfl) :
    PEa X (.func body X.env) (.Call (.Attribute (.Call (.Name "super" p0) [] [] p1) m p2) [] [] pos) (tSup C R tNil) := ⟨fun pins s σ H Q I h => by
  obtain ⟨a, dx, fs, ea, eh, q⟩ := h
  refine ks_wpAt_MethodCall (pl := pl) (ks_wpAt_mono (sup_bound (pl := pl) (Q := fun u s₂ => wpAny (model X.prog X.w) X.A (callWith pos u [] (backTo pos (starEach [] X.env)) []) (EP X pins σ Q) X.xe s₂) S hks hkc hfu hco hcl h0 hself I ea eh fun q' s' J hb => ?_) (fun ov s₁ z => thn z fun fx s₂ z => ?_) fun _ _ z => z) ht
  · refine PySem.W.callWith_M0 (K := X.K) (first := []) ⟨pin_at J, J.kIn⟩ S.fi ?_
    exact thn (wpAny_call (PySem.W.method_call (pin_at J) (codeAny_mono (ru.run _ s' σ H [.ref a] [.ref a] Q J (.cons rfl .nil) q) fun r s' z => z))) fun _ _ y => unpinE y
  · obtain ⟨u, l⟩ := fx
    obtain ⟨rfl, z⟩ := z
    exact z⟩
end

/-! ### a def that reads the cell __class__ -/
/-- the text of such a def, with its records -/
structure FunC (K : PySem.W.Frag) (x qual : Str) (st : Stmt) (kws : List (Str × V)) (f cda cc : Addr) (fd : FuncData) : Prop where
  ex : ∃ (oc : Value) (od : Option Addr) (kV doc pm : Value) (an : Option Addr) (ct : Value) (osl : Array (Option Value)),
    fd = PySem.W.fnX x qual (defArgs st) (defBody st) (defScope st) [("__class__", cc)] .none kV doc pm an (.ref cda) ct ∧ K.lookup f = some ⟨oc, od, .func fd, osl⟩ ∧ PySem.W.codeIn K (.ref cda) qual = true ∧ L2.KwdV K kV kws
  cell : ∃ (D : Addr) (cl : Value) (cld : Option Addr) (csl : Array (Option Value)), K.lookup cc = some ⟨cl, cld, .cell (some (.ref D)), csl⟩
  kp : PySem.W.keepIn K (.ref f) = true
abbrev nfOf (x qual : Str) (st : Stmt) (cda cc : Addr) : NF := ⟨x, qual, defArgs st, defBody st, defScope st, [("__class__", cc)], cda⟩
section
variable {CX : CXT} {P : Program} {w : World} {K : PySem.W.Frag} {mg : Str → Option Value} {base : Heap} {x qual : Str} {st : Stmt} {kws : List (Str × V)} {f cda cc : Addr} {fd : FuncData} {N ps : List Str} {k : Nat} {sp : Sp}
/-- the context of its body -/
abbrev scx (CX : CXT) (P : Program) (w : World) (K : PySem.W.Frag) (mg : Str → Option Value) (base : Heap) (N : List Str) (x qual : Str) (st : Stmt) (cda cc f : Addr) (A : Around) (outer : List Env) (s : Shared) (H : Hp) (E : XK) : Cx := ncx CX P w K mg base N (nfOf x qual st cda cc) f A outer s H E
theorem FunC.ok (F : FunC K x qual st kws f cda cc fd) (S : NScope N ps ["__class__"] (defScope st)) (len : ∀ vs H Q E, sp vs H Q E → vs.length = ps.length)
    (hbody : ∀ (A : Around) (outer : List Env) (s : Shared) (H : Hp) (vs : List V) (Q : VK) (E : XK) (D : Addr), Room k (A.deeper (envF (nfOf x qual st cda cc) f s.heap.objs.size)) → sp vs H Q E →
      ∃ t, PSsa (scx CX P w K mg base N x qual st cda cc f A outer s H E) (.func (defBody st) (envF (nfOf x qual st cda cc) f s.heap.objs.size)) (defBody st) t ∧ t { nx := fun _ H' => Q .non H', rt := Q } (startF N vs [some (.ref D)]) H) : FnOk P w K mg base CX (k + 1) f fd ps sp := by
  obtain ⟨oc, od, kV, doc, pm, an, ct, osl, rfl, lk, hcd, hK⟩ := F.ex
  obtain ⟨D, cl, cld, csl, lc⟩ := F.cell
  refine ⟨len, fun A outer s H args us vs Q E hr e0 hb r hsp => ?_⟩
  have hl := len _ _ _ _ hsp
  have KX : K.In s.heap := e0.mod.kin.keeps fun b o e => (e0.bs b o e).1
  have lim : s.heap.NoLimit := e0.mod.nolimit.keeps fun b o e => (e0.bs b o e).1
  have hcc : H cc = none := (e0.bs cc _ (e0.mod.kin _ _ lc)).2
  have C : CellsAt [("__class__", cc)] ["__class__"] [some (V.ref D)] s.heap H := by
    refine ⟨rfl, fun y c e => ?_, fun x y c e1 e2 => ?_, fun i y e => ?_⟩
    · have : c = cc := by
        simp only [List.lookup] at e
        split at e
        · cases e; rfl
        · cases e
      subst this
      exact ⟨hcc, _, _, KX _ _ lc, rfl⟩
    · simp only [List.lookup] at e1 e2
      split at e1
      · rename_i h1
        split at e2
        · rename_i h2
          rw [beq_iff_eq] at h1 h2
          rw [h1, h2]
        · cases e2
      · cases e1
    · cases i with
      | zero =>
        cases e
        refine ⟨cc, by simp [List.lookup], fun v ev => ?_⟩
        cases ev
        exact ⟨.ref D, rfl, _, KX _ _ lc, rfl⟩
      | succ i => cases e
  refine ks_codeAny_call_defAt (fd := PySem.W.fnX x qual (defArgs st) (defBody st) (defScope st) [("__class__", cc)] .none kV doc pm an (.ref cda) ct) (body := defBody st) (binds := ps.zip us) hr.depth (KX _ _ lk) rfl lim (PySem.W.codeRec_of KX hcd) rfl hb S.nocell (fun y hy => S.par _ (List.of_mem_zip hy).1) (fun h₁ hns kp => ?_) S.co S.gen S.kind
  obtain ⟨t, ht, hq⟩ := hbody A outer s H vs Q E D (hr.deeper _) hsp
  have I : Inv (scx CX P w K mg base N x qual st cda cc f A outer s H E) [] (startF N vs [some (V.ref D)]) H { s with heap := h₁, toks := s.toks + (ps.zip us).length } := inv_startN S hr.hd e0 hl r C hns kp
  have fin : ∀ {σ' : L2.St} {H' : Hp} {v : V} {u : Value} {s' : Shared}, Inv (scx CX P w K mg base N x qual st cda cc f A outer s H E) [] σ' H' s' → RelV v u → Q v H' → CE outer P w H s Q u s' := fun {σ' H' v u s'} J rv q => ⟨v, H', J.os, J.bare, J.base, J.hok, rv, q⟩
  refine ks_wpAt_mono (ht.run [] _ _ H _ I hq) (fun fl s' hs => ?_) fun e s' hs => hs
  match fl, hs with
  | .ret u, ⟨v, σ', H', J, rv, q⟩ => exact fin J rv q
  | .next, ⟨σ', H', J, q⟩ => exact fin (v := V.non) (u := Value.none) J rfl q
  | .brk, ⟨_, _, _, q⟩ => exact q.elim
  | .cont, ⟨_, _, _, q⟩ => exact q.elim
theorem FunC.ok0 (F : FunC K x qual st kws f cda cc fd) (S : NScope N ps ["__class__"] (defScope st)) (len : ∀ vs H Q E, sp vs H Q E → vs.length = ps.length)
    (hbody : ∀ (A : Around) (outer : List Env) (s : Shared) (H : Hp) (vs : List V) (Q : VK) (E : XK) (D : Addr), Room k (A.deeper (envF (nfOf x qual st cda cc) f s.heap.objs.size)) → sp vs H Q E →
      ∃ t, PSsa (scx CX0 P w K mg base N x qual st cda cc f A outer s H E).nox (.func (defBody st) (envF (nfOf x qual st cda cc) f s.heap.objs.size)) (defBody st) t ∧ t { nx := fun _ H' => Q .non H', rt := Q } (startF N vs [some (.ref D)]) H) : FnOk P w K mg base CX0 (k + 1) f fd ps sp :=
  F.ok S len fun A outer s H vs Q E D hr h => by
    obtain ⟨t, ht, q⟩ := hbody A outer s H vs Q E D hr h
    exact ⟨t, ht.nox, q⟩
/-- keywords: n values, the keywords named ks, those of ms left out -/
theorem FunC.kbinds (F : FunC K x qual st kws f cda cc fd) (n : Nat) (ks : List Str) (ms : List (Str × V)) (g : {α : Type} → List α → List α → List α → List α) (hk : kws ≠ []) (hms : ∀ q ∈ ms, q ∈ kws)
    (hrel : ∀ {vs mz zs : List V} {us mv ws : List Value}, Vals vs us → Vals mz mv → Vals zs ws → Vals (g vs mz zs) (g us mv ws))
    (h : ∀ (D : Addr) (doc pm : Value) (an : Option Addr) (ct : Value) (us mv ws : List Value), us.length = n → mv.length = ms.length → ws.length = ks.length →
      KwChain D ((ms.map (·.1)).zip mv) (bindArgs (PySem.W.fnX x qual (defArgs st) (defBody st) (defScope st) [("__class__", cc)] .none (.ref D) doc pm an (.ref cda) ct) ⟨us, ks.zip ws⟩) (ps.zip (g us mv ws))) :
    ∃ mv : List Value, KBn K fd ps n ks (fun us ws => g us mv ws) (fun vs zs => g vs (ms.map (·.2)) zs) := by
  obtain ⟨oc, od, kV, doc, pm, an, ct, osl, rfl, lk, hcd, hK⟩ := F.ex
  rcases hK with e | ⟨D, rfl, hq⟩
  · exact absurd e hk
  · obtain ⟨mv, hl, rk, hks⟩ := kwd_vals (ms := ms) fun q hm => hq q (hms q hm)
    exact ⟨mv, ⟨fun s us ws X l1 l2 => BindsTo.of_looks fun M => KwChain.looks X hks (h D doc pm an ct us mv ws l1 hl l2), fun r1 r2 => hrel r1 rk r2⟩⟩
theorem FunC.binds (F : FunC K x qual st kws f cda cc fd) (h : ∀ (kV doc pm : Value) (an : Option Addr) (ct : Value) (us : List Value), us.length = ps.length → bindArgs (PySem.W.fnX x qual (defArgs st) (defBody st) (defScope st) [("__class__", cc)] .none kV doc pm an (.ref cda) ct) ⟨us, []⟩ = pure (ps.zip us)) : Binds K fd ps [] := by
  obtain ⟨oc, od, kV, doc, pm, an, ct, osl, rfl, lk, hcd, hK⟩ := F.ex
  exact .all (h kV doc pm an ct)
end
end Bar
namespace Bar
open PySem L2 PySem.Spec PyProof.Rows ClX NdefX
/-! ### super().m, a property, a class that is made with keywords: with what they promise -/
structure SupFn (P : Program) (w : World) (K : PySem.W.Frag) (mg : Str → Option Value) (base : Heap) (CX : CXT) (f cda cc C : Addr) (slf m : Str) (ps : List Str) (dvs : List V) (k : Nat) (sp : Sp) : Prop where
  ex : ∃ (f2 : Addr) (fd : FuncData) (ds : List Value), Sup P K mg f cda cc C slf m f2 ∧ Binds K fd ps ds ∧ Vals dvs ds ∧ FnOk P w K mg base CX k f2 fd ps sp
section
variable {X : Cx} {W : WX} {body : List Stmt} {f cda cc C : Addr} {slf m : Str} {ps : List Str} {dvs : List V} {k : Nat} {sp : Sp} {p0 p1 p2 pos : Pos} {e : Expr} {es : List Expr} {t : TA} {pl : Sem Bool}
theorem pea_supX (F : SupFn X.prog X.w X.K X.mg X.base (L2.CX X.prog X.w) f cda cc C slf m ps dvs k sp) (tk : Takes X W) (hr : Room k X.A) (hks : Gl X "super") (hkc : X.env.kindOf ("__class__" : Str) = some .free) (hfu : X.env.func = some f) (hco : X.env.code = .ref cda) (hcl : X.env.cells.lookup ("__class__" : Str) = some cc)
    (h0 : X.N[0]? = some slf) (hself : X.env.kindOf slf = some .local) (ha : PA X (e :: es) t) (hst : starEach (e :: es) X.env = (false, eval e X.env) :: starEach es X.env := by rfl) (hpl : (backTo pos (starEach es X.env)).any (·.1) = false := by rfl)
    (ht : eval (.Call (.Attribute (.Call (.Name "super" p0) [] [] p1) m p2) (e :: es) [] pos) X.env = (do
      let ov ← attributeBase (.Call (.Name "super" p0) [] [] p1) m X.env (eval (.Call (.Name "super" p0) [] [] p1) X.env)
      standAt p2.atName
      let (f, first) ← holding [ov] (getMethod ov m pl)
      callWith pos f first (backTo pos (starEach (e :: es) X.env)) []) := by rfl) :
    PEa X (.func body X.env) (.Call (.Attribute (.Call (.Name "super" p0) [] [] p1) m p2) (e :: es) [] pos) (tSup C (fun vs σ H Q => sp (vs ++ dvs) H Q (wAt W σ)) t) := by
  obtain ⟨f2, fd, ds, S, hb, hd, ok⟩ := F.ex
  exact pea_sup (pl := pl) S (runs_fnX ok hr hb hd tk) hks hkc hfu hco hcl h0 hself ha hst hpl ht
theorem pea_supN (F : SupFn X.prog X.w X.K X.mg X.base CX0 f cda cc C slf m ps dvs k sp) (hr : Room k X.A) (hks : Gl X "super") (hkc : X.env.kindOf ("__class__" : Str) = some .free) (hfu : X.env.func = some f) (hco : X.env.code = .ref cda) (hcl : X.env.cells.lookup ("__class__" : Str) = some cc)
    (h0 : X.N[0]? = some slf) (hself : X.env.kindOf slf = some .local) (ha : PA X (e :: es) t) (hst : starEach (e :: es) X.env = (false, eval e X.env) :: starEach es X.env := by rfl) (hpl : (backTo pos (starEach es X.env)).any (·.1) = false := by rfl)
    (ht : eval (.Call (.Attribute (.Call (.Name "super" p0) [] [] p1) m p2) (e :: es) [] pos) X.env = (do
      let ov ← attributeBase (.Call (.Name "super" p0) [] [] p1) m X.env (eval (.Call (.Name "super" p0) [] [] p1) X.env)
      standAt p2.atName
      let (f, first) ← holding [ov] (getMethod ov m pl)
      callWith pos f first (backTo pos (starEach (e :: es) X.env)) []) := by rfl) :
    PEa X (.func body X.env) (.Call (.Attribute (.Call (.Name "super" p0) [] [] p1) m p2) (e :: es) [] pos) (tSup C (fun vs _ H Q => sp (vs ++ dvs) H Q E0) t) := by
  obtain ⟨f2, fd, ds, S, hb, hd, ok⟩ := F.ex
  exact pea_sup (pl := pl) S (runs_fn ok hr hb hd) hks hkc hfu hco hcl h0 hself ha hst hpl ht
theorem pea_supN0 (F : SupFn X.prog X.w X.K X.mg X.base CX0 f cda cc C slf m ps dvs k sp) (hr : Room k X.A) (hks : Gl X "super") (hkc : X.env.kindOf ("__class__" : Str) = some .free) (hfu : X.env.func = some f) (hco : X.env.code = .ref cda) (hcl : X.env.cells.lookup ("__class__" : Str) = some cc)
    (h0 : X.N[0]? = some slf) (hself : X.env.kindOf slf = some .local)
    (ht : eval (.Call (.Attribute (.Call (.Name "super" p0) [] [] p1) m p2) [] [] pos) X.env = (do
      let ov ← attributeBase (.Call (.Name "super" p0) [] [] p1) m X.env (eval (.Call (.Name "super" p0) [] [] p1) X.env)
      standAt p2.atName
      let (f, first) ← holding [ov] (getMethod ov m pl)
      callWith pos f first (backTo pos (starEach [] X.env)) []) := by rfl) :
    PEa X (.func body X.env) (.Call (.Attribute (.Call (.Name "super" p0) [] [] p1) m p2) [] [] pos) (tSup C (fun vs _ H Q => sp (vs ++ dvs) H Q E0) tNil) := by
  obtain ⟨f2, fd, ds, S, hb, hd, ok⟩ := F.ex
  exact pea_sup0 (pl := pl) S (runs_fn ok hr hb hd) hks hkc hfu hco hcl h0 hself ht
end
structure PrpF (P : Program) (w : World) (K : PySem.W.Frag) (mg : Str → Option Value) (base : Heap) (C : Addr) (f : Str) (ps : List Str) (k : Nat) (sp : Sp) : Prop where
  cl : Cls K C
  ex : ∃ (p g : Addr) (fd : FuncData), PropOf K C f p g ∧ Binds K fd ps [] ∧ FnOk P w K mg base CX0 k g fd ps sp
theorem pe_prp {X : Cx} {C : Addr} {f : Str} {ps : List Str} {k : Nat} {sp : Sp} {e : Expr} {pos : Pos} {ta : TE} (F : PrpF X.prog X.w X.K X.mg X.base C f ps k sp) (hr : Room (k + 1) X.A) (he : PE X e ta) (hab : attributeBase e f X.env (eval e X.env) = eval e X.env) :
    PE X (.Attribute e f pos) (tProp C sp [] E0 ta) := by
  obtain ⟨p, g, fd, hp, hb, ok⟩ := F.ex
  exact pe_prop he F.cl hp ok hr hb .nil pass0 hab
instance {C : Addr} {sp : Sp} {dvs : List V} {E : XK} {ta : TE} {σ : L2.St} {H : Hp} {Q : VK} : Bar.Rd (tProp C sp dvs E ta σ H Q) (ta σ H fun x H1 => ∃ a dx fs, x = .ref a ∧ H1 a = some (.ins C dx fs) ∧ sp (.ref a :: dvs) H1 Q E) := ⟨fun h => h⟩
/-- made with n values and keywords; gV: what its __init__ is given -/
structure MadeK (P : Program) (w : World) (K : PySem.W.Frag) (mg : Str → Option Value) (base : Heap) (CX : CXT) (x : Str) (C : Addr) (ps ks : List Str) (n : Nat) (gV : List V → List V → List V) (k : Nat) (sp : Sp) : Prop where
  ex : ∃ (f : Addr) (fd : FuncData) (g : List Value → List Value → List Value), mg x = some (.ref C) ∧ Mk K C f ∧ KBn K fd ps (n + 1) ks g gV ∧ FnOk P w K mg base CX k f fd ps sp
def tMakeK' (C : Addr) (n m : Nat) (sp : Sp) (gV : List V → List V → List V) (W : WX) (t tk : TA) : TE := fun σ H Q => t σ H fun vs H1 => tk σ H1 fun zs H2 => vs.length = n ∧ zs.length = m ∧ ∀ x dx, H2 x = none → H2 dx = none → dx ≠ x →
  sp (gV (.ref x :: vs) zs) (upd (upd H2 dx (.own x)) x (.ins C dx [])) (fun v H3 => v = .non ∧ Q (.ref x) H3) (wAt W σ)
section
variable {X : Cx} {W : WX} {C : Addr} {ps ks : List Str} {n k : Nat} {gV : List V → List V → List V} {sp : Sp} {x : Str} {p pos : Pos} {e : Expr} {es : List Expr} {kws : List Keyword} {t tk : TA} {σ : L2.St} {H : Hp} {Q : VK}
theorem pe_mkK (F : MadeK X.prog X.w X.K X.mg X.base CX0 x C ps ks n gV k sp) (hr : Room (k + 1) X.A) (hg : Gl X x) (ha : PA X (e :: es) t) (hkw : PK X kws tk)
    (hall : (backToKw pos (keywordEach kws X.env)).all (·.1.isSome) = true := by rfl) (hks : (backToKw pos (keywordEach kws X.env)).filterMap (·.1) = ks := by rfl) (hdb : (x == ("__debug__" : Str)) = false := by decide)
    (he : starEach (e :: es) X.env = (false, eval e X.env) :: starEach es X.env := by rfl) (hpl : ((backTo pos (starEach (e :: es) X.env)).any (·.1) || (backToKw pos (keywordEach kws X.env)).any (·.1.isNone)) = false := by rfl) :
    PE X (.Call (.Name x p) (e :: es) kws pos) (tMakeN C n ks.length sp gV E0 t tk) := by
  obtain ⟨f, fd, g, hm, M, hb, ok⟩ := F.ex
  exact pe_makeN M ok hr hg hm hb pass0 ha hkw hall hks hdb he hpl
theorem pe_mkKX (F : MadeK X.prog X.w X.K X.mg X.base (L2.CX X.prog X.w) x C ps ks n gV k sp) (tk' : Takes X W) (hr : Room (k + 1) X.A) (hg : Gl X x) (ha : PA X (e :: es) t) (hkw : PK X kws tk)
    (hall : (backToKw pos (keywordEach kws X.env)).all (·.1.isSome) = true := by rfl) (hks : (backToKw pos (keywordEach kws X.env)).filterMap (·.1) = ks := by rfl) (hdb : (x == ("__debug__" : Str)) = false := by decide)
    (he : starEach (e :: es) X.env = (false, eval e X.env) :: starEach es X.env := by rfl) (hpl : ((backTo pos (starEach (e :: es) X.env)).any (·.1) || (backToKw pos (keywordEach kws X.env)).any (·.1.isNone)) = false := by rfl) :
    PE X (.Call (.Name x p) (e :: es) kws pos) (tMakeK' C n ks.length sp gV W t tk) := ⟨fun pins s σ H Q I h => by
  obtain ⟨f, fd, g, hm, M, hb, ok⟩ := F.ex
  refine wpAny_Call_Name_kw (ld_glob I hg hm ?_ hdb)
  refine PySem.W.callWith_KW (h₀ := X.base) I.ok.mod.kin M.kp hall (thn (ha.run pos pins s σ H _ I h) fun us s1 q => ?_) hpl he
  obtain ⟨vs, H1, I1, r, q⟩ := q
  refine thn (hkw.run pos pins s1 σ H1 _ I1 q) fun ws s2 q => ?_
  obtain ⟨zs, H2, I2, rz, l1, l2, q2⟩ := q
  refine ⟨I2.kIn, ?_⟩
  rw [hks]
  have start := q2 (s2.heap.objs.size + 1) s2.heap.objs.size (I2.hok.fresh (Nat.le_succ _)) (I2.hok.fresh (Nat.le_refl _)) (Nat.ne_of_lt (Nat.lt_succ_self _))
  have J := Inv.made (C := C) I2
  have r1 : Vals (V.ref (s2.heap.objs.size + 1) :: vs) (Value.ref (s2.heap.objs.size + 1) :: us) := .cons rfl r
  have n1 : (Value.ref (s2.heap.objs.size + 1) :: us).length = n + 1 := r1.length.symm.trans (congrArg Nat.succ l1)
  have n2 : ws.length = ks.length := rz.length.symm.trans l2
  refine wpAny_call (make_map (f := f) I2.kIn M.makes M.init (beq_iff_eq.mp M.fn) (codeAny_mono (ok.run _ X.stack _ _ ⟨Value.ref (s2.heap.objs.size + 1) :: us, ks.zip ws⟩ (g (Value.ref (s2.heap.objs.size + 1) :: us) ws) _ _ (wAt W σ) (hr.make C us (ks.zip ws))
    (J.env0.make C us (ks.zip ws)) (hb.to _ _ ws J.kIn n1 n2) (hb.rel r1 rz) start) fun z s' hz => ?_))
  match z, hz with
  | .error e, hz => exact tk' e s' (XE.of_call J (fun _ _ _ h => h) hz)
  | .ok (.ret u), hz =>
    obtain ⟨v, H', J3, rv, ev, q3⟩ := J.after hz
    subst ev
    exact ⟨rv, ⟨V.ref (s2.heap.objs.size + 1), H', J3, rfl, q3⟩⟩⟩
instance {t tk : TA} {n m : Nat} : Bar.Rd (tMakeK' C n m sp gV W t tk σ H Q) (t σ H fun vs H1 => tk σ H1 fun zs H2 => vs.length = n ∧ zs.length = m ∧ ∀ x dx, H2 x = none → H2 dx = none → dx ≠ x →
  sp (gV (.ref x :: vs) zs) (upd (upd H2 dx (.own x)) x (.ins C dx [])) (fun v H3 => v = .non ∧ Q (.ref x) H3) (wAt W σ)) := ⟨fun h => h⟩
end
theorem MadeK0 {P : Program} {w : World} {K : PySem.W.Frag} {mg : Str → Option Value} {base : Heap} {x : Str} {C : Addr} {ps ks : List Str} {n k : Nat} {gV : List V → List V → List V} {sp : Sp} (F : MadeK P w K mg base (L2.CX P w) x C ps ks n gV k sp) : MadeK P w K mg base CX0 x C ps ks n gV k (fun vs H Q _ => sp vs H Q E0) := by
  obtain ⟨f, fd, g, hm, M, hb, ok⟩ := F.ex
  exact ⟨f, fd, g, hm, M, hb, FnX0 ok⟩
instance {K : PySem.W.Frag} {ta : TE} {f : Str} {σ : L2.St} {H : Hp} {Q : VK} : Bar.Rd (tCVal K ta f σ H Q) (ta σ H fun x H1 => ∃ C mc v u, x = .ref C ∧ CRead K C mc ∧ CVal K C mc f v u ∧ Q v H1) := ⟨fun h => h⟩
theorem rStartF {N : List Str} {vs : List V} {ws : List (Option V)} {t : TS} {D : Ends} {σ : L2.St} {H : Hp} (e : startF N vs ws = σ) (h : t D σ H) : t D (startF N vs ws) H := by
  rw [e]
  exact h
end Bar

set_option Elab.async false
set_option linter.all false
set_option maxRecDepth 100000
set_option maxHeartbeats 4000000
/-! texts -/
namespace Bar
open PySem L2
section
variable {σ τ : L2.St} {H : Hp} {Q : VK} {QI : It → Hp → Prop} {z y : Str} {i : Int} {c : Nat} {te : TE} {K : PySem.W.Frag}
/-- one sign in a text, or not -/
def rInSg : R2 := fun x y H Q => ∃ (c : Nat) (z : Str), x = .str ⟨#[c]⟩ ∧ y = .str z ∧ Q (.bl (decide (c ∈ z.cps.toList))) H
def rNoSg : R2 := fun x y H Q => ∃ (c : Nat) (z : Str), x = .str ⟨#[c]⟩ ∧ y = .str z ∧ Q (.bl (!decide (c ∈ z.cps.toList))) H
theorem o_inSg {X : Cx} : OpR X (compareOp .In) rInSg := op_in_sign
theorem o_noSg {X : Cx} : OpR X (compareOp .NotIn) rNoSg := op_notIn_sign
instance : Rd (rInSg (.str ⟨#[c]⟩) (.str z) H Q) (Q (.bl (decide (c ∈ z.cps.toList))) H) := ⟨fun h => ⟨c, z, rfl, rfl, h⟩⟩
instance : Rd (rNoSg (.str ⟨#[c]⟩) (.str z) H Q) (Q (.bl (!decide (c ∈ z.cps.toList))) H) := ⟨fun h => ⟨c, z, rfl, rfl, h⟩⟩
/-- two texts, one behind the other -/
def rCatS : R2 := fun x y H Q => ∃ i j : Str, x = .str i ∧ y = .str j ∧ i.length + j.length ≤ sizeLine ∧ Q (.str (i ++ j)) H
theorem o_catS {X : Cx} : OpR X (binaryOp .Add) rCatS := op_add_str
theorem rCatS_ (l : z.length + y.length ≤ sizeLine) (h : Q (.str (z ++ y)) H) : rCatS (.str z) (.str y) H Q := ⟨z, y, rfl, rfl, l, h⟩
theorem rIxS_ (l : z.length ≤ sizeLine) (e : atI z.cps.toList i = some c) (h : Q (.str ⟨#[c]⟩) H) : rIxS (.str z) (.int i) H Q := ⟨z, i, c, rfl, rfl, l, e, h⟩
theorem rSlS_ {lo hi : Option Int} (l : z.length ≤ sizeLine) (h : Q (.str (cutS z lo hi)) H) : rSlS (.str z) lo hi H Q := ⟨z, rfl, l, h⟩
theorem dStr (a b : Str) : decide (V.str a = V.str b) = decide (a = b) := by
  by_cases q : a = b
  · subst q; rw [decide_eq_true rfl, decide_eq_true rfl]
  · rw [decide_eq_false q, decide_eq_false (fun z => q (V.str.inj z))]
theorem rEqSt (h : Q (.bl (decide (z = y))) H) : rEq (.str z) (.str y) H Q := ⟨rfl, by rw [dStr]; exact h⟩
theorem rNeSt (h : Q (.bl (!decide (z = y))) H) : rNe (.str z) (.str y) H Q := ⟨rfl, by rw [dStr]; exact h⟩
instance : Rd (iStr te σ H QI) (te σ H fun v H1 => ∃ x, v = .str x ∧ QI (Its x) H1) := ⟨fun h => h⟩
instance {R : Str → Prop} : Rd (∃ x, V.str z = .str x ∧ R x) (R z) := ⟨fun h => ⟨z, rfl, h⟩⟩
theorem str_ext {a b : Str} (h : a.cps.toList = b.cps.toList) : a = b := by
  obtain ⟨a⟩ := a
  obtain ⟨b⟩ := b
  have : a = b := Array.toList_inj.mp h
  rw [this]
theorem cat_cps (a b : Str) : (a ++ b).cps.toList = a.cps.toList ++ b.cps.toList := by
  show (a.cps ++ b.cps).toList = _
  rw [Array.toList_append]
theorem len_cps (a : Str) : a.length = a.cps.toList.length := rfl
theorem cut_cps (z : Str) (lo hi : Option Int) : (cutS z lo hi).cps.toList = (z.cps.toList.drop (HT.sIx z.length 0 lo)).take (HT.sIx z.length z.length hi - HT.sIx z.length 0 lo) := by
  unfold cutS
  rw [List.toList_toArray]
theorem cut_to {z : Str} {n : Int} (h : 0 ≤ n) : (cutS z none (some n)).cps.toList = z.cps.toList.take n.toNat := by
  rw [cut_cps]
  have e1 : HT.sIx z.length 0 none = 0 := rfl
  have e2 : HT.sIx z.length z.length (some n) = min n.toNat z.length := by
    show (if n < 0 then _ else _) = _
    rw [if_neg (by omega)]
  rw [e1, e2, List.drop_zero, Nat.sub_zero, len_cps, ← List.take_eq_take_min]
theorem cut_from {z : Str} {n : Int} (h : 0 ≤ n) : (cutS z (some n) none).cps.toList = z.cps.toList.drop n.toNat := by
  rw [cut_cps]
  have e1 : HT.sIx z.length 0 (some n) = min n.toNat z.length := by
    show (if n < 0 then _ else _) = _
    rw [if_neg (by omega)]
  have e2 : HT.sIx z.length z.length none = z.length := rfl
  rw [e1, e2, len_cps]
  by_cases l : n.toNat ≤ z.cps.toList.length
  · rw [Nat.min_eq_left l]
    exact List.take_of_length_le (by rw [List.length_drop]; exact Nat.le_refl _)
  · rw [Nat.min_eq_right (by omega), List.drop_length, List.drop_eq_nil_of_le (by omega), List.take_nil]
end
section
variable {D : Ends} {σ τ : L2.St} {H : Hp} {g : TG} {tb : TS} {tt : TT} {te : TE} {vs : List Nat}
/-- a loop over the signs of a text -/
theorem forS {z : Str} (Pv : Nat → L2.St → Hp → Prop) (h0 : Pv 0 σ H) (hs : ∀ i c σ H, z.cps.toList[i]? = some c → Pv i σ H → g (.str ⟨#[c]⟩) σ H fun σ2 H2 => tb ⟨Pv (i + 1), D.rt, D.nx, Pv (i + 1)⟩ σ2 H2) (hd : ∀ σ H, Pv z.cps.toList.length σ H → D.nx σ H) :
    ∃ W : Nat → Nat → L2.St → Hp → Prop, (∃ m, W 0 m σ H) ∧ ∀ i m σ H, W i m σ H →
      ((Its z).stop i H ∧ D.nx σ H) ∨ ((Its z).go i H ∧ ∃ N : L2.St → Hp → Prop, (∀ σ' H', N σ' H' → ∃ m', m' < m ∧ W (i + 1) m' σ' H') ∧ ∀ x H', (Its z).yld i H x H' → g x σ H' fun σ2 H2 => tb { D with nx := N, ct := N, bk := D.nx } σ2 H2) := by
  have sz : z.cps.size = z.cps.toList.length := rfl
  refine ⟨fun i m σ H => m = z.cps.size - i ∧ i ≤ z.cps.size ∧ Pv i σ H, ⟨_, rfl, Nat.zero_le _, h0⟩, ?_⟩
  rintro i m σ H ⟨rfl, hi, p⟩
  by_cases lt : i < z.cps.size
  · refine .inr ⟨lt, Pv (i + 1), fun σ' H' p' => ⟨z.cps.size - (i + 1), by omega, rfl, lt, p'⟩, fun x H' y => ?_⟩
    obtain ⟨e, c, hc, ex⟩ := y
    subst e ex
    exact hs i c σ _ (by rw [Array.getElem?_toList]; exact hc) p
  · have e : i = z.cps.size := by omega
    subst e
    exact .inl ⟨Nat.le_refl _, hd σ H p⟩
/-- a comprehension over the signs of a text -/
theorem lcS {z : Str} {R : Addr → Hp → Prop} (ew : wipe σ vs = τ)
    (h : ∀ D, H D = none → ∃ Pv : Nat → Hp → Prop, Pv 0 (upd H D (.lst [])) ∧
      (∀ i c H', z.cps.toList[i]? = some c → Pv i H' → g (.str ⟨#[c]⟩) τ H' fun σ2 H2 => wipe σ2 vs = τ ∧ tt σ2 H2 fun b H3 =>
        if b = true then te σ2 H3 fun y H4 => ∃ acc, H4 D = some (.lst acc) ∧ acc.length < sizeLine ∧ Pv (i + 1) (upd H4 D (.lst (acc ++ [y]))) else Pv (i + 1) H3) ∧ ∀ H', Pv z.cps.toList.length H' → R D H') :
    ∀ D, H D = none → ∃ W : Nat → Nat → Hp → Prop, (∃ m, W 0 m (upd H D (.lst []))) ∧ ∀ i m H, W i m H →
      ((Its z).stop i H ∧ R D H) ∨ ((Its z).go i H ∧ ∃ Nx : Hp → Prop, (∀ H', Nx H' → ∃ m', m' < m ∧ W (i + 1) m' H') ∧ ∀ x H', (Its z).yld i H x H' → g x (wipe σ vs) H' fun σ2 H2 => wipe σ2 vs = wipe σ vs ∧ tt σ2 H2 fun b H3 =>
        if b = true then te σ2 H3 fun y H4 => ∃ acc, H4 D = some (.lst acc) ∧ acc.length < sizeLine ∧ Nx (upd H4 D (.lst (acc ++ [y]))) else Nx H3) := by
  subst ew
  intro D hD
  obtain ⟨Pv, h0, hs, hd⟩ := h D hD
  have sz : z.cps.size = z.cps.toList.length := rfl
  refine ⟨fun i m H => m = z.cps.size - i ∧ i ≤ z.cps.size ∧ Pv i H, ⟨_, rfl, Nat.zero_le _, h0⟩, ?_⟩
  rintro i m H ⟨rfl, hi, p⟩
  by_cases lt : i < z.cps.size
  · refine .inr ⟨lt, Pv (i + 1), fun H' p' => ⟨z.cps.size - (i + 1), by omega, rfl, lt, p'⟩, fun x H' y => ?_⟩
    obtain ⟨e, c, hc, ex⟩ := y
    subst e ex
    exact hs i c _ (by rw [Array.getElem?_toList]; exact hc) p
  · have e : i = z.cps.size := by omega
    subst e
    exact .inl ⟨Nat.le_refl _, hd H p⟩
end
instance {te : TE} {σ : L2.St} {H : Hp} {Q : VK} : Rd (tFmtR te σ H Q) (te σ H fun x H1 => (∃ y : Str, x = .str y ∧ (reprText y).length ≤ sizeLine ∧ Q (.str (reprText y)) H1) ∨ ∃ i : Int, x = .int i ∧ i.natAbs.log2 < 1920 ∧ Q (.str (toString i)) H1) := ⟨fun h => h⟩
/-! ### names -/
abbrev lettersS : Str := "abcdefghijklmnopqrstuvwxyz"
abbrev signsS : Str := "abcdefghijklmnopqrstuvwxyz0123456789"
def letL : List Nat := lettersS.cps.toList
def sgnL : List Nat := signsS.cps.toList
/-- the form of a name -/
def nameL (l : List Nat) : Bool := decide (1 ≤ l.length) && decide (l.length ≤ 12) && l.head?.any (fun c => decide (c ∈ letL)) && l.all (fun c => decide (c ∈ sgnL))
abbrev nameB (z : Str) : Bool := nameL z.cps.toList
theorem let_sub : ∀ c ∈ letL, c ∈ sgnL := by decide +kernel
theorem let_ix {r : Int} (h0 : 0 ≤ r) (h1 : r < 26) : ∃ c, atI letL r = some c ∧ c ∈ letL := by
  have : ∀ n : Nat, n < 26 → ∃ c, letL[n]? = some c := fun n hn => ⟨_, List.getElem?_eq_getElem (show n < letL.length from hn)⟩
  obtain ⟨c, hc⟩ := this r.toNat (by omega)
  refine ⟨c, ?_, List.mem_of_getElem? hc⟩
  rw [show r = ((r.toNat : Nat) : Int) by omega]
  exact atI_nat hc
theorem sgn_ix {r : Int} (h0 : 0 ≤ r) (h1 : r < 36) : ∃ c, atI sgnL r = some c ∧ c ∈ sgnL := by
  have : ∀ n : Nat, n < 36 → ∃ c, sgnL[n]? = some c := fun n hn => ⟨_, List.getElem?_eq_getElem (show n < sgnL.length from hn)⟩
  obtain ⟨c, hc⟩ := this r.toNat (by omega)
  refine ⟨c, ?_, List.mem_of_getElem? hc⟩
  rw [show r = ((r.toNat : Nat) : Int) by omega]
  exact atI_nat hc
end Bar

set_option Elab.async false
set_option linter.all false
set_option maxRecDepth 100000
set_option maxHeartbeats 4000000
/-! str of own objects, methods of texts, classmethods that raise, a class in a local name -/
namespace Bar
open PySem L2 PySem.Spec PyProof.Rows ClX

/-! ### str(o), o of a class with its own __str__ -/
structure StrF (P : Program) (w : World) (K : PySem.W.Frag) (mg : Str → Option Value) (base : Heap) (C : Addr) (ps : List Str) (k : Nat) (sp : Sp) : Prop where
  ex : ∃ (f : Addr) (fd : FuncData), PySem.W.findIn K (.ref C) "__str__" = some (some (.ref f)) ∧ PySem.W.isFn K (.ref f) = true ∧ Binds K fd ps [] ∧ FnOk P w K mg base CX0 k f fd ps sp
def rStrO (C : Addr) (sp : Sp) : List V → Hp → VK → Prop := fun xs H Q => ∃ (a dx : Addr) (fs : List (Str × V)), xs = [.ref a] ∧ H a = some (.ins C dx fs) ∧ sp [.ref a] H (fun v H' => ∃ y : Str, v = .str y ∧ Q (.str y) H') E0
theorem c_strO {X : Cx} {C : Addr} {ps : List Str} {k : Nat} {sp : Sp} (F : StrF X.prog X.w X.K X.mg X.base C ps k sp) (hr : Room (k + 2) X.A) : CallR X (.type "str") (rStrO C sp) := by
  intro pins s σ H xs us Q I r h
  obtain ⟨f, fd, hs, hf, hb, ok⟩ := F.ex
  obtain ⟨a, dx, fs, rfl, ea, q⟩ := h
  cases r with
  | cons r1 r2 =>
    cases r2
    cases r1
    obtain ⟨mA, O', _⟩ := ins_get I.hok ea
    obtain ⟨od, J, _⟩ := O'.look
    have hl : ([Value.ref a] ++ ([] : List Value)).length = ps.length := by
      have e := ok.len _ _ _ _ q
      rw [← e]
      rfl
    have bnd : BindsTo s fd ⟨[Value.ref a], []⟩ (ps.zip [Value.ref a]) := by
      have e := hb s [Value.ref a] I.kIn hl
      rwa [List.append_nil] at e
    have run := ok.run X.A.in1.in1 X.stack s H ⟨[Value.ref a], []⟩ [Value.ref a] [V.ref a] _ E0 hr.in1.in1 I.env0.in1.in1 bnd (.cons rfl .nil) q
    refine PySem.W.kso_call (hr.in1.in1.units0) I.kIn J hs hf (wpAny_call (codeAny_mono run fun r s' hq => ?_))
    cases r with
    | error e => exact False.elim hq
    | ok fl =>
      cases fl with
      | ret u' =>
        obtain ⟨v', H', I', rv, y, ev, q'⟩ := I.after hq
        subst ev
        obtain ⟨t, rfl⟩ := rv
        exact ⟨.str y, H', I', ⟨t, rfl⟩, q'⟩
      | next => exact False.elim hq
      | brk => exact False.elim hq
      | cont => exact False.elim hq
instance {C : Addr} {sp : Sp} {a : Addr} {H : Hp} {Q : VK} : Rd (rStrO C sp [.ref a] H Q) (∃ (dx : Addr) (fs : List (Str × V)), H a = some (.ins C dx fs) ∧ sp [.ref a] H (fun v H' => ∃ y : Str, v = .str y ∧ Q (.str y) H') E0) := ⟨fun ⟨dx, fs, h, q⟩ => ⟨a, dx, fs, rfl, h, q⟩⟩
/-! ### s.index(y) -/
def rIdx : V → List V → Hp → VK → Prop := fun x xs H Q => ∃ (a b : Str) (k : Nat), x = .str a ∧ xs = [.str b] ∧ Txt.index0 a b = some k ∧ Q (.int (k : Nat)) H
theorem mt_idx {X : Cx} : MtR X "str.index" rIdx := by
  intro pins s σ H x xs v us Q I rx rs h
  obtain ⟨a, b, k, rfl, rfl, e, q⟩ := h
  obtain ⟨t, rfl⟩ := rx
  cases rs with
  | cons r1 rs =>
    cases rs
    obtain ⟨u, rfl⟩ := r1
    unfold Txt.index0 at e
    cases z : Builtin.Str.occurrences a b 0 a.length 1 with
    | nil =>
      rw [z] at e
      cases e
    | cons k' rest =>
      rw [z] at e
      cases e
      exact PySem.SC.index z ⟨.int (k : Nat), H, I.tok _, ⟨_, rfl⟩, q⟩
/-! ### C.m(..), a classmethod that may raise -/
structure CMthX (P : Program) (w : World) (K : PySem.W.Frag) (mg : Str → Option Value) (base : Heap) (C : Addr) (m : Str) (ps : List Str) (k : Nat) (sp : Sp) : Prop where
  cr : ClX.CRead K C (.type "type")
  ex : ∃ (p g : Addr) (fd : FuncData), CMet K C (.type "type") m p g ∧ Binds K fd ps [] ∧ FnOk P w K mg base (L2.CX P w) k g fd ps sp
def tCMthX (C : Addr) (sp : Sp) (W : WX) (ta : TE) (t : TA) : TE := fun σ H Q => ta σ H fun x H1 => x = .ref C ∧ t σ H1 fun vs H2 => sp (.ref C :: vs ++ []) H2 Q (wAt W σ)
theorem pe_cmthX {X : Cx} {W : WX} {C : Addr} {m : Str} {ps : List Str} {k : Nat} {sp : Sp} {o e : Expr} {es : List Expr} {ta : TE} {t : TA} {pos apos : Pos} {pl : Sem Bool} (F : CMthX X.prog X.w X.K X.mg X.base C m ps k sp) (tk : Takes X W) (hr : Room k X.A) (he : PE X o ta) (ha : PA X (e :: es) t)
    (hst : starEach (e :: es) X.env = (false, eval e X.env) :: starEach es X.env := by rfl) (hpl : (backTo pos (starEach es X.env)).any (·.1) = false := by rfl)
    (ht : eval (.Call (.Attribute o m apos) (e :: es) [] pos) X.env = (do
      let ov ← eval o X.env
      standAt apos.atName
      let (f, first) ← holding [ov] (getMethod ov m pl)
      callWith pos f first (backTo pos (starEach (e :: es) X.env)) (backToKw pos (keywordEach [] X.env))) := by rfl) :
    PE X (.Call (.Attribute o m apos) (e :: es) [] pos) (tCMthX C sp W ta t) := ⟨fun pins s σ H Q I h => by
  obtain ⟨p, g, fd, c, hb, ok⟩ := F.ex
  refine PySem.W.methodCall_KW (pl := pl) (thn (he.run pins s σ H _ I h) fun u s1 ⟨x, H1, I1, rx, ex, q⟩ => ?_) ht
  subst ex
  obtain rfl : u = Value.ref C := rx
  refine getmethcm_ok I1 F.cr c fun s2 I2 => ?_
  refine callwith_cm I2 (base_none I1 (Nat.le_refl _)) c.fi (thn (ha.run pos _ s2 σ H1 _ I2 q) fun us s3 ⟨vs, H2, I3, rv, q2⟩ => ⟨⟨pin_at I3, I3.kIn⟩, ?_⟩) hst hpl
  refine thn (wpAny_call (PySem.W.method_call (pin_at I3) (codeAny_mono ((runs_fnX ok hr hb .nil tk).run _ s3 σ H2 (.ref C :: us) (.ref C :: vs) Q I3 (.cons rfl rv) q2) fun r s' z => z))) fun _ _ y => unpinE y⟩
instance {C : Addr} {sp : Sp} {W : WX} {ta : TE} {t : TA} {σ : L2.St} {H : Hp} {Q : VK} : Rd (tCMthX C sp W ta t σ H Q) (ta σ H fun x H1 => x = .ref C ∧ t σ H1 fun vs H2 => sp (.ref C :: vs ++ []) H2 Q (wAt W σ)) := ⟨fun h => h⟩
/-! ### x(e, ..), a local name that holds the class at C -/
def tMakeL (C : Addr) (i : Nat) (sp : Sp) (dvs : List V) (t : TA) : TE := fun σ H Q => σ[i]? = some (some (.ref C)) ∧ t σ H fun vs H1 => ∀ x dx, H1 x = none → H1 dx = none → dx ≠ x → sp (.ref x :: (vs ++ dvs)) (upd (upd H1 dx (.own x)) x (.ins C dx [])) (fun v H2 => v = .non ∧ Q (.ref x) H2) E0
structure MadeL (P : Program) (w : World) (K : PySem.W.Frag) (mg : Str → Option Value) (base : Heap) (C : Addr) (ps : List Str) (dvs : List V) (k : Nat) (sp : Sp) : Prop where
  ex : ∃ (f : Addr) (fd : FuncData) (ds : List Value), Mk K C f ∧ Binds K fd ps ds ∧ Vals dvs ds ∧ FnOk P w K mg base CX0 k f fd ps sp
theorem pe_mkL {X : Cx} {C : Addr} {i : Nat} {ps : List Str} {dvs : List V} {k : Nat} {sp : Sp} {x : Str} {p pos : Pos} {e : Expr} {es : List Expr} {t : TA} (F : MadeL X.prog X.w X.K X.mg X.base C ps dvs k sp) (hr : Room (k + 1) X.A) (ha : PA X (e :: es) t) (hN : X.N[i]? = some x := by rfl) (hv : Vis X.env.scope x := by first | exact Or.inl rfl | exact Or.inr (Or.inl rfl) | exact Or.inr (Or.inr rfl)) (hd : (x == ("__debug__" : Str)) = false := by decide) (hcd : (x == ("__classdict__" : Str)) = false := by decide)
    (he : starEach (e :: es) X.env = (false, eval e X.env) :: starEach es X.env := by rfl) (hpl : (backTo pos (starEach es X.env)).any (·.1) = false := by rfl) : PE X (.Call (.Name x p) (e :: es) [] pos) (tMakeL C i sp dvs t) := ⟨fun pins s σ H Q I h => by
  obtain ⟨hs, h⟩ := h
  obtain ⟨f, fd, ds, M, hb, hd', ok⟩ := F.ex
  refine wpAny_Call_Name_kw (thn ((pe_var (pos := p) (i := i) hN hv hd hcd).run pins s σ H (fun v H1 => v = .ref C ∧ H1 = H) I ⟨.ref C, hs, rfl, rfl⟩) fun u s1 hq => ?_)
  obtain ⟨v, H1, I1, rv, ev, eH⟩ := hq
  subst ev eH
  obtain rfl : u = Value.ref C := rv
  refine PySem.W.callWith_K (h₀ := X.base) I1.ok.mod.kin M.kp (thn (ha.run pos pins s1 σ H1 _ I1 h) fun us s2 hs => ?_) he hpl
  obtain ⟨vs, H2, J, r, q⟩ := hs
  exact ⟨J.kIn, run_make M ok hr hb hd' pass0 J r q⟩⟩
instance {C : Addr} {i : Nat} {sp : Sp} {dvs : List V} {t : TA} {σ : L2.St} {H : Hp} {Q : VK} : Rd (tMakeL C i sp dvs t σ H Q) (σ[i]? = some (some (.ref C)) ∧ t σ H fun vs H1 => ∀ x dx, H1 x = none → H1 dx = none → dx ≠ x → sp (.ref x :: (vs ++ dvs)) (upd (upd H1 dx (.own x)) x (.ins C dx [])) (fun v H2 => v = .non ∧ Q (.ref x) H2) E0) := ⟨fun h => h⟩
/-! ### a sign many times -/
def rRepS : R2 := fun x y H Q => ∃ (c n : Nat), x = .str ⟨#[c]⟩ ∧ y = .int (n : Int) ∧ 2 ≤ n ∧ n ≤ 10000 ∧ ∀ z : Str, z.cps.toList = List.replicate n c → Q (.str z) H
theorem fold_rep (c : Nat) : ∀ (n : Nat) (a : Array Nat), ((List.replicate n #[c]).foldl (· ++ ·) a).toList = a.toList ++ List.replicate n c
  | 0, a => by simp
  | n + 1, a => by
    rw [List.replicate_succ, List.foldl_cons, fold_rep c n, Array.toList_append, List.replicate_succ, List.append_assoc]
    rfl
theorem op_repS {X : Cx} : OpR X (binaryOp .Mult) rRepS := by
  intro pins s σ H x y v u Q I rx ry h
  obtain ⟨c, n, rfl, rfl, h1, h2, q⟩ := h
  obtain ⟨t, rfl⟩ := rx
  obtain ⟨t', rfl⟩ := ry
  have l1 : (⟨#[c]⟩ : Str).length = 1 := rfl
  have n1 : ((n : Int) == 1 || (⟨#[c]⟩ : Str).length == 0) = false := by
    rw [l1]
    have : ((n : Int) == 1) = false := by
      rw [beq_eq_false_iff_ne]
      omega
    rw [this]
    rfl
  refine PySem.P.mul_str ?_ (fun _ _ => ?_) (fun _ _ => ?_) ?_
  · rw [decide_eq_false (show ¬ (n : Int) < -(2 ^ 63 : Int) by omega), decide_eq_false (show ¬ (n : Int) ≥ 2 ^ 63 by omega)]
    rfl
  · rw [l1]
    intro h
    have : (1 : Int) ≤ (2 ^ 63 - 1) / (n : Int) := by
      rw [Int.le_ediv_iff_mul_le (by omega)]
      omega
    omega
  · rw [l1, Nat.one_mul, Int.toNat_natCast]
    exact decide_eq_false (show ¬ n > sizeLine from Nat.not_lt.mpr (Nat.le_trans h2 (by decide)))
  · rw [if_neg (by omega), n1, if_neg (by decide), Int.toNat_natCast]
    have e := fold_rep c n #[]
    have e : ((List.replicate n #[c]).foldl (· ++ ·) #[]).toList = List.replicate n c := e
    refine ⟨?_, ⟨.str _, H, I.tok _, ⟨_, rfl⟩, q _ e⟩⟩
    show _ ≤ sizeLine
    rw [len_cps]
    rw [e, List.length_replicate]
    exact Nat.le_trans h2 (by decide)
/-! ### methods of texts -/
def rFindS : V → List V → Hp → VK → Prop := fun x xs H Q => ∃ a b, x = .str a ∧ xs = [.str b] ∧ Q (.int (Txt.find a b)) H
theorem mt_findS {X : Cx} : MtR X "str.find" rFindS := mt_find
def rStartS : V → List V → Hp → VK → Prop := fun x xs H Q => ∃ a b, x = .str a ∧ xs = [.str b] ∧ Q (.bl (Txt.startswith a b)) H
theorem mt_startS {X : Cx} : MtR X "str.startswith" rStartS := mt_startswith
def rAsciiS : V → List V → Hp → VK → Prop := fun x xs H Q => ∃ a, x = .str a ∧ xs = [] ∧ True ∧ Q (.bl (Txt.isascii a)) H
theorem mt_asciiS {X : Cx} : MtR X "str.isascii" rAsciiS := mt_isascii
def rDigitS : V → List V → Hp → VK → Prop := fun x xs H Q => ∃ a, x = .str a ∧ xs = [] ∧ True ∧ Q (.bl (Txt.isdigit a)) H
theorem mt_digitS {X : Cx} : MtR X "str.isdigit" rDigitS := mt_isdigit
def rPartS : V → List V → Hp → VK → Prop := fun x xs H Q => ∃ a b, x = .str a ∧ xs = [.str b] ∧ (b.length == 0) = false ∧ a.length ≤ sizeLine ∧ ∀ p, H p = none → Q (.ref p) (upd H p (.tup [.str (Txt.partition a b).1, .str (Txt.partition a b).2.1, .str (Txt.partition a b).2.2]))
theorem mt_partS {X : Cx} : MtR X "str.partition" rPartS := mt_partition
def rIntS : List V → Hp → VK → Prop := fun xs H Q => ∃ a n, xs = [.str a] ∧ PySem.intText? a = some n ∧ a.length ≤ 640 ∧ Q (.int n) H
theorem c_intS {X : Cx} : CallR X (.type "int") rIntS := call_int_str
section
variable {a b : Str} {H : Hp} {Q : VK} {r : V → List V → Hp → VK → Prop} {to te : TE} {σ : L2.St}
instance : Rd (tM0 r to σ H Q) (to σ H fun x H1 => (∃ a, x = .str a) ∧ r x [] H1 Q) := ⟨fun h => h⟩
instance : Rd (tM1 r to te σ H Q) (to σ H fun x H1 => (∃ a, x = .str a) ∧ te σ H1 fun y H2 => r x [y] H2 Q) := ⟨fun h => h⟩
instance {R : Prop} : Rd ((∃ c : Str, V.str a = .str c) ∧ R) R := ⟨fun h => ⟨⟨a, rfl⟩, h⟩⟩
instance : Rd (rFindS (.str a) [.str b] H Q) (Q (.int (Txt.find a b)) H) := ⟨fun h => ⟨a, b, rfl, rfl, h⟩⟩
instance : Rd (rStartS (.str a) [.str b] H Q) (Q (.bl (Txt.startswith a b)) H) := ⟨fun h => ⟨a, b, rfl, rfl, h⟩⟩
instance : Rd (rAsciiS (.str a) [] H Q) (Q (.bl (Txt.isascii a)) H) := ⟨fun h => ⟨a, rfl, rfl, trivial, h⟩⟩
instance : Rd (rDigitS (.str a) [] H Q) (Q (.bl (Txt.isdigit a)) H) := ⟨fun h => ⟨a, rfl, rfl, trivial, h⟩⟩
end
/-! ### join and split -/
def rJoinS (K : PySem.W.Frag) : V → List V → Hp → VK → Prop := fun x xs H Q => ∃ a p, ∃ ys : List Str, x = .str a ∧ xs = [.ref p] ∧ (SqL K H p (ys.map V.str) ∨ SqT K H p (ys.map V.str)) ∧
    (ys.map (·.length)).sum + ys.length * a.length ≤ 16777216 ∧ Q (.str (Txt.join a ys)) H
theorem mt_joinS {X : Cx} : MtR X "str.join" (rJoinS X.K) := mt_join
def rSplitS : V → List V → Hp → VK → Prop := fun x xs H Q => ∃ a b, x = .str a ∧ xs = [.str b] ∧ (b.length == 0) = false ∧ a.length + 2 ≤ sizeLine ∧ ∀ p, H p = none → Q (.ref p) (upd H p (.lst ((Txt.split a b).map V.str)))
theorem mt_splitS {X : Cx} : MtR X "str.split" rSplitS := mt_split
theorem rJoinS_ {K : PySem.W.Frag} {a : Str} {p : Addr} {H : Hp} {Q : VK} (ys : List Str) (hp : SqL K H p (ys.map V.str) ∨ SqT K H p (ys.map V.str)) (l : (ys.map (·.length)).sum + ys.length * a.length ≤ 16777216) (h : Q (.str (Txt.join a ys)) H) : rJoinS K (.str a) [.ref p] H Q := ⟨a, p, ys, rfl, rfl, hp, l, h⟩
theorem rSplitS_ {a b : Str} {H : Hp} {Q : VK} (hb : (b.length == 0) = false) (l : a.length + 2 ≤ sizeLine) (h : ∀ p, H p = none → Q (.ref p) (upd H p (.lst ((Txt.split a b).map V.str)))) : rSplitS (.str a) [.str b] H Q := ⟨a, b, rfl, rfl, hb, l, h⟩
theorem pe_fn0 {X : Cx} {x : Str} {ps : List Str} {dvs : List V} {k : Nat} {sp : Sp} {p pos : Pos} (F : Fn X.prog X.w X.K X.mg X.base x ps dvs k sp) (hr : Room k X.A) (hg : Gl X x) (hdb : (x == ("__debug__" : Str)) = false := by decide) : PE X (.Call (.Name x p) [] [] pos) (tCall sp dvs E0 tNil) := by
  obtain ⟨f, fd, ds, hm, hk, hb, hd, ok⟩ := F.ex
  exact pe_call0 ok hr hg hm hk hb hd pass0 hdb
end Bar

set_option Elab.async false
set_option linter.all false
set_option maxRecDepth 100000
set_option maxHeartbeats 4000000
/-! strip(chars), methods without arguments -/
namespace Bar
open PySem L2 PySem.Spec PyProof.Rows PySem.Builtin PySem.Builtin.Str
/-! ### s.strip(chars) -/
def rStripC : V → List V → Hp → VK → Prop := fun x xs H Q => ∃ a b, x = .str a ∧ xs = [.str b] ∧ a.length ≤ sizeLine ∧ Q (.str (Txt.stripChars a b)) H
theorem mt_stripCS {X : Cx} : MtR X "str.strip" rStripC := mt_stripChars
theorem rStripC_ {a b : Str} {H : Hp} {Q : VK} (l : a.length ≤ sizeLine) (h : Q (.str (Txt.stripChars a b)) H) : rStripC (.str a) [.str b] H Q := ⟨a, b, rfl, rfl, l, h⟩
theorem getD_mem {x : Str} {k : Nat} (h : k < x.length) : x.cps.getD k 0 ∈ x.cps.toList := by
  rw [← getD_list]
  have hk : k < x.cps.toList.length := h
  rw [List.getD_eq_getElem?_getD, List.getElem?_eq_getElem hk]
  exact List.getElem_mem hk
theorem strip_all {x y : Str} : Txt.stripChars x y = ("" : Str) ↔ ∀ c ∈ x.cps.toList, c ∈ y.cps.toList := by
  have e : Txt.stripChars x y = strSub x (stripLo y.cps.contains true x) (stripHi y.cps.contains true x (stripLo y.cps.contains true x)) := stripBy_eq _ _ _ _
  obtain ⟨l1, l2, l3⟩ := lo_facts y.cps.contains x
  obtain ⟨h1, h2, h3, h4⟩ := hi_facts y.cps.contains x _ l1
  generalize stripLo y.cps.contains true x = lo at *
  generalize stripHi y.cps.contains true x lo = hi at *
  have goes : ∀ c, y.cps.contains c = true ↔ c ∈ y.cps.toList := fun c => by
    rw [Array.contains_iff_mem, Array.mem_toList_iff]
  rw [e]
  have et : TL.tl (strSub x lo hi) = ((TL.tl x).drop lo).take (hi - lo) := TL.tl_strSub x lo hi
  constructor
  · intro q c hc
    rw [q] at et
    have e0 : TL.tl ("" : Str) = [] := rfl
    rw [e0] at et
    have ln := congrArg List.length et
    rw [List.length_take, List.length_drop, List.length_nil] at ln
    have hx : (TL.tl x).length = x.length := (TL.len_tl x).symm
    have eq : hi = lo := by omega
    obtain ⟨k, hk, rfl⟩ := List.mem_iff_getElem.mp hc
    have hk' : k < x.length := hk
    have eg : x.cps.getD k 0 = x.cps.toList[k] := by
      rw [← getD_list, List.getD_eq_getElem?_getD, List.getElem?_eq_getElem hk]
      rfl
    have w : y.cps.contains (x.cps.getD k 0) = true := by
      by_cases kl : k < lo
      · exact l2 k kl
      · exact h3 k (by omega) hk'
    have w' := (goes _).mp w
    rw [eg] at w'
    exact w'
  · intro all
    have eq : lo = x.length := by
      rcases l3 with q | q
      · exact q
      · by_cases lt : lo < x.length
        · have := (goes _).mpr (all _ (getD_mem lt))
          rw [this] at q
          cases q
        · omega
    refine str_ext ?_
    show TL.tl (strSub x lo hi) = []
    rw [et, show hi - lo = 0 by omega, List.take_zero]
/-! ### o.m() -/
theorem pe_mth0 {X : Cx} {k : Nat} {sp : Sp} {ps : List Str} {dvs : List V} {C : Addr} {m : Str} {pos apos : Pos} {o : Expr} {ta : TE} {pl : Sem Bool} (F : Mth X.prog X.w X.K X.mg X.base C m ps dvs k sp) (he : PE X o ta) (hr : Room k X.A)
    (ht : eval (.Call (.Attribute o m apos) [] [] pos) X.env = (do
      let ov ← eval o X.env
      standAt apos.atName
      let (f, first) ← holding [ov] (getMethod ov m pl)
      callWith pos f first (backTo pos (starEach [] X.env)) (backToKw pos (keywordEach [] X.env))) := by rfl) :
    PE X (.Call (.Attribute o m apos) [] [] pos) (tMeth C m sp dvs E0 ta tNil) := by
  obtain ⟨f, fd, ds, hm, hb, hd, ok⟩ := F.ex
  exact pe_meth0 he F.cl hm ok hr hb hd pass0 ht
end Bar

set_option Elab.async false
set_option linter.all false
set_option maxRecDepth 100000
/-! sets of texts -/
namespace Bar
open PySem L2
section
variable {P : Program} {w : World} {H : Hp} {Q : VK} {a : Addr} {S : Key → Bool} {n : Nat} {to : TE} {t : TA} {σ : L2.St}
instance : Rd (rSet0K P w [] H Q) (∀ p, H p = none → Q (.ref p) (upd H p (SetK P w p (fun _ => false) 0))) := ⟨fun h => ⟨rfl, h⟩⟩
instance : Rd (tSAddK P w to t σ H Q) (to σ H fun x H1 => (∃ a S n, x = V.ref a ∧ H1 a = some (SetK P w a S n)) ∧ t σ H1 fun xs H2 => rSAddK P w x xs H2 Q) := ⟨fun h => h⟩
theorem rSIn_ {z : Str} {neg : Bool} (ha : H a = some (SetK P w a S n)) (q : Q (.bl (if neg then !S (.inr z) else S (.inr z))) H) : rSInK P w neg (.str z) (.ref a) H Q := ⟨.inr z, a, S, n, rfl, rfl, ha, q⟩
theorem rSAdd_ {z : Str} (ha : H a = some (SetK P w a S n)) (room : n + 1 < scanBound) (q : Q .non (upd H a (SetK P w a (fun j => S j || decide (j = .inr z)) (if S (.inr z) = true then n else n + 1)))) : rSAddK P w (.ref a) [.str z] H Q := ⟨a, .inr z, S, n, rfl, rfl, ha, room, q⟩
end
end Bar

local macro_rules | `(tactic| walk_at "rc") => `(tactic| first
  | decide | assumption | omega
  | exact Or.inr ⟨by decide, by decide⟩ | exact Or.inl ⟨by decide, by decide⟩ | exact ⟨by decide, by decide⟩)
local macro_rules | `(tactic| walk_at "lk1") => `(tactic| ((with_reducible refine Bar.lkNew ?hp ?h); (case hp => with_reducible assumption); (case h => walk_at "lk")))
local macro_rules | `(tactic| walk_at "lk2") => `(tactic| ((with_reducible refine Bar.lkNe ?n ?h); (case n => with_reducible first | assumption | exact Ne.symm (by assumption)); (case h => walk_at "lk")))
local macro_rules | `(tactic| walk_at "lk3") => `(tactic| ((with_reducible refine Bar.lkMut (o' := ?o) ?h ?hp ?d); (case h => walk_at "lk"); (case hp => walk_at "lk"); (case d => (intro z; cases z))))
local macro_rules | `(tactic| walk_at "lk4") => `(tactic| ((with_reducible refine Bar.lkKn (b := ?b) (H := ?H) ?k ?n ?h); (case k => with_reducible assumption); (case n => with_reducible first | assumption | exact Ne.symm (by assumption)); (case h => walk_at "lk")))
local macro_rules | `(tactic| walk_at "lk5") => `(tactic| ((with_reducible refine Bar.lkKp (b := ?b) (H := ?H) (u := ?u) ?k ?h ?hb ?d); (case k => with_reducible assumption); (case h => walk_at "lk"); (case hb => walk_at "lk"); (case d => (intro z; cases z))))
local macro_rules | `(tactic| walk_at "lk6") => `(tactic| ((with_reducible refine Bar.lkSm (H := ?H) ?k ?h); (case k => with_reducible assumption); (case h => walk_at "lk")))
local macro_rules | `(tactic| walk_at "lk") => `(tactic| first
  | with_reducible assumption | with_reducible exact L2.upd_same | walk_at "lk1" | walk_at "lk2" | walk_at "lk3" | walk_at "lk4" | walk_at "lk5" | walk_at "lk6")
local macro_rules | `(tactic| walk_at "sqL") => `(tactic| first | with_reducible assumption | ((with_reducible refine L2.SqL.of ?_); walk_at "lk") | assumption)
local macro_rules | `(tactic| walk_at "sqT") => `(tactic| first | with_reducible assumption | ((with_reducible refine L2.SqT.of ?_); walk_at "lk") | assumption)
local macro_rules | `(tactic| walk_at "kit") => `(tactic| first | exact Bar.kit_list_int | exact Bar.kit_list_bool | exact Bar.kit_list_str | exact Bar.kit_list_list | exact Bar.kit_list_tuple | exact Bar.kit_tuple_int | exact Bar.kit_tuple_bool | exact Bar.kit_tuple_str | exact Bar.kit_tuple_list | exact Bar.kit_tuple_tuple)
local macro_rules | `(tactic| walk_at "rx1") => `(tactic| ((with_reducible refine Bar.rI_ ?c ?_); (case c => walk_at "rc")))
local macro_rules | `(tactic| walk_at "rx2") => `(tactic| ((with_reducible refine Bar.rEq_ ?e ?_); (case e => exact rfl)))
local macro_rules | `(tactic| walk_at "rx3") => `(tactic| ((with_reducible refine Bar.rNe_ ?e ?_); (case e => exact rfl)))
local macro_rules | `(tactic| walk_at "rx4") => `(tactic| ((with_reducible refine Bar.rIxL_ (v := ?v) (xs := ?xs) ?h1 ?h2 ?_); (case h1 => walk_at "sqL"); (case h2 => exact rfl)))
local macro_rules | `(tactic| walk_at "rx5") => `(tactic| ((with_reducible refine Bar.rIxT_ (v := ?v) (xs := ?xs) ?h1 ?h2 ?_); (case h1 => walk_at "sqT"); (case h2 => exact rfl)))
local macro_rules | `(tactic| walk_at "rx6") => `(tactic| ((with_reducible refine Bar.rSetL_ (xs := ?xs) (j := ?j) ?h1 ?h2 ?_); (case h1 => walk_at "lk"); (case h2 => exact rfl)))
local macro_rules | `(tactic| walk_at "rx7") => `(tactic| ((with_reducible refine Bar.rLenL (ys := ?ys) ?h1 ?_); (case h1 => walk_at "sqL")))
local macro_rules | `(tactic| walk_at "rx8") => `(tactic| ((with_reducible refine Bar.tyL (xs := ?xs) ?h1 ?_); (case h1 => walk_at "sqL")))
local macro_rules | `(tactic| walk_at "rx9") => `(tactic| ((with_reducible refine Bar.rNew ?e ?_); (case e => exact Bar.szLe (by simp))))
local macro_rules | `(tactic| walk_at "rx10") => `(tactic| ((with_reducible refine Bar.rIxSL (xs := ?xs) (v := ?v) ?h1 ?h2 ?_); (case h1 => walk_at "lk"); (case h2 => exact rfl)))
local macro_rules | `(tactic| walk_at "rx11") => `(tactic| ((with_reducible refine Bar.rIxST (xs := ?xs) (v := ?v) ?h1 ?h2 ?_); (case h1 => walk_at "lk"); (case h2 => exact rfl)))
local macro_rules | `(tactic| walk_at "rx12") => `(tactic| ((with_reducible refine Bar.rLenT (ys := ?ys) ?h1 ?_); (case h1 => walk_at "sqT")))
local macro_rules | `(tactic| walk_at "rx13") => `(tactic| ((with_reducible refine Bar.rTupU (xs := ?xs) ?h1 ?h2 ?_); (case h1 => walk_at "sqT"); (case h2 => exact rfl)))
local macro_rules | `(tactic| walk_at "ry4") => `(tactic| ((with_reducible refine Bar.isiL (xs := ?xs) (r := ?r) ?e ?h ?_); (case e => walk_at "lk"); (case h => walk_at "kit")))
local macro_rules | `(tactic| walk_at "ry5") => `(tactic| ((with_reducible refine Bar.isiT (xs := ?xs) (r := ?r) ?e ?h ?_); (case e => walk_at "lk"); (case h => walk_at "kit")))
local macro_rules | `(tactic| walk_at "rs") => `(tactic| first | with_reducible refine Bar.rd ?_ | walk_at "rx1" | walk_at "rx4" | walk_at "rx5" | walk_at "rx6" | walk_at "rx7" | walk_at "rx8" | walk_at "rx9" | walk_at "rx10" | walk_at "rx11" | walk_at "rx12" | walk_at "rx13" | walk_at "ry4" | walk_at "ry5" | walk_at "rx2" | walk_at "rx3")
local macro_rules | `(tactic| walk_at "rd") => `(tactic| repeat walk_at "rs")

namespace Lw
open PySem L2 Bar
def top (i : Nat) : Stmt := PySem.Challenge.pw_barclips_k21_lead_parts.main.body.getD i (.Pass ⟨0, 0, 0, 0⟩)
abbrev s_law_box : Stmt := top 28
abbrev N_law_box : List Str := ["_law_script", "_law_at", "_law_cell", "_law_salt", "_law_one"]
abbrev P_law_box : List Str := ["_law_script", "_law_at"]
theorem sc_law_box : FnScope N_law_box P_law_box (defScope s_law_box) := ⟨rfl, rfl, rfl, by decide +kernel, rfl, by decide +kernel, by decide +kernel⟩
abbrev s_law_draw : Stmt := top 29
abbrev N_law_draw : List Str := ["_law_box_here", "_law_many", "_law_found", "_law_total", "_law_turn", "_law_once", "_law_twice"]
abbrev P_law_draw : List Str := ["_law_box_here", "_law_many"]
theorem sc_law_draw : FnScope N_law_draw P_law_draw (defScope s_law_draw) := ⟨rfl, rfl, rfl, by decide +kernel, rfl, by decide +kernel, by decide +kernel⟩
abbrev s_law_int : Stmt := top 30
abbrev N_law_int : List Str := ["_law_x"]
abbrev P_law_int : List Str := ["_law_x"]
theorem sc_law_int : FnScope N_law_int P_law_int (defScope s_law_int) := ⟨rfl, rfl, rfl, by decide +kernel, rfl, by decide +kernel, by decide +kernel⟩
abbrev s_law_same : Stmt := top 31
abbrev N_law_same : List Str := ["_law_got", "_law_due", "_law_k"]
abbrev P_law_same : List Str := ["_law_got", "_law_due"]
theorem sc_law_same : FnScope N_law_same P_law_same (defScope s_law_same) := ⟨rfl, rfl, rfl, by decide +kernel, rfl, by decide +kernel, by decide +kernel⟩
abbrev s_law_name : Stmt := top 32
abbrev N_law_name : List Str := ["_law_box_here", "_law_used", "_law_letters", "_law_turn", "_law_name_here", "_law_k"]
abbrev P_law_name : List Str := ["_law_box_here", "_law_used"]
theorem sc_law_name : FnScope N_law_name P_law_name (defScope s_law_name) := ⟨rfl, rfl, rfl, by decide +kernel, rfl, by decide +kernel, by decide +kernel⟩
abbrev s_law_signs : Stmt := top 33
abbrev N_law_signs : List Str := ["_law_found"]
abbrev P_law_signs : List Str := []
theorem sc_law_signs : FnScope N_law_signs P_law_signs (defScope s_law_signs) := ⟨rfl, rfl, rfl, by decide +kernel, rfl, by decide +kernel, by decide +kernel⟩
abbrev s_law_any_name : Stmt := top 34
abbrev N_law_any_name : List Str := ["_law_box_here", "_law_letters", "_law_name_here", "_law_many", "_law_k"]
abbrev P_law_any_name : List Str := ["_law_box_here"]
theorem sc_law_any_name : FnScope N_law_any_name P_law_any_name (defScope s_law_any_name) := ⟨rfl, rfl, rfl, by decide +kernel, rfl, by decide +kernel, by decide +kernel⟩
abbrev s_law_allowed : Stmt := top 35
abbrev N_law_allowed : List Str := ["_law_name_here", "_law_letters"]
abbrev P_law_allowed : List Str := ["_law_name_here"]
theorem sc_law_allowed : FnScope N_law_allowed P_law_allowed (defScope s_law_allowed) := ⟨rfl, rfl, rfl, by decide +kernel, rfl, by decide +kernel, by decide +kernel⟩
abbrev s_law_sign : Stmt := top 36
abbrev N_law_sign : List Str := ["_law_box_here"]
abbrev P_law_sign : List Str := ["_law_box_here"]
theorem sc_law_sign : FnScope N_law_sign P_law_sign (defScope s_law_sign) := ⟨rfl, rfl, rfl, by decide +kernel, rfl, by decide +kernel, by decide +kernel⟩
abbrev s_law_bad_name : Stmt := top 37
abbrev N_law_bad_name : List Str := ["_law_box_here", "_law_name_here", "_law_kind", "_law_signs_here", "_law_at"]
abbrev P_law_bad_name : List Str := ["_law_box_here", "_law_name_here"]
theorem sc_law_bad_name : FnScope N_law_bad_name P_law_bad_name (defScope s_law_bad_name) := ⟨rfl, rfl, rfl, by decide +kernel, rfl, by decide +kernel, by decide +kernel⟩
abbrev s_law_other_name : Stmt := top 38
abbrev N_law_other_name : List Str := ["_law_box_here", "_law_name_here", "_law_kind", "_law_at", "_law_k"]
abbrev P_law_other_name : List Str := ["_law_box_here", "_law_name_here"]
theorem sc_law_other_name : FnScope N_law_other_name P_law_other_name (defScope s_law_other_name) := ⟨rfl, rfl, rfl, by decide +kernel, rfl, by decide +kernel, by decide +kernel⟩
abbrev s_law_halts : Stmt := top 39
abbrev N_law_halts : List Str := ["_law_box_here", "_law_many", "_law_at", "_law_plain", "_law_used", "_law_k"]
abbrev P_law_halts : List Str := ["_law_box_here"]
theorem sc_law_halts : FnScope N_law_halts P_law_halts (defScope s_law_halts) := ⟨rfl, rfl, rfl, by decide +kernel, rfl, by decide +kernel, by decide +kernel⟩
abbrev s_law_first_twice : Stmt := top 40
abbrev N_law_first_twice : List Str := ["_law_names", "_law_k"]
abbrev P_law_first_twice : List Str := ["_law_names"]
theorem sc_law_first_twice : FnScope N_law_first_twice P_law_first_twice (defScope s_law_first_twice) := ⟨rfl, rfl, rfl, by decide +kernel, rfl, by decide +kernel, by decide +kernel⟩
abbrev s_law_spoilt : Stmt := top 41
abbrev N_law_spoilt : List Str := ["_law_box_here", "_law_name_here", "_law_size", "_law_halts_here", "_law_bad", "_law_first", "_law_second", "_law_due", "_law_turn", "_law_one", "_law_at"]
abbrev P_law_spoilt : List Str := ["_law_box_here", "_law_name_here", "_law_size", "_law_halts_here"]
theorem sc_law_spoilt : FnScope N_law_spoilt P_law_spoilt (defScope s_law_spoilt) := ⟨rfl, rfl, rfl, by decide +kernel, rfl, by decide +kernel, by decide +kernel⟩
abbrev s_law_refused : Stmt := top 42
abbrev N_law_refused : List Str := ["_law_name_here", "_law_launch", "_law_size", "_law_halts_here", "_law_told", "e"]
abbrev P_law_refused : List Str := ["_law_name_here", "_law_launch", "_law_size", "_law_halts_here"]
theorem sc_law_refused : FnScope N_law_refused P_law_refused (defScope s_law_refused) := ⟨rfl, rfl, rfl, by decide +kernel, rfl, by decide +kernel, by decide +kernel⟩
abbrev s_law_tried : Stmt := top 43
abbrev N_law_tried : List Str := ["_law_name_here", "_law_launch", "_law_kind", "_law_told", "_law_made", "e"]
abbrev P_law_tried : List Str := ["_law_name_here", "_law_launch", "_law_kind"]
theorem sc_law_tried : FnScope N_law_tried P_law_tried (defScope s_law_tried) := ⟨rfl, rfl, rfl, by decide +kernel, rfl, by decide +kernel, by decide +kernel⟩
abbrev s_law_keeps : Stmt := top 44
abbrev N_law_keeps : List Str := ["_law_lead", "_law_name_here", "_law_step", "_law_offset", "_law_size", "_law_halts_here", "_law_got"]
abbrev P_law_keeps : List Str := ["_law_lead", "_law_name_here", "_law_step", "_law_offset", "_law_size", "_law_halts_here"]
theorem sc_law_keeps : FnScope N_law_keeps P_law_keeps (defScope s_law_keeps) := ⟨rfl, rfl, rfl, by decide +kernel, rfl, by decide +kernel, by decide +kernel⟩
abbrev s_law : Stmt := top 45
abbrev N_law : List Str := ["_law_script", "_law_box_here", "_law_name_here", "_law_step", "_law_offset", "_law_size", "_law_halts_here", "_law_launch", "_law_lead", "_law_turned", "_law_other", "_law_turn", "_law_found", "_law_told", "_law_tried_here", "_law_due", "_law_kind"]
abbrev P_law : List Str := ["_law_script"]
theorem sc_law : FnScope N_law P_law (defScope s_law) := ⟨rfl, rfl, rfl, by decide +kernel, rfl, by decide +kernel, by decide +kernel⟩
abbrev s_Grid___init__ : Stmt := inClass (top 26) 0
abbrev N_Grid___init__ : List Str := ["self", "step", "offset"]
abbrev P_Grid___init__ : List Str := ["self", "step", "offset"]
theorem sc_Grid___init__ : FnScope N_Grid___init__ P_Grid___init__ (defScope s_Grid___init__) := ⟨rfl, rfl, rfl, by decide +kernel, rfl, by decide +kernel, by decide +kernel⟩
abbrev s_BadName___init__ : Stmt := inClass (top 4) 0
abbrev N_BadName___init__ : List Str := ["self", "name"]
abbrev P_BadName___init__ : List Str := ["self", "name"]
theorem sc_BadName___init__ : FnScope N_BadName___init__ P_BadName___init__ (defScope s_BadName___init__) := ⟨rfl, rfl, rfl, by decide +kernel, rfl, by decide +kernel, by decide +kernel⟩
abbrev s_BadNumber___init__ : Stmt := inClass (top 5) 0
abbrev N_BadNumber___init__ : List Str := ["self", "value"]
abbrev P_BadNumber___init__ : List Str := ["self", "value"]
theorem sc_BadNumber___init__ : FnScope N_BadNumber___init__ P_BadNumber___init__ (defScope s_BadNumber___init__) := ⟨rfl, rfl, rfl, by decide +kernel, rfl, by decide +kernel, by decide +kernel⟩
abbrev s_Twice___init__ : Stmt := inClass (top 7) 0
abbrev N_Twice___init__ : List Str := ["self", "name"]
abbrev P_Twice___init__ : List Str := ["self", "name"]
theorem sc_Twice___init__ : FnScope N_Twice___init__ P_Twice___init__ (defScope s_Twice___init__) := ⟨rfl, rfl, rfl, by decide +kernel, rfl, by decide +kernel, by decide +kernel⟩
abbrev s_is_name : Stmt := top 13
abbrev N_is_name : List Str := ["text", "character"]
abbrev P_is_name : List Str := ["text"]
theorem sc_is_name : FnScope N_is_name P_is_name (defScope s_is_name) := ⟨rfl, rfl, rfl, by decide +kernel, rfl, by decide +kernel, by decide +kernel⟩
abbrev s_first_twice : Stmt := top 14
abbrev N_first_twice : List Str := ["names", "seen", "name"]
abbrev P_first_twice : List Str := ["names"]
theorem sc_first_twice : FnScope N_first_twice P_first_twice (defScope s_first_twice) := ⟨rfl, rfl, rfl, by decide +kernel, rfl, by decide +kernel, by decide +kernel⟩
abbrev s_Sound___init__ : Stmt := inClass (top 16) 0
abbrev N_Sound___init__ : List Str := ["self", "name", "grid"]
abbrev P_Sound___init__ : List Str := ["self", "name", "grid"]
theorem sc_Sound___init__ : FnScope N_Sound___init__ P_Sound___init__ (defScope s_Sound___init__) := ⟨rfl, rfl, rfl, by decide +kernel, rfl, by decide +kernel, by decide +kernel⟩
abbrev s_check_guards : Stmt := top 17
abbrev N_check_guards : List Str := ["guards", "length", "before", "guard"]
abbrev P_check_guards : List Str := ["guards", "length"]
theorem sc_check_guards : FnScope N_check_guards P_check_guards (defScope s_check_guards) := ⟨rfl, rfl, rfl, by decide +kernel, rfl, by decide +kernel, by decide +kernel⟩
abbrev s_Clip___init__ : Stmt := inClass (top 18) 1
abbrev N_Clip___init__ : List Str := ["self", "name", "grid", "length", "rounds", "guards", "__class__", "most"]
abbrev P_Clip___init__ : List Str := ["self", "name", "grid", "length", "rounds", "guards"]
theorem sc_Clip___init__ : NdefX.NScope N_Clip___init__ P_Clip___init__ ["__class__"] (defScope s_Clip___init__) := NdefX.nscope_by (by decide +kernel)
abbrev s_Lead___init__ : Stmt := inClass (top 19) 1
abbrev N_Lead___init__ : List Str := ["self", "name", "grid", "length", "stops", "__class__", "stop"]
abbrev P_Lead___init__ : List Str := ["self", "name", "grid", "length", "stops"]
theorem sc_Lead___init__ : NdefX.NScope N_Lead___init__ P_Lead___init__ ["__class__"] (defScope s_Lead___init__) := NdefX.nscope_by (by decide +kernel)

/-! ### the law's draws -/
/-- the facts of the built-in names -/
structure Txt (mg : Str → Option Value) : Prop where
  b_len : mg "len" = none
  b_int : mg "int" = none
  b_abs : mg "abs" = none
  b_str : mg "str" = none
  b_range : mg "range" = none
  b_isinstance : mg "isinstance" = none
  b_bool : mg "bool" = none
  b_list : mg "list" = none
  b_tuple : mg "tuple" = none
  b_sum : mg "sum" = none
  b_min : mg "min" = none
  b_max : mg "max" = none
  b_any : mg "any" = none
  b_all : mg "all" = none
  b_sorted : mg "sorted" = none
  b_enumerate : mg "enumerate" = none
abbrev big : Int := 10 ^ 399
abbrev box (c s n : Int) : HO := .lst [.int c, .int s, .int n]
abbrev kinds : List V := [.int 60, .int (10 ^ Int.toNat 6), .int (10 ^ Int.toNat 30), .int 60, .int (10 ^ Int.toNat 6), .int ((10 ^ Int.toNat 57) ^ Int.toNat 7), .int (10 ^ Int.toNat 6), .int 60, .int (10 ^ Int.toNat 30), .int 60, .int (10 ^ Int.toNat 6), .int 60]
theorem kinds_at {r : Int} (h0 : 0 ≤ r) (h1 : r < 12) : ∃ m, atI kinds r = some (.int m) ∧ 0 < m ∧ m ≤ big := by
  have h : r = 0 ∨ r = 1 ∨ r = 2 ∨ r = 3 ∨ r = 4 ∨ r = 5 ∨ r = 6 ∨ r = 7 ∨ r = 8 ∨ r = 9 ∨ r = 10 ∨ r = 11 := by omega
  rcases h with h | h | h | h | h | h | h | h | h | h | h | h <;> (subst h; exact ⟨_, rfl, by decide, by decide⟩)
def spDraw : Sp := fun vs H Q _ => ∃ (b : Addr) (c s n m : Int), vs = [.ref b, .int m] ∧ H b = some (box c s n) ∧ 0 < m ∧ m ≤ big ∧
  ∀ r c' n', 0 ≤ r → r < m → Q (.int r) (upd H b (box c' s n'))
theorem log_big {m : Int} (h0 : 0 < m) (h : m ≤ big) : m.natAbs < 2 ^ 1326 := by
  have h1 : m.natAbs ≤ 10 ^ 399 := by
    have e : big = ((10 ^ 399 : Nat) : Int) := by decide
    omega
  exact Nat.lt_of_le_of_lt h1 (by decide)
section
variable {P : Program} {w : World} {K : PySem.W.Frag} {mg : Str → Option Value} {base : Heap}
theorem ok_draw {f : Addr} {fd : FuncData} (F : Fun K "_law_draw" "_law_draw" s_law_draw f fd) (T : Txt mg) : FnOk P w K mg base CX0 1 f fd P_law_draw spDraw := by
  refine F.ok sc_law_draw (fun vs H Q E h => ?_) (fun cdv A outer s H vs Q E hr h => ?_)
  · obtain ⟨b, c, z, n, m, rfl, _⟩ := h
    rfl
  · obtain ⟨b, c, z, n, m, rfl, hb, m0, m1, k⟩ := h
    have lb := log_big m0 m1
    refine ⟨_, (pss_cons (ps_if (pt_cmpR op_gt (pe_ix ix_list (pv 0) pe_int (fun _ _ => rfl)) pe_int (nomark _)) (pss_cons (ps_set (i := 2) sc_law_draw.nd rfl (Or.inl rfl) (pe_op op_mod (pe_ix ix_list (pv 0) pe_int (fun _ _ => rfl)) (pv 1)))
    (pss_cons (ps_asg (pe_op op_fdivW (pe_ix ix_list (pv 0) pe_int (fun _ _ => rfl)) (pv 1)) (pg_sub (pv 0) pe_int set_list))
    (pss_one (ps_ret (pv 2))))) pss_nil)
    (pss_cons (ps_asg (pe_op op_add (pe_ix ix_list (pv 0) pe_int (fun _ _ => rfl)) pe_int) (pg_sub (pv 0) pe_int set_list))
    (pss_cons (ps_set (i := 3) sc_law_draw.nd rfl (Or.inl rfl) pe_int)
    (pss_cons (ps_for PassesOwn.never rfl  (pi_range1 rfl T.b_range (pa_cons (pe_op op_add pe_int (pe_op op_fdiv (pe_callB c_lenStr rfl T.b_len PySem.boot_len (pa_cons (pe_callTy c_str rfl T.b_str (by decide +kernel) (pa_cons (pv 1) pa_nil)) pa_nil)) pe_int)) pa_nil)) (pg_name (i := 4) sc_law_draw.nd rfl (Or.inl rfl)) (pss_cons (ps_set (i := 5) sc_law_draw.nd rfl (Or.inl rfl) (pe_op op_mod (pe_callTy c_int rfl T.b_int (by decide +kernel) (pa_cons (pe_op op_add (pe_op op_add (pe_op op_add (pe_op op_mul (pe_ix ix_list (pv 0) pe_int (fun _ _ => rfl)) pe_int) (pe_op op_mul (pe_ix ix_list (pv 0) pe_int (fun _ _ => rfl)) pe_int)) (pe_op op_mul (pv 4) pe_int)) pe_int) pa_nil)) pe_int))
    (pss_cons (ps_set (i := 5) sc_law_draw.nd rfl (Or.inl rfl) (pe_op op_mod (pe_callTy c_int rfl T.b_int (by decide +kernel) (pa_cons (pe_op op_add (pe_op op_add (pe_op op_mulW (pv 5) (pv 5)) (pe_op op_mul pe_int (pe_ix ix_list (pv 0) pe_int (fun _ _ => rfl)))) (pv 4)) pa_nil)) pe_int))
    (pss_cons (ps_set (i := 6) sc_law_draw.nd rfl (Or.inl rfl) (pe_op op_mod (pe_callTy c_int rfl T.b_int (by decide +kernel) (pa_cons (pe_op op_add (pe_op op_add (pe_op op_mulW (pv 5) (pv 5)) (pe_op op_mul pe_int (pv 5))) (pe_ix ix_list (pv 0) pe_int (fun _ _ => rfl))) pa_nil)) pe_int))
    (pss_one (ps_set (i := 3) sc_law_draw.nd rfl (Or.inl rfl) (pe_op op_add (pe_op op_mul (pv 3) pe_int) (pv 6))))))))
    (pss_one (ps_ret (pe_op op_mod (pe_callTy c_int rfl T.b_int (by decide +kernel) (pa_cons (pv 3) pa_nil)) (pv 1)))))))), ?_⟩
    refine Bar.rStart (σ := [some (.ref b), some (.int m), none, none, none, none, none]) rfl ?_
    have lg : m.natAbs.log2 < 1920 := Nat.lt_of_lt_of_le (PySem.Flt.log2_lt_of (by decide) lb) (by decide)
    have ls := PyProof.Rows.int_text_len_1921 lg
    walk_at "rd"
    refine ite2 (fun h => ?_) (fun h => ?_)
    · walk_at "rd"
      refine Bar.rI_ (wide_div m0 lb (by decide) (by decide)) ?_
      walk_at "rd"
      exact k _ _ _ (Int.emod_nonneg _ (by omega)) (Int.emod_lt_of_pos _ m0)
    · walk_at "rd"
      refine Bar.rStr_ lg ?_
      walk_at "rd"
      refine Bar.rLenStr_ (Nat.le_trans ls (by decide)) ?_
      walk_at "rd"
      refine Bar.forR _ rfl (fun _ σ H' => H' = upd H b (box c z (n + 1)) ∧ ∃ (t : Int) (x y u : Option V), σ = [some (.ref b), some (.int m), none, some (.int t), x, y, u]) (by omega) ⟨rfl, 0, none, none, none, rfl⟩ ?_ ?_
      · rintro i σ H' hi ⟨rfl, t, x, y, u, rfl⟩
        walk_at "rd"
        refine Bar.rI_ (sqW _ (by decide) (by decide)) ?_
        walk_at "rd"
        refine Bar.rI_ (sqW _ (by decide) (by decide)) ?_
        walk_at "rd"
        exact ⟨rfl, _, _, _, _, rfl⟩
      · rintro σ H' ⟨rfl, t, x, y, u, rfl⟩
        walk_at "rd"
        exact k _ _ _ (Int.emod_nonneg _ (by omega)) (Int.emod_lt_of_pos _ m0)
def spBox (K : PySem.W.Frag) : Sp := fun vs H Q _ => ∃ (a : Addr) (ns : List Int) (j : Nat), vs = [.ref a, .int (j : Int)] ∧ SqL K H a (ns.map V.int) ∧
  ∀ p H' c s, Same H H' → H p = none → H' p = some (box c s 0) → Q (.ref p) H'
theorem ok_box {f : Addr} {fd : FuncData} (F : Fun K "_law_box" "_law_box" s_law_box f fd) (T : Txt mg) : FnOk P w K mg base CX0 1 f fd P_law_box (spBox K) := by
  refine F.ok sc_law_box (fun vs H Q E h => ?_) (fun cdv A outer s H vs Q E hr h => ?_)
  · obtain ⟨a, ns, j, rfl, _⟩ := h
    rfl
  · obtain ⟨a, ns, j, rfl, ha, k⟩ := h
    refine ⟨_, (pss_cons (ps_set (i := 2) sc_law_box.nd rfl (Or.inl rfl) pe_int)
    (pss_cons (ps_if (pt_cmpR op_lt (pv 1) (pe_callB c_len rfl T.b_len PySem.boot_len (pa_cons (pv 0) pa_nil)) (nomark _)) (pss_one (ps_set (i := 2) sc_law_box.nd rfl (Or.inl rfl) (pe_callB c_abs rfl T.b_abs (by decide +kernel) (pa_cons (pe_ix ix_list (pv 0) (pv 1) (fun _ _ => rfl)) pa_nil)))) pss_nil)
    (pss_cons (ps_set (i := 3) sc_law_box.nd rfl (Or.inl rfl) (pe_op op_add (pe_op op_add (pe_op op_mul (pe_callB c_len rfl T.b_len PySem.boot_len (pa_cons (pv 0) pa_nil)) pe_int) (pe_op op_mul (pv 1) pe_int)) pe_int))
    (pss_cons (ps_for PassesOwn.never rfl  (pi_list (pe_slice sl_list (pv 0) po_none (po_some pe_int))) (pg_name (i := 4) sc_law_box.nd rfl (Or.inl rfl)) (pss_one (ps_set (i := 3) sc_law_box.nd rfl (Or.inl rfl) (pe_op op_mod (pe_callTy c_int rfl T.b_int (by decide +kernel) (pa_cons (pe_op op_add (pe_op op_mul (pv 3) pe_int) (pe_callB c_abs rfl T.b_abs (by decide +kernel) (pa_cons (pv 4) pa_nil))) pa_nil)) pe_int))))
    (pss_cons (ps_if (pt_cmpR op_ge (pv 2) (pe_op op_powW pe_int pe_int) (nomark _)) (pss_one (ps_ret (pe_lst (pa_cons (pv 2) (pa_cons (pv 3) (pa_cons pe_int pa_nil)))))) pss_nil)
    (pss_one (ps_ret (pe_lst (pa_cons pe_int (pa_cons (pe_op op_mod (pe_callTy c_int rfl T.b_int (by decide +kernel) (pa_cons (pe_op op_add (pv 3) (pe_op op_mul (pv 2) pe_int)) pa_nil)) pe_int) (pa_cons pe_int pa_nil))))))))))), ?_⟩
    refine Bar.rStart (σ := [some (.ref a), some (.int (j : Int)), none, none, none]) rfl ?_
    walk_at "rd"
    refine ite2 (fun h => ?_) (fun h => ?_)
    · have hj : j < ns.length := by
        have h1 := of_decide_eq_true h
        rw [List.length_map] at h1
        omega
      walk_at "rd"
      refine Bar.rIxL_ ha (Bar.at_map hj) ?_
      walk_at "rd"
      generalize (if ns[j] < 0 then -ns[j] else ns[j]) = cc
      refine Bar.rSlL_ ha fun q hq => ?_
      generalize (((ns.map V.int).length : Nat) : Int) * 97 + (j : Int) * 131 + 7 = salt
      refine Bar.forL (xs := cutV (ns.map V.int) none (some 16)) (fun _ σ H' => H' = upd H q (.lst (cutV (ns.map V.int) none (some 16))) ∧ ∃ (z : Int) (x : Option V), σ = [some (.ref a), some (.int (j : Int)), some (.int cc), some (.int z), x]) (SqL.of upd_same)
        ⟨rfl, salt, none, rfl⟩ (fun i σ H' _ ⟨e, _⟩ => by rw [e]; exact SqL.of upd_same) ?_ ?_
      · rintro i v σ H' hv ⟨rfl, z, x, rfl⟩
        obtain ⟨u, rfl⟩ := Bar.cut_int hv
        walk_at "rd"
        exact ⟨rfl, _, _, rfl⟩
      · rintro σ H' ⟨rfl, z, x, rfl⟩
        walk_at "rd"
        refine ite2 (fun h => ?_) (fun h => ?_)
        all_goals
          walk_at "rd"
          intro p hp
          walk_at "rd"
          refine k _ _ _ _ (fun b o e => Bar.lkNew hp (Bar.lkNew hq e)) (Bar.freeNew hp) upd_same
    · walk_at "rd"
      refine Bar.rSlL_ ha fun q hq => ?_
      generalize (((ns.map V.int).length : Nat) : Int) * 97 + (j : Int) * 131 + 7 = salt
      refine Bar.forL (xs := cutV (ns.map V.int) none (some 16)) (fun _ σ H' => H' = upd H q (.lst (cutV (ns.map V.int) none (some 16))) ∧ ∃ (z : Int) (x : Option V), σ = [some (.ref a), some (.int (j : Int)), some (.int 0), some (.int z), x]) (SqL.of upd_same)
        ⟨rfl, salt, none, rfl⟩ (fun i σ H' _ ⟨e, _⟩ => by rw [e]; exact SqL.of upd_same) ?_ ?_
      · rintro i v σ H' hv ⟨rfl, z, x, rfl⟩
        obtain ⟨u, rfl⟩ := Bar.cut_int hv
        walk_at "rd"
        exact ⟨rfl, _, _, rfl⟩
      · rintro σ H' ⟨rfl, z, x, rfl⟩
        walk_at "rd"
        refine ite2 (fun h => ?_) (fun h => ?_)
        all_goals
          walk_at "rd"
          intro p hp
          walk_at "rd"
          refine k _ _ _ _ (fun b o e => Bar.lkNew hp (Bar.lkNew hq e)) (Bar.freeNew hp) upd_same
def KpB (b : Addr) (s : Int) (H H' : Hp) : Prop := Kp b H H' ∧ ∃ c n, H' b = some (box c s n)
def spDrawA : Sp := fun vs H Q _ => ∃ (b : Addr) (c s n m : Int), vs = [.ref b, .int m] ∧ H b = some (box c s n) ∧ 0 < m ∧ m ≤ big ∧ ∀ r H', 0 ≤ r → r < m → KpB b s H H' → Q (.int r) H'
theorem drawA (F : Fn P w K mg base "_law_draw" P_law_draw [] 1 spDraw) : Fn P w K mg base "_law_draw" P_law_draw [] 1 spDrawA := by
  obtain ⟨f, fd, ds, h1, h2, h3, h4, ok⟩ := F.ex
  refine ⟨f, fd, ds, h1, h2, h3, h4, ok.imp fun vs H Q E h => ?_⟩
  obtain ⟨b, c, s, n, m, e, hb, m0, m1, k⟩ := h
  exact ⟨b, c, s, n, m, e, hb, m0, m1, fun r c' n' r0 r1 => k r _ r0 r1 ⟨Kp.upd, _, _, upd_same⟩⟩
end


/-! ### names -/
def spIsName : Sp := fun vs H Q _ => ∃ z : Str, vs = [.str z] ∧ z.length ≤ 1000 ∧ ∀ H', Same H H' → Q (.bl (nameB z)) H'
/-- __init__ of a sound, for an instance of any class of sounds -/
def spSoundX (K : PySem.W.Frag) (CBN : Addr) : Sp := fun vs H Q E => ∃ (p dx C : Addr) (z : Str) (v : V), vs = [.ref p, .str z, v] ∧ H p = some (.ins C dx []) ∧ Cls K C ∧ NoAttr K C "name" ∧ NoAttr K C "grid" ∧ z.length ≤ 100 ∧ (∀ c ∈ z.cps.toList, c < 16 ^ 8) ∧
  ((nameB z = true ∧ ∀ H', Kp p H H' → H' p = some (.ins C dx [("name", .str z), ("grid", v)]) → Q .non H') ∨
   (nameB z = false ∧ ∀ d H', H d = none → Same H H' → H' d = some (.xd [("name", .str z)]) → E (.ref CBN) (some d) H'))
theorem nil_iff {z : Str} : decide (z = ("" : Str)) = decide (z.cps.toList = []) := by
  refine decide_eq_decide.mpr ⟨fun e => by rw [e]; rfl, fun e => str_ext ?_⟩
  rw [e]
  rfl
section
variable {P : Program} {w : World} {K : PySem.W.Frag} {mg : Str → Option Value} {base : Heap}
theorem ok_isName {f : Addr} {fd : FuncData} {tk1 tk2 tk3 : Tok} (F : Fun K "is_name" "is_name" s_is_name f fd) (T : Txt mg) (g_int_MOST_CHARACTERS : mg "MOST_CHARACTERS" = some (.int 12 tk1)) (g_str_LETTERS : mg "LETTERS" = some (.str "abcdefghijklmnopqrstuvwxyz" tk2)) (g_str_CHARACTERS : mg "CHARACTERS" = some (.str "abcdefghijklmnopqrstuvwxyz0123456789" tk3)) :
    FnOk P w K mg base CX0 1 f fd P_is_name spIsName := by
  refine F.ok sc_is_name (fun vs H Q E h => ?_) (fun cdv A outer s H vs Q E hr h => ?_)
  · obtain ⟨z, rfl, _⟩ := h
    rfl
  · obtain ⟨z, rfl, lz, k⟩ := h
    have sz : z.length ≤ sizeLine := Nat.le_trans lz (by decide)
    refine ⟨_, (pss_cons (ps_if (PW.pt (pw_or (pt_cmpR op_eq (pv 0) pe_str (nomark _)) (pw_or1 (pt_cmpR op_gt (pe_callB c_lenStr rfl T.b_len PySem.boot_len (pa_cons (pv 0) pa_nil)) (pe_glob (v := .int 12) rfl g_int_MOST_CHARACTERS ⟨_, rfl⟩) (nomark _))))) (pss_one (ps_ret pe_bl)) pss_nil)
    (pss_one (ps_ret (pe_and (pe_cmpR o_inSg (pe_ix ix_str (pv 0) pe_int (fun _ _ => rfl)) (pe_glob (v := .str "abcdefghijklmnopqrstuvwxyz") rfl g_str_LETTERS ⟨_, rfl⟩) (by rfl)) (pe_one (pe_callB (cr_all rfl) rfl T.b_all (by decide +kernel) (pa_cons (pe_lc (own := [("character", 1)]) (g := gName 1) rfl sc_is_name.nd (pi_str (pv 0)) (blkOk_by (own := [("character", 1)]) (N := N_is_name) (sc := defScope s_is_name) (by decide +kernel)) (fun _ _ _ _ _ => pg_name (i := 1) sc_is_name.nd rfl (Or.inl rfl)) (fun _ _ _ _ _ => pts_nil) (fun _ _ _ _ _ => (pe_cmpR o_inSg (pv 1) (pe_glob (v := .str "abcdefghijklmnopqrstuvwxyz0123456789") rfl g_str_CHARACTERS ⟨_, rfl⟩) (by rfl)))) pa_nil))))))), ?_⟩
    refine Bar.rStart (σ := [some (.str z), none]) rfl ?_
    walk_at "rd"
    rw [dStr, nil_iff]
    refine ite2 (fun h => ?_) (fun h => ?_)
    · have e := of_decide_eq_true h
      have n0 : nameB z = false := by
        show nameL z.cps.toList = false
        rw [e]
        rfl
      rw [n0] at k
      walk_at "rd"
      exact k _ fun _ _ z => z
    · have e : z.cps.toList ≠ [] := fun q => h (decide_eq_true q)
      walk_at "rd"
      refine Bar.rLenStr_ sz ?_
      walk_at "rd"
      refine ite2 (fun h2 => ?_) (fun h2 => ?_)
      · have l12 := of_decide_eq_true h2
        have n0 : nameB z = false := by
          unfold nameB nameL
          have : decide (z.cps.toList.length ≤ 12) = false := decide_eq_false (by rw [len_cps] at l12; omega)
          rw [this, Bool.and_false, Bool.false_and, Bool.false_and]
        rw [n0] at k
        walk_at "rd"
        exact k _ fun _ _ z => z
      · have l12 : ¬ ((z.length : Nat) : Int) > 12 := fun q => h2 (decide_eq_true q)
        obtain ⟨c0, l, ez⟩ : ∃ c0 l, z.cps.toList = c0 :: l := List.exists_cons_of_ne_nil e
        have nm : nameB z = (decide (c0 ∈ letL) && z.cps.toList.all fun c => decide (c ∈ sgnL)) := by
          unfold nameB nameL
          have h1 : decide (1 ≤ z.cps.toList.length) = true := decide_eq_true (by rw [ez]; simp)
          have h3 : decide (z.cps.toList.length ≤ 12) = true := decide_eq_true (by rw [len_cps] at l12; omega)
          rw [h1, h3, ez]
          rfl
        walk_at "rd"
        refine rIxS_ sz (c := c0) (by rw [ez]; exact atI_nat (j := 0) rfl) ?_
        walk_at "rd"
        refine ite2 (fun h3 => ?_) (fun h3 => ?_)
        · have h4 : decide (c0 ∈ letL) = true := h3
          rw [h4, Bool.true_and] at nm
          walk_at "rd"
          refine lcS (τ := [some (.str z), none]) rfl fun D hD => ⟨fun i H' => Same H H' ∧ H' D = some (.lst (((z.cps.toList.take i).map fun c => decide (c ∈ sgnL)).map V.bl)), ⟨fun _ _ y => Bar.lkNew hD y, upd_same⟩, ?_, ?_⟩
          · rintro i c H' hc ⟨S, hd⟩
            have il := (List.getElem?_eq_some_iff.mp hc).1
            have ll : z.cps.toList.length ≤ 12 := by rw [len_cps] at l12; omega
            walk_at "rd"
            refine ⟨rfl, ?_⟩
            walk_at "rd"
            refine ⟨_, hd, Bar.szLt (by rw [List.length_map, List.length_map, List.length_take]; omega), fun p o y => ?_, ?_⟩
            · rw [upd_ne (ne_of_none y hD)]
              exact S _ _ y
            · rw [upd_same, List.take_add_one, hc, List.map_append, List.map_append]
              rfl
          · rintro H' ⟨S, hd⟩
            rw [List.take_length] at hd
            walk_at "rd"
            refine ⟨D, _, rfl, SqL.of hd, ?_⟩
            rw [List.all_map]
            rw [nm] at k
            walk_at "rd"
            exact k _ S
        · have h4 : decide (c0 ∈ letL) = false := Bool.eq_false_iff.mpr h3
          rw [h4, Bool.false_and] at nm
          rw [nm] at k
          walk_at "rd"
          exact k _ fun _ _ z => z
theorem ok_eName {f C CB : Addr} {fd : FuncData} (F : Fun K "__init__" "BadName.__init__" s_BadName___init__ f fd) (eb : EBase K mg "BarclipsError" CB) (O : OexC K C) (no : PySem.W.findIn K (.ref C) "name" = some none) : FnOk P w K mg base CX0 1 f fd P_BadName___init__ (spErr1 C "name" (fun v => ∃ z : Str, v = .str z ∧ z.length ≤ 100 ∧ ∀ c ∈ z.cps.toList, c < 16 ^ 8)) := by
  refine F.ok sc_BadName___init__ (fun vs H Q E h => ?_) (fun cdv A outer s H vs Q E hr h => ?_)
  · obtain ⟨a, v, rfl, _⟩ := h
    rfl
  · obtain ⟨a, v, rfl, ha, ⟨z, rfl, lz, cz⟩, k⟩ := h
    have lr : (reprText z).length ≤ 1002 := by
      have := PySem.StrLaws.reprText_len z cz
      omega
    refine ⟨_, (pss_cons (ps_expr (pe_baseInit eb rfl (pa_cons (pv 0) (pa_cons (pe_joined (PJ.cons pe_str (PJ.cons (pe_fmtR (pv 1)) PJ.nil))) pa_nil))))
    (pss_one (ps_ost (pv 0) (pv 1) rfl))), ?_⟩
    refine Bar.rStart (σ := [some (.ref a), some (.str z)]) rfl ?_
    walk_at "rd"
    refine ⟨"not a name: ", rfl, by decide +kernel, ?_⟩
    refine ⟨_, rfl, .inl ⟨z, rfl, Nat.le_trans lr (by decide), ?_⟩⟩
    refine ⟨reprText z, rfl, ?_, ?_⟩
    · rw [len_cps, cat_cps, List.length_append]
      have e1 : (reprText z).cps.toList.length ≤ 1002 := lr
      have e2 : ((Str.empty ++ ("not a name: " : Str)) : Str).cps.toList.length ≤ 100 := by decide +kernel
      exact Nat.le_trans (show _ ≤ 1102 by omega) (by decide)
    walk_at "rd"
    refine ⟨a, C, _, rfl, (by show 1 ≤ 1000; decide), O, ha, ?_⟩
    walk_at "rd"
    refine ⟨a, C, rfl, O, no, .inl ⟨ha, fun d hd ne => ?_⟩⟩
    walk_at "rd"
    exact k d hd ne
theorem ok_soundX {f CBN : Addr} {fd : FuncData} (F : Fun K "__init__" "Sound.__init__" s_Sound___init__ f fd) (fis_name : Fn P w K mg base "is_name" P_is_name [] 1 spIsName) (er_BadName : Err P w K mg base "BadName" CBN P_BadName___init__ 1 (spErr1 CBN "name" (fun v => ∃ z : Str, v = .str z ∧ z.length ≤ 100 ∧ ∀ c ∈ z.cps.toList, c < 16 ^ 8))) :
    FnOk P w K mg base (L2.CX P w) 3 f fd P_Sound___init__ (spSoundX K CBN) := by
  refine F.okX sc_Sound___init__ (fun vs H Q E h => ?_) (fun cdv A outer s H vs Q E hr h => ?_)
  · obtain ⟨p, dx, C, z, v, rfl, _⟩ := h
    rfl
  · obtain ⟨p, dx, C, z, v, rfl, hp, cl, n1, n2, lz, cz, h⟩ := h
    refine ⟨_, (pss_cons (ps_if (pt_not (pt_val (pe_fn fis_name (hr.mono (by omega)) rfl (pa_cons (pv 1) pa_nil)))) (pss_one (ps_raise rfl (takes_of rfl rfl rfl rfl) (pmk_err er_BadName (hr.mono (by omega)) rfl (pa_cons (pv 1) pa_nil)))) pss_nil)
    (pss_cons (ps_fld (pv 0) (pv 1) rfl)
    (pss_one (ps_fld (pv 0) (pv 2) rfl)))), ?_⟩
    refine Bar.rStart (σ := [some (.ref p), some (.str z), some v]) rfl ?_
    walk_at "rd"
    refine ⟨z, rfl, by omega, fun H1 S1 => ?_⟩
    rcases h with ⟨hn, k⟩ | ⟨hn, k⟩
    · rw [hn]
      have hp1 := S1 _ _ hp
      walk_at "rd"
      refine ⟨p, C, dx, [], rfl, hp1, cl, n1, by decide, ?_⟩
      walk_at "rd"
      refine ⟨p, C, dx, _, rfl, upd_same, cl, n2, (by show 1 < 1000; decide), ?_⟩
      walk_at "rd"
      exact k _ (((Kp.of_same S1).trans Kp.upd).trans Kp.upd) upd_same
    · rw [hn]
      walk_at "rd"
      refine rErr1 ⟨z, rfl, lz, cz⟩ fun d H' hd S e => k d H' ?_ (fun _ _ y => S _ _ (S1 _ _ y)) e
      cases q : H d with
      | none => rfl
      | some o =>
        rw [S1 _ _ q] at hd
        cases hd
end

end Lw
namespace Lw
open PySem L2 Bar

/-! ### clips -/
def oV : Option Int → V
  | some g => .int g
  | none => .non
section
variable {l i : Int} {H : Hp} {Q : VK} {f : Int → Int → V}
instance : Bar.Rd (rNotNone (oV (some l)) .non H Q) (Q (.bl true) H) := ⟨rNoN_i⟩
instance : Bar.Rd (rNotNone (oV none) .non H Q) (Q (.bl false) H) := ⟨rNoN_n⟩
instance : Bar.Rd (rIsNone (oV (some l)) .non H Q) (Q (.bl false) H) := ⟨rIsN_i⟩
instance : Bar.Rd (rIsNone (oV none) .non H Q) (Q (.bl true) H) := ⟨rIsN_n⟩
instance : Bar.Rd (rI0 f (.int i) (oV (some l)) H Q) (Q (f i l) H) := ⟨rI0_⟩
instance : Bar.Rd (rI0 f (oV (some l)) (.int i) H Q) (Q (f l i) H) := ⟨rI0_⟩
end
/-- the empty tuple of the text -/
def KEmp (K : PySem.W.Frag) (t : Addr) : Prop := ∃ (o : Obj) (its : Array Value) (n : Nat), K.lookup t = some o ∧ o.cls = .type "tuple" ∧ o.data = .seq its n ∧ its.size = 0
/-- ints in a list, a tuple, or none in the empty tuple of the text -/
def TupAt (K : PySem.W.Frag) (H : Hp) (t : Addr) (ns : List Int) : Prop := H t = some (.tup (ns.map V.int)) ∨ (ns = [] ∧ KEmp K t)
def IntsAt (K : PySem.W.Frag) (H : Hp) (t : Addr) (ns : List Int) : Prop := H t = some (.lst (ns.map V.int)) ∨ TupAt K H t ns
theorem KEmp.sq {K : PySem.W.Frag} {t : Addr} {H : Hp} (h : KEmp K t) : SqT K H t [] := by
  obtain ⟨o, its, n, h1, h2, h3, h4⟩ := h
  refine .inr ⟨o, its, n, h1, h2, h3, by rw [h4]; decide, ?_⟩
  have : its.toList = [] := List.length_eq_zero_iff.mp h4
  rw [this]
  exact .nil
theorem TupAt.sq {K : PySem.W.Frag} {H : Hp} {t : Addr} {ns : List Int} (h : TupAt K H t ns) : SqT K H t (ns.map V.int) := by
  rcases h with h | ⟨rfl, h⟩
  · exact SqT.of h
  · exact h.sq
theorem TupAt.same {K : PySem.W.Frag} {H H' : Hp} {t : Addr} {ns : List Int} (S : Same H H') (h : TupAt K H t ns) : TupAt K H' t ns := h.imp (S _ _) id
theorem TupAt.kp {K : PySem.W.Frag} {H H' : Hp} {t b : Addr} {ns : List Int} {o : HO} (k : Kp b H H') (hb : H b = some o) (n : ∀ xs, o ≠ .tup xs) (h : TupAt K H t ns) : TupAt K H' t ns := h.imp (fun e => k _ _ (ne_of e hb fun z => n _ z.symm) e) id
theorem IntsAt.kp {K : PySem.W.Frag} {H H' : Hp} {t b C dx : Addr} {fs : List (Str × V)} {ns : List Int} (k : Kp b H H') (hb : H b = some (.ins C dx fs)) (h : IntsAt K H t ns) : IntsAt K H' t ns := by
  rcases h with h | h
  · exact .inl (k _ _ (ne_of h hb (by intro z; cases z)) h)
  · exact .inr (h.kp k hb fun _ z => by cases z)
theorem IntsAt.same {K : PySem.W.Frag} {H H' : Hp} {t : Addr} {ns : List Int} (S : Same H H') (h : IntsAt K H t ns) : IntsAt K H' t ns := h.imp (S _ _) (TupAt.same S)
def badG (b : Int) (o : Option Int) (g : Int) : Bool := decide (g ≤ b) || (match o with | none => false | some l => decide (g ≥ l))
/-- the first guard that is refused -/
def firstBad (o : Option Int) : Int → List Int → Option Int
  | _, [] => none
  | b, g :: r => if badG b o g = true then some g else firstBad o g r
def spGuardsX (K : PySem.W.Frag) (CN : Addr) : Sp := fun vs H Q E => ∃ (t : Addr) (o : Option Int) (ns : List Int), vs = [.ref t, oV o] ∧ IntsAt K H t ns ∧
  ((firstBad o (-1) ns = none ∧ Q .non H) ∨ ∃ g, firstBad o (-1) ns = some g ∧ ∀ d H', H d = none → Same H H' → H' d = some (.xd [("value", .int g)]) → E (.ref CN) (some d) H')
inductive Flt where
  | name (z : Str)
  | value (v : Int)
/-- what of the parts is refused first -/
def fault (z : Str) (o : Option Int) (r : Int) (ns : List Int) : Option Flt :=
  if nameB z = false then some (.name z) else
  match o with
  | some l => if l < 1 then some (.value l) else if r < 1 ∨ r > 4 then some (.value r) else (firstBad (some l) (-1) ns).map .value
  | none => if r < 1 ∨ r > 1 then some (.value r) else (firstBad none (-1) ns).map .value
def cf (z : Str) (g : Addr) (o : Option Int) (r : Int) (t : Addr) : List (Str × V) := [("name", .str z), ("grid", .ref g), ("length", oV o), ("rounds", .int r), ("guards", .ref t)]
def spClipX (K : PySem.W.Frag) (C CBN CN : Addr) : Sp := fun vs H Q E => ∃ (p dx : Addr) (z : Str) (g : Addr) (o : Option Int) (r : Int) (t : Addr) (ns : List Int), vs = [.ref p, .str z, .ref g, oV o, .int r, .ref t] ∧ H p = some (.ins C dx []) ∧ z.length ≤ 100 ∧ (∀ c ∈ z.cps.toList, c < 16 ^ 8) ∧ IntsAt K H t ns ∧
  ((fault z o r ns = none ∧ ∀ t' H', Kp p H H' → H' p = some (.ins C dx (cf z g o r t')) → TupAt K H' t' ns → Q .non H') ∨
   (∃ y, fault z o r ns = some (.name y) ∧ ∀ d H', H d = none → Kp p H H' → H' d = some (.xd [("name", .str y)]) → E (.ref CBN) (some d) H') ∨
   (∃ v, fault z o r ns = some (.value v) ∧ ∀ d H', H d = none → Kp p H H' → H' d = some (.xd [("value", .int v)]) → E (.ref CN) (some d) H'))
structure CTxt (K : PySem.W.Frag) (C : Addr) : Prop where
  cl : Cls K C
  n1 : NoAttr K C "name"
  n2 : NoAttr K C "grid"
  n3 : NoAttr K C "length"
  n4 : NoAttr K C "rounds"
  n5 : NoAttr K C "guards"
theorem fault_some {z : Str} {l r : Int} {ns : List Int} (h : nameB z = true) : fault z (some l) r ns = if l < 1 then some (.value l) else if r < 1 ∨ r > 4 then some (.value r) else (firstBad (some l) (-1) ns).map .value := by
  unfold fault
  rw [h, if_neg (by decide)]
theorem fault_none {z : Str} {r : Int} {ns : List Int} (h : nameB z = true) : fault z none r ns = if r < 1 ∨ r > 1 then some (.value r) else (firstBad none (-1) ns).map .value := by
  unfold fault
  rw [h, if_neg (by decide)]
theorem fault_name {z : Str} {o : Option Int} {r : Int} {ns : List Int} (h : nameB z = false) : fault z o r ns = some (.name z) := if_pos h
section
variable {P : Program} {w : World} {K : PySem.W.Frag} {mg : Str → Option Value} {base : Heap} {C : Addr}
theorem ok_eBadNumber {f C CB : Addr} {fd : FuncData} (F : Fun K "__init__" "BadNumber.__init__" s_BadNumber___init__ f fd) (eb : EBase K mg "BarclipsError" CB) (O : OexC K C) (no : PySem.W.findIn K (.ref C) "value" = some none) : FnOk P w K mg base CX0 1 f fd P_BadNumber___init__ (spErr1 C "value" (fun _ => True)) := by
  refine F.ok sc_BadNumber___init__ (fun vs H Q E h => ?_) (fun cdv A outer s H vs Q E hr h => ?_)
  · obtain ⟨a, v, rfl, _⟩ := h
    rfl
  · obtain ⟨a, v, rfl, ha, _, k⟩ := h
    refine ⟨_, (pss_cons (ps_expr (pe_baseInit eb rfl (pa_cons (pv 0) (pa_cons pe_str pa_nil))))
    (pss_one (ps_ost (pv 0) (pv 1) rfl))), ?_⟩
    refine Bar.rStart (σ := [some (.ref a), some v]) rfl ?_
    walk_at "rd"
    refine ⟨a, C, _, rfl, by decide, O, ha, ?_⟩
    walk_at "rd"
    refine ⟨a, C, rfl, O, no, .inl ⟨ha, fun d hd ne => ?_⟩⟩
    walk_at "rd"
    exact k d hd ne

theorem guards_turn {CN t : Addr} {o : Option Int} {H : Hp} {b g : Int} {r : List Int} : True := trivial
theorem ok_guardsX {f CN : Addr} {fd : FuncData} (F : Fun K "check_guards" "check_guards" s_check_guards f fd) (T : Txt mg) (er_BadNumber : Err P w K mg base "BadNumber" CN P_BadNumber___init__ 1 (spErr1 CN "value" (fun _ => True))) : FnOk P w K mg base (L2.CX P w) 3 f fd P_check_guards (spGuardsX K CN) := by
  refine F.okX sc_check_guards (fun vs H Q E h => ?_) (fun cdv A outer s H vs Q E hr h => ?_)
  · obtain ⟨t, o, ns, rfl, _⟩ := h
    rfl
  · obtain ⟨t, o, ns, rfl, ht, h⟩ := h
    rcases ht with ht | ht
    · refine ⟨_, (pss_cons (ps_set (i := 2) sc_check_guards.nd rfl (Or.inl rfl) (pe_un un_neg pe_int))
    (pss_one (ps_for PassesOwn.leaving rfl  (pi_list (pv 0)) (pg_name (i := 3) sc_check_guards.nd rfl (Or.inl rfl)) (pss_cons (ps_if (PW.pt (pw_or (pt_cmpR op_le (pv 3) (pv 2) (nomark _)) (pw_or1 (PW.pt (pw_and (pt_cmpR o_notN (pv 1) pe_non (nomark _)) (pw_and1 (pt_cmpR op_ge (pv 3) (pv 1) (nomark _)))))))) (pss_one (ps_raise rfl (takes_of rfl rfl rfl rfl) (pmk_err er_BadNumber (hr.mono (by omega)) rfl (pa_cons (pv 3) pa_nil)))) pss_nil)
    (pss_one (ps_set (i := 2) sc_check_guards.nd rfl (Or.inl rfl) (pv 3))))))), ?_⟩
      refine Bar.rStart (σ := [some (.ref t), some (oV o), none, none]) rfl ?_
      walk_at "rd"
      refine Bar.forL (xs := ns.map V.int) (fun i σ H' => H' = H ∧ ∃ (b : Int) (x : Option V), firstBad o b (ns.drop i) = firstBad o (-1) ns ∧ σ = [some (.ref t), some (oV o), some (.int b), x]) (SqL.of ht) ⟨rfl, -1, _, rfl, rfl⟩ (fun i σ H2 _ ⟨e, _⟩ => by rw [e]; exact SqL.of ht) ?_ ?_
      · rintro i v σ H' hv ⟨rfl, b, x, fb, rfl⟩
        rw [List.getElem?_map] at hv
        obtain ⟨g, eg, rfl⟩ := Option.map_eq_some_iff.mp hv
        have il := (List.getElem?_eq_some_iff.mp eg).1
        have ed : ns.drop i = g :: ns.drop (i + 1) := by
          rw [List.drop_eq_getElem_cons il]
          congr 1
          exact (List.getElem?_eq_some_iff.mp eg).2
        rw [ed] at fb
        have bad : badG b o g = true → ∀ {R : Prop}, ((∀ d H2, H' d = none → Same H' H2 → H2 d = some (.xd [("value", .int g)]) → E (.ref CN) (some d) H2) → R) → R := fun hb R go => by
          have e1 : firstBad o b (g :: ns.drop (i + 1)) = some g := if_pos hb
          rw [e1] at fb
          rcases h with ⟨e, _⟩ | ⟨g', e, k⟩
          · rw [← fb] at e
            cases e
          · rw [← fb] at e
            cases e
            exact go k
        have good : ¬ badG b o g = true → firstBad o g (ns.drop (i + 1)) = firstBad o (-1) ns := fun hb => by
          rw [← fb]
          exact (if_neg hb).symm
        walk_at "rd"
        refine ite2 (fun h1 => ?_) (fun h1 => ?_)
        · walk_at "rd"
          exact bad (by unfold badG; rw [h1]; rfl) fun k => rErr1 trivial k
        · have h1' : decide (g ≤ b) = false := Bool.eq_false_iff.mpr h1
          cases o with
          | none =>
            walk_at "rd"
            exact ⟨rfl, g, _, good (by unfold badG; rw [h1']; simp), rfl⟩
          | some l =>
            walk_at "rd"
            refine ite2 (fun h2 => ?_) (fun h2 => ?_)
            · walk_at "rd"
              exact bad (by unfold badG; rw [h1']; exact h2) fun k => rErr1 trivial k
            · walk_at "rd"
              exact ⟨rfl, g, _, good (by unfold badG; rw [h1']; exact h2), rfl⟩
      · rintro σ H' ⟨rfl, b, x, fb, rfl⟩
        rw [List.length_map, List.drop_length] at fb
        rcases h with ⟨_, k⟩ | ⟨g, e, _⟩
        · walk_at "rd"
          exact k
        · rw [← fb] at e
          cases e

    · have hs := ht.sq
      refine ⟨_, (pss_cons (ps_set (i := 2) sc_check_guards.nd rfl (Or.inl rfl) (pe_un un_neg pe_int))
    (pss_one (ps_for PassesOwn.leaving rfl  (pi_tup (pv 0)) (pg_name (i := 3) sc_check_guards.nd rfl (Or.inl rfl)) (pss_cons (ps_if (PW.pt (pw_or (pt_cmpR op_le (pv 3) (pv 2) (nomark _)) (pw_or1 (PW.pt (pw_and (pt_cmpR o_notN (pv 1) pe_non (nomark _)) (pw_and1 (pt_cmpR op_ge (pv 3) (pv 1) (nomark _)))))))) (pss_one (ps_raise rfl (takes_of rfl rfl rfl rfl) (pmk_err er_BadNumber (hr.mono (by omega)) rfl (pa_cons (pv 3) pa_nil)))) pss_nil)
    (pss_one (ps_set (i := 2) sc_check_guards.nd rfl (Or.inl rfl) (pv 3))))))), ?_⟩
      refine Bar.rStart (σ := [some (.ref t), some (oV o), none, none]) rfl ?_
      walk_at "rd"
      refine Bar.forT (xs := ns.map V.int) (fun i σ H' => H' = H ∧ ∃ (b : Int) (x : Option V), firstBad o b (ns.drop i) = firstBad o (-1) ns ∧ σ = [some (.ref t), some (oV o), some (.int b), x]) hs ⟨rfl, -1, _, rfl, rfl⟩ (fun i σ H2 _ ⟨e, _⟩ => by rw [e]; exact hs) ?_ ?_
      · rintro i v σ H' hv ⟨rfl, b, x, fb, rfl⟩
        rw [List.getElem?_map] at hv
        obtain ⟨g, eg, rfl⟩ := Option.map_eq_some_iff.mp hv
        have il := (List.getElem?_eq_some_iff.mp eg).1
        have ed : ns.drop i = g :: ns.drop (i + 1) := by
          rw [List.drop_eq_getElem_cons il]
          congr 1
          exact (List.getElem?_eq_some_iff.mp eg).2
        rw [ed] at fb
        have bad : badG b o g = true → ∀ {R : Prop}, ((∀ d H2, H' d = none → Same H' H2 → H2 d = some (.xd [("value", .int g)]) → E (.ref CN) (some d) H2) → R) → R := fun hb R go => by
          have e1 : firstBad o b (g :: ns.drop (i + 1)) = some g := if_pos hb
          rw [e1] at fb
          rcases h with ⟨e, _⟩ | ⟨g', e, k⟩
          · rw [← fb] at e
            cases e
          · rw [← fb] at e
            cases e
            exact go k
        have good : ¬ badG b o g = true → firstBad o g (ns.drop (i + 1)) = firstBad o (-1) ns := fun hb => by
          rw [← fb]
          exact (if_neg hb).symm
        walk_at "rd"
        refine ite2 (fun h1 => ?_) (fun h1 => ?_)
        · walk_at "rd"
          exact bad (by unfold badG; rw [h1]; rfl) fun k => rErr1 trivial k
        · have h1' : decide (g ≤ b) = false := Bool.eq_false_iff.mpr h1
          cases o with
          | none =>
            walk_at "rd"
            exact ⟨rfl, g, _, good (by unfold badG; rw [h1']; simp), rfl⟩
          | some l =>
            walk_at "rd"
            refine ite2 (fun h2 => ?_) (fun h2 => ?_)
            · walk_at "rd"
              exact bad (by unfold badG; rw [h1']; exact h2) fun k => rErr1 trivial k
            · walk_at "rd"
              exact ⟨rfl, g, _, good (by unfold badG; rw [h1']; exact h2), rfl⟩
      · rintro σ H' ⟨rfl, b, x, fb, rfl⟩
        rw [List.length_map, List.drop_length] at fb
        rcases h with ⟨_, k⟩ | ⟨g, e, _⟩
        · walk_at "rd"
          exact k
        · rw [← fb] at e
          cases e

theorem ok_clipX {C_Clip : Addr} {kws : List (Str × V)} {f cda cc CBN CN : Addr} {fd : FuncData} {mc : Value} {tkv : Tok} (F : FunC K "__init__" "Clip.__init__" s_Clip___init__ kws f cda cc fd) (T : Txt mg) (G : CTxt K C_Clip) (g_Clip : mg "Clip" = some (.ref C_Clip)) (cr : ClX.CRead K C_Clip mc) (cv : ClX.CVal K C_Clip mc "ROUNDS" (.int 4) (.int 4 tkv))
    (su___init__ : SupFn P w K mg base (L2.CX P w) f cda cc C_Clip "self" "__init__" P_Sound___init__ [] 3 (spSoundX K CBN)) (fxcheck_guards : FnX P w K mg base "check_guards" P_check_guards [] 3 (spGuardsX K CN)) (er_BadNumber : Err P w K mg base "BadNumber" CN P_BadNumber___init__ 1 (spErr1 CN "value" (fun _ => True))) :
    FnOk P w K mg base (L2.CX P w) 5 f fd P_Clip___init__ (spClipX K C_Clip CBN CN) := by
  refine F.ok sc_Clip___init__ (fun vs H Q E h => ?_) (fun A outer s H vs Q E D hr h => ?_)
  · obtain ⟨p, dx, z, g, o, r, t, ns, rfl, _⟩ := h
    rfl
  · obtain ⟨p, dx, z, g, o, r, t, ns, rfl, hp, lz, cz, ht, h⟩ := h
    refine ⟨_, (pssa_cons (psa_expr (pea_supX su___init__ (takes_of rfl rfl rfl rfl) (hr.mono (by omega)) rfl rfl rfl rfl rfl rfl rfl (pa_cons (pv 1) (pa_cons (pv 2) pa_nil))))
    (pss_cons (ps_if (PW.pt (pw_and (pt_cmpR o_notN (pv 3) pe_non (nomark _)) (pw_and1 (pt_cmpR op_lt (pv 3) pe_int (nomark _))))) (pss_one (ps_raise rfl (takes_of rfl rfl rfl rfl) (pmk_err er_BadNumber (hr.mono (by omega)) rfl (pa_cons (pv 3) pa_nil)))) pss_nil)
    (pss_cons (ps_set (i := 7) sc_Clip___init__.nd rfl (Or.inl rfl) (pe_ifExp (pt_cmpR o_isN (pv 3) pe_non (nomark _)) pe_int (ClX.pe_cval (pe_glob (v := .ref C_Clip) rfl g_Clip rfl))))
    (pss_cons (ps_if (PW.pt (pw_or (pt_cmpR op_lt (pv 4) pe_int (nomark _)) (pw_or1 (pt_cmpR op_gt (pv 4) (pv 7) (nomark _))))) (pss_one (ps_raise rfl (takes_of rfl rfl rfl rfl) (pmk_err er_BadNumber (hr.mono (by omega)) rfl (pa_cons (pv 4) pa_nil)))) pss_nil)
    (pss_cons (ps_expr (pe_fnX fxcheck_guards (takes_of rfl rfl rfl rfl) (hr.mono (by omega)) rfl (pa_cons (pv 5) (pa_cons (pv 3) pa_nil))))
    (pss_cons (ps_fld (pv 0) (pv 3) rfl)
    (pss_cons (ps_fld (pv 0) (pv 4) rfl)
    (pss_one (ps_fld (pv 0) (pe_callTy call_tuple_of rfl T.b_tuple (by decide +kernel) (pa_cons (pv 5) pa_nil)) rfl))))))))), ?_⟩
    refine rStartF (σ := [some (.ref p), some (.str z), some (.ref g), some (oV o), some (.int r), some (.ref t), some (.ref D), none]) rfl ?_
    walk_at "rd"
    refine ⟨dx, [], hp, ?_⟩
    walk_at "rd"
    refine ⟨p, dx, C_Clip, z, .ref g, rfl, hp, G.cl, G.n1, G.n2, lz, cz, ?_⟩
    cases hn : nameB z with
    | false =>
      refine .inr ⟨rfl, fun d H' hd S e => ?_⟩
      rcases h with ⟨q, _⟩ | ⟨y, q, k⟩ | ⟨v, q, _⟩
      · rw [fault_name hn] at q
        cases q
      · rw [fault_name hn] at q
        cases q
        exact k d H' hd (Kp.of_same S) e
      · rw [fault_name hn] at q
        cases q
    | true =>
      refine .inl ⟨rfl, fun H1 K1 e1 => ?_⟩
      have ht1 := ht.kp K1 hp
      have out : ∀ {x : Int} {R : Prop}, fault z o r ns = some (.value x) → ((∀ d H2, H1 d = none → Same H1 H2 → H2 d = some (.xd [("value", .int x)]) → E (.ref CN) (some d) H2) → R) → R := fun {x R} q go => by
        rcases h with ⟨q2, _⟩ | ⟨y, q2, _⟩ | ⟨v, q2, k⟩
        · rw [q] at q2
          cases q2
        · rw [q] at q2
          cases q2
        · rw [q] at q2
          cases q2
          refine go fun d H2 hd S e => k d H2 (Kp.free K1 hp e1 hd) (K1.trans (Kp.of_same S)) e
      have fine : (fault z o r ns = none) → ∀ t' H', Kp p H H' → H' p = some (.ins C_Clip dx (cf z g o r t')) → TupAt K H' t' ns → Q .non H' := fun q => by
        rcases h with ⟨_, k⟩ | ⟨y, q2, _⟩ | ⟨v, q2, _⟩
        · exact k
        · rw [q] at q2
          cases q2
        · rw [q] at q2
          cases q2
      have last : ∀ {m : Int}, (fault z o r ns = if r < 1 ∨ r > m then some (.value r) else (firstBad o (-1) ns).map .value) → True := fun _ => trivial
      cases o with
      | none =>
        have fz := fault_none (z := z) (r := r) (ns := ns) hn
        walk_at "rd"
        refine ite2 (fun h1 => ?_) (fun h1 => ?_)
        · have q : r < 1 := of_decide_eq_true h1
          rw [if_pos (.inl q)] at fz
          walk_at "rd"
          exact out fz fun k => rErr1 trivial k
        · have q1 : ¬ r < 1 := fun q => h1 (decide_eq_true q)
          walk_at "rd"
          refine ite2 (fun h2 => ?_) (fun h2 => ?_)
          · rw [if_pos (.inr (of_decide_eq_true h2))] at fz
            walk_at "rd"
            exact out fz fun k => rErr1 trivial k
          · rw [if_neg fun q => q.elim q1 fun q => h2 (decide_eq_true q)] at fz
            walk_at "rd"
            refine ⟨t, _, ns, rfl, ht1, ?_⟩
            cases fb : firstBad _ (-1) ns with
            | some b =>
              rw [fb] at fz
              exact .inr ⟨b, rfl, fun d H' hd S e => out fz fun k => k d H' hd S e⟩
            | none =>
              rw [fb] at fz
              refine .inl ⟨rfl, ?_⟩
              have k := fine fz
              walk_at "rd"
              refine ⟨p, C_Clip, dx, _, rfl, e1, G.cl, G.n3, (by show 2 < 1000; decide), ?_⟩
              walk_at "rd"
              refine ⟨p, C_Clip, dx, _, rfl, upd_same, G.cl, G.n4, (by show 3 < 1000; decide), ?_⟩
              walk_at "rd"
              rcases ht1 with ht1 | ht1
              · have tp : t ≠ p := ne_of ht1 e1 (by intro z; cases z)
                refine ⟨t, _, rfl, .inl ⟨SqL.of (Bar.lkNe tp (Bar.lkNe tp ht1)), fun u hu => ?_⟩⟩
                walk_at "rd"
                refine ⟨p, C_Clip, dx, _, rfl, Bar.lkNew hu upd_same, G.cl, G.n5, (by show 4 < 1000; decide), ?_⟩
                walk_at "rd"
                have nu : u ≠ p := fun z => by
                  rw [z, upd_same] at hu
                  cases hu
                exact k u _ ((((K1.trans Kp.upd).trans Kp.upd).trans (Kp.new hu)).trans Kp.upd) upd_same (.inl (Bar.lkNe nu upd_same))
              · have tp : H1 t = some (.tup (ns.map V.int)) → t ≠ p := fun q => ne_of q e1 (by intro z; cases z)
                refine ⟨t, _, rfl, .inr ⟨TupAt.sq (ns := ns) (ht1.imp (fun q => Bar.lkNe (tp q) (Bar.lkNe (tp q) q)) id), ?_⟩⟩
                walk_at "rd"
                refine ⟨p, C_Clip, dx, _, rfl, upd_same, G.cl, G.n5, (by show 4 < 1000; decide), ?_⟩
                walk_at "rd"
                exact k t _ (((K1.trans Kp.upd).trans Kp.upd).trans Kp.upd) upd_same (ht1.imp (fun q => Bar.lkNe (tp q) (Bar.lkNe (tp q) (Bar.lkNe (tp q) q))) id)
      | some l =>
        have fz0 := fault_some (z := z) (l := l) (r := r) (ns := ns) hn
        walk_at "rd"
        refine ite2 (fun hl => ?_) (fun hl => ?_)
        · rw [if_pos (of_decide_eq_true hl)] at fz0
          walk_at "rd"
          exact out fz0 fun k => rErr1 trivial k
        · have fz := fz0.trans (if_neg fun q => hl (decide_eq_true q))
          walk_at "rd"
          refine ⟨C_Clip, mc, _, _, rfl, cr, cv, ?_⟩
          walk_at "rd"
          refine ite2 (fun h1 => ?_) (fun h1 => ?_)
          · have q : r < 1 := of_decide_eq_true h1
            rw [if_pos (.inl q)] at fz
            walk_at "rd"
            exact out fz fun k => rErr1 trivial k
          · have q1 : ¬ r < 1 := fun q => h1 (decide_eq_true q)
            walk_at "rd"
            refine ite2 (fun h2 => ?_) (fun h2 => ?_)
            · rw [if_pos (.inr (of_decide_eq_true h2))] at fz
              walk_at "rd"
              exact out fz fun k => rErr1 trivial k
            · rw [if_neg fun q => q.elim q1 fun q => h2 (decide_eq_true q)] at fz
              walk_at "rd"
              refine ⟨t, _, ns, rfl, ht1, ?_⟩
              cases fb : firstBad _ (-1) ns with
              | some b =>
                rw [fb] at fz
                exact .inr ⟨b, rfl, fun d H' hd S e => out fz fun k => k d H' hd S e⟩
              | none =>
                rw [fb] at fz
                refine .inl ⟨rfl, ?_⟩
                have k := fine fz
                walk_at "rd"
                refine ⟨p, C_Clip, dx, _, rfl, e1, G.cl, G.n3, (by show 2 < 1000; decide), ?_⟩
                walk_at "rd"
                refine ⟨p, C_Clip, dx, _, rfl, upd_same, G.cl, G.n4, (by show 3 < 1000; decide), ?_⟩
                walk_at "rd"
                rcases ht1 with ht1 | ht1
                · have tp : t ≠ p := ne_of ht1 e1 (by intro z; cases z)
                  refine ⟨t, _, rfl, .inl ⟨SqL.of (Bar.lkNe tp (Bar.lkNe tp ht1)), fun u hu => ?_⟩⟩
                  walk_at "rd"
                  refine ⟨p, C_Clip, dx, _, rfl, Bar.lkNew hu upd_same, G.cl, G.n5, (by show 4 < 1000; decide), ?_⟩
                  walk_at "rd"
                  have nu : u ≠ p := fun z => by
                    rw [z, upd_same] at hu
                    cases hu
                  exact k u _ ((((K1.trans Kp.upd).trans Kp.upd).trans (Kp.new hu)).trans Kp.upd) upd_same (.inl (Bar.lkNe nu upd_same))
                · have tp : H1 t = some (.tup (ns.map V.int)) → t ≠ p := fun q => ne_of q e1 (by intro z; cases z)
                  refine ⟨t, _, rfl, .inr ⟨TupAt.sq (ns := ns) (ht1.imp (fun q => Bar.lkNe (tp q) (Bar.lkNe (tp q) q)) id), ?_⟩⟩
                  walk_at "rd"
                  refine ⟨p, C_Clip, dx, _, rfl, upd_same, G.cl, G.n5, (by show 4 < 1000; decide), ?_⟩
                  walk_at "rd"
                  exact k t _ (((K1.trans Kp.upd).trans Kp.upd).trans Kp.upd) upd_same (ht1.imp (fun q => Bar.lkNe (tp q) (Bar.lkNe (tp q) (Bar.lkNe (tp q) q))) id)
end

end Lw
namespace Lw
open PySem L2 Bar

/-! ### names that occur twice -/
/-- the first of the names that is seen already or stands further ahead -/
def twi : List Str → List Str → Option Str
  | _, [] => none
  | seen, z :: r => if z ∈ seen then some z else twi (seen ++ [z]) r
def sV : Option Str → V
  | some z => .str z
  | none => .non
/-- texts in a tuple, or none in the empty tuple of the text -/
def TupS (K : PySem.W.Frag) (H : Hp) (t : Addr) (us : List Str) : Prop := H t = some (.tup (us.map V.str)) ∨ (us = [] ∧ KEmp K t)
def StrsAt (K : PySem.W.Frag) (H : Hp) (t : Addr) (us : List Str) : Prop := H t = some (.lst (us.map V.str)) ∨ TupS K H t us
theorem TupS.sq {K : PySem.W.Frag} {H : Hp} {t : Addr} {us : List Str} (h : TupS K H t us) : SqT K H t (us.map V.str) := by
  rcases h with h | ⟨rfl, h⟩
  · exact SqT.of h
  · exact h.sq
theorem TupS.same {K : PySem.W.Frag} {H H' : Hp} {t : Addr} {us : List Str} (S : Same H H') (h : TupS K H t us) : TupS K H' t us := h.imp (S _ _) id
theorem TupS.kp {K : PySem.W.Frag} {H H' : Hp} {t b : Addr} {us : List Str} {o : HO} (k : Kp b H H') (hb : H b = some o) (n : ∀ xs, o ≠ .tup xs) (h : TupS K H t us) : TupS K H' t us := h.imp (fun e => k _ _ (ne_of e hb fun z => n _ z.symm) e) id
theorem StrsAt.same {K : PySem.W.Frag} {H H' : Hp} {t : Addr} {us : List Str} (S : Same H H') (h : StrsAt K H t us) : StrsAt K H' t us := h.imp (S _ _) (TupS.same S)
theorem StrsAt.kp {K : PySem.W.Frag} {H H' : Hp} {t b C dx : Addr} {fs : List (Str × V)} {us : List Str} (k : Kp b H H') (hb : H b = some (.ins C dx fs)) (h : StrsAt K H t us) : StrsAt K H' t us := by
  rcases h with h | h
  · exact .inl (k _ _ (ne_of h hb (by intro z; cases z)) h)
  · exact .inr (h.kp k hb fun _ z => by cases z)
def spTwice (K : PySem.W.Frag) : Sp := fun vs H Q _ => ∃ (t : Addr) (us : List Str), vs = [.ref t] ∧ StrsAt K H t us ∧ us.length ≤ 1000 ∧ ∀ H', Same H H' → Q (sV (twi [] us)) H'
section
variable {P : Program} {w : World} {K : PySem.W.Frag} {mg : Str → Option Value} {base : Heap}
theorem ok_twice {f : Addr} {fd : FuncData} (F : Fun K "first_twice" "first_twice" s_first_twice f fd) (b_set : mg "set" = none) : FnOk P w K mg base CX0 1 f fd P_first_twice (spTwice K) := by
  refine F.ok sc_first_twice (fun vs H Q E h => ?_) (fun cdv A outer s H vs Q E hr h => ?_)
  · obtain ⟨t, us, rfl, _⟩ := h
    rfl
  · obtain ⟨t, us, rfl, ht, lu, k⟩ := h
    rcases ht with ht | ht
    · refine ⟨_, (pss_cons (ps_set (i := 1) sc_first_twice.nd rfl (Or.inl rfl) (pe_callTy0 cr_set0K rfl b_set (by decide +kernel)))
    (pss_cons (ps_for PassesOwn.never rfl  (pi_list (pv 0)) (pg_name (i := 2) sc_first_twice.nd rfl (Or.inl rfl)) (pss_cons (ps_if (pt_cmpR or_sinK (pv 2) (pv 1) (by rfl)) (pss_one (ps_ret (pv 2))) pss_nil)
    (pss_one (ps_expr (pe_saddK (pv 1) (pa_cons (pv 2) pa_nil))))))
    (pss_one (ps_ret pe_non)))), ?_⟩
      refine Bar.rStart (σ := [some (.ref t), none, none]) rfl ?_
      walk_at "rd"
      intro D hD
      walk_at "rd"
      refine Bar.forL (xs := us.map V.str) (fun i σ H' => (∃ (S : Key → Bool) (n : Nat), H' D = some (SetK P w D S n) ∧ n ≤ i ∧ ∀ z, S (.inr z) = true ↔ z ∈ us.take i) ∧ Same H H' ∧ twi (us.take i) (us.drop i) = twi [] us ∧ ∃ x : Option V, σ = [some (.ref t), some (.ref D), x]) (SqL.of (Bar.lkNew hD ht)) ⟨⟨_, 0, upd_same, Nat.le_refl _, fun z => ⟨(fun q => by cases q), (fun q => by cases q)⟩⟩, fun _ _ e => Bar.lkNew hD e, rfl, _, rfl⟩ (fun i σ H2 _ ⟨_, S, _⟩ => SqL.of (S _ _ ht)) ?_ ?_
      · rintro i v σ H2 hv ⟨⟨S, n, hs, hn, hS⟩, S2, ft, x, rfl⟩
        rw [List.getElem?_map] at hv
        obtain ⟨z, ez, rfl⟩ := Option.map_eq_some_iff.mp hv
        have il := (List.getElem?_eq_some_iff.mp ez).1
        have ed : us.drop i = z :: us.drop (i + 1) := by
          rw [List.drop_eq_getElem_cons il]
          congr 1
          exact (List.getElem?_eq_some_iff.mp ez).2
        have et : us.take (i + 1) = us.take i ++ [z] := by
          rw [List.take_add_one, ez]
          rfl
        have ft' : (if z ∈ us.take i then some z else twi (us.take i ++ [z]) (us.drop (i + 1))) = twi [] us := by
          rw [ed] at ft
          exact ft
        walk_at "rd"
        refine rSIn_ hs ?_
        walk_at "rd"
        refine ite2 (fun h => ?_) (fun h => ?_)
        · have hm := (hS z).mp h
          rw [if_pos hm] at ft'
          walk_at "rd"
          rw [← ft'] at k
          exact k _ S2
        · have hm : z ∉ us.take i := fun q => h ((hS z).mpr q)
          rw [if_neg hm] at ft'
          walk_at "rd"
          refine ⟨⟨D, S, n, rfl, hs⟩, ?_⟩
          walk_at "rd"
          refine rSAdd_ hs (Nat.lt_of_le_of_lt (show n + 1 ≤ 1001 by omega) (by decide)) ?_
          walk_at "rd"
          refine ⟨⟨_, _, upd_same, ?_, fun y => ?_⟩, fun a o e => Bar.lkNe (ne_of_none e hD) (S2 _ _ e), by rw [et]; exact ft', _, rfl⟩
          · have h : ¬ S (.inr z) = true := h
            rw [if_neg h]
            omega
          · rw [et, List.mem_append, List.mem_singleton, ← hS y, Bool.or_eq_true, decide_eq_true_eq]
            constructor
            · rintro (q | q)
              · exact .inl q
              · injection q with q
                exact .inr q
            · rintro (q | q)
              · exact .inl q
              · exact .inr (by rw [q])
      · rintro σ H2 ⟨⟨S, n, hs, hn, hS⟩, S2, ft, x, rfl⟩
        rw [List.length_map, List.drop_length] at ft
        walk_at "rd"
        rw [← ft] at k
        exact k _ S2
    · have hs : ∀ {H2 : Hp}, Same H H2 → SqT K H2 t (us.map V.str) := fun S => (ht.same S).sq
      refine ⟨_, (pss_cons (ps_set (i := 1) sc_first_twice.nd rfl (Or.inl rfl) (pe_callTy0 cr_set0K rfl b_set (by decide +kernel)))
    (pss_cons (ps_for PassesOwn.never rfl  (pi_tup (pv 0)) (pg_name (i := 2) sc_first_twice.nd rfl (Or.inl rfl)) (pss_cons (ps_if (pt_cmpR or_sinK (pv 2) (pv 1) (by rfl)) (pss_one (ps_ret (pv 2))) pss_nil)
    (pss_one (ps_expr (pe_saddK (pv 1) (pa_cons (pv 2) pa_nil))))))
    (pss_one (ps_ret pe_non)))), ?_⟩
      refine Bar.rStart (σ := [some (.ref t), none, none]) rfl ?_
      walk_at "rd"
      intro D hD
      walk_at "rd"
      refine Bar.forT (xs := us.map V.str) (fun i σ H' => (∃ (S : Key → Bool) (n : Nat), H' D = some (SetK P w D S n) ∧ n ≤ i ∧ ∀ z, S (.inr z) = true ↔ z ∈ us.take i) ∧ Same H H' ∧ twi (us.take i) (us.drop i) = twi [] us ∧ ∃ x : Option V, σ = [some (.ref t), some (.ref D), x]) (hs fun _ _ e => Bar.lkNew hD e) ⟨⟨_, 0, upd_same, Nat.le_refl _, fun z => ⟨(fun q => by cases q), (fun q => by cases q)⟩⟩, fun _ _ e => Bar.lkNew hD e, rfl, _, rfl⟩ (fun i σ H2 _ ⟨_, S, _⟩ => hs S) ?_ ?_
      · rintro i v σ H2 hv ⟨⟨S, n, hs, hn, hS⟩, S2, ft, x, rfl⟩
        rw [List.getElem?_map] at hv
        obtain ⟨z, ez, rfl⟩ := Option.map_eq_some_iff.mp hv
        have il := (List.getElem?_eq_some_iff.mp ez).1
        have ed : us.drop i = z :: us.drop (i + 1) := by
          rw [List.drop_eq_getElem_cons il]
          congr 1
          exact (List.getElem?_eq_some_iff.mp ez).2
        have et : us.take (i + 1) = us.take i ++ [z] := by
          rw [List.take_add_one, ez]
          rfl
        have ft' : (if z ∈ us.take i then some z else twi (us.take i ++ [z]) (us.drop (i + 1))) = twi [] us := by
          rw [ed] at ft
          exact ft
        walk_at "rd"
        refine rSIn_ hs ?_
        walk_at "rd"
        refine ite2 (fun h => ?_) (fun h => ?_)
        · have hm := (hS z).mp h
          rw [if_pos hm] at ft'
          walk_at "rd"
          rw [← ft'] at k
          exact k _ S2
        · have hm : z ∉ us.take i := fun q => h ((hS z).mpr q)
          rw [if_neg hm] at ft'
          walk_at "rd"
          refine ⟨⟨D, S, n, rfl, hs⟩, ?_⟩
          walk_at "rd"
          refine rSAdd_ hs (Nat.lt_of_le_of_lt (show n + 1 ≤ 1001 by omega) (by decide)) ?_
          walk_at "rd"
          refine ⟨⟨_, _, upd_same, ?_, fun y => ?_⟩, fun a o e => Bar.lkNe (ne_of_none e hD) (S2 _ _ e), by rw [et]; exact ft', _, rfl⟩
          · have h : ¬ S (.inr z) = true := h
            rw [if_neg h]
            omega
          · rw [et, List.mem_append, List.mem_singleton, ← hS y, Bool.or_eq_true, decide_eq_true_eq]
            constructor
            · rintro (q | q)
              · exact .inl q
              · injection q with q
                exact .inr q
            · rintro (q | q)
              · exact .inl q
              · exact .inr (by rw [q])
      · rintro σ H2 ⟨⟨S, n, hs, hn, hS⟩, S2, ft, x, rfl⟩
        rw [List.length_map, List.drop_length] at ft
        walk_at "rd"
        rw [← ft] at k
        exact k _ S2
end

end Lw
namespace Lw
open PySem L2 Bar

/-! ### leads -/
instance {y : Str} {H : Hp} {Q : VK} : Bar.Rd (rNotNone (sV (some y)) .non H Q) (Q (.bl true) H) := ⟨fun h => ⟨rfl, h⟩⟩
instance {H : Hp} {Q : VK} : Bar.Rd (rNotNone (sV none) .non H Q) (Q (.bl false) H) := ⟨rNoN_n⟩
inductive LFlt where
  | name (z : Str)
  | value (v : Int)
  | twice (z : Str)
/-- what of the parts of a lead is refused first -/
def lfault (z : Str) (l : Int) (us : List Str) : Option LFlt :=
  if nameB z = false then some (.name z) else if l < 1 then some (.value l) else (twi [] us).map .twice
def lf (z : Str) (g : Addr) (l : Int) (t : Addr) : List (Str × V) := [("name", .str z), ("grid", .ref g), ("length", .int l), ("stops", .ref t)]
abbrev okText : V → Prop := fun v => ∃ z : Str, v = .str z ∧ z.length ≤ 100 ∧ ∀ c ∈ z.cps.toList, c < 16 ^ 8
structure TxOk (z : Str) : Prop where
  len : z.length ≤ 100
  small : ∀ c ∈ z.cps.toList, c < 16 ^ 8
def spLeadX (K : PySem.W.Frag) (C CBN CN CT : Addr) : Sp := fun vs H Q E => ∃ (p dx : Addr) (z : Str) (g : Addr) (l : Int) (t : Addr) (us : List Str), vs = [.ref p, .str z, .ref g, .int l, .ref t] ∧ H p = some (.ins C dx []) ∧ TxOk z ∧ StrsAt K H t us ∧ us.length ≤ 1000 ∧ (∀ u ∈ us, TxOk u) ∧
  ((lfault z l us = none ∧ ∀ t' H', Kp p H H' → H' p = some (.ins C dx (lf z g l t')) → TupS K H' t' us → Q .non H') ∨
   (∃ y, lfault z l us = some (.name y) ∧ ∀ d H', H d = none → Kp p H H' → H' d = some (.xd [("name", .str y)]) → E (.ref CBN) (some d) H') ∨
   (∃ v, lfault z l us = some (.value v) ∧ ∀ d H', H d = none → Kp p H H' → H' d = some (.xd [("value", .int v)]) → E (.ref CN) (some d) H') ∨
   (∃ y, lfault z l us = some (.twice y) ∧ ∀ d H', H d = none → Kp p H H' → H' d = some (.xd [("name", .str y)]) → E (.ref CT) (some d) H'))
structure LTxt (K : PySem.W.Frag) (C : Addr) : Prop where
  cl : Cls K C
  n1 : NoAttr K C "name"
  n2 : NoAttr K C "grid"
  n3 : NoAttr K C "length"
  n4 : NoAttr K C "stops"
theorem twi_mem : ∀ {us seen : List Str} {y : Str}, twi seen us = some y → y ∈ us
  | z :: r, seen, y, h => by
    have h : (if z ∈ seen then some z else twi (seen ++ [z]) r) = some y := h
    by_cases q : z ∈ seen
    · rw [if_pos q] at h
      cases h
      exact List.mem_cons_self ..
    · rw [if_neg q] at h
      exact List.mem_cons_of_mem _ (twi_mem h)
section
variable {P : Program} {w : World} {K : PySem.W.Frag} {mg : Str → Option Value} {base : Heap} {C : Addr}
theorem ok_eTwice {f C CB : Addr} {fd : FuncData} (F : Fun K "__init__" "Twice.__init__" s_Twice___init__ f fd) (eb : EBase K mg "BarclipsError" CB) (O : OexC K C) (no : PySem.W.findIn K (.ref C) "name" = some none) : FnOk P w K mg base CX0 1 f fd P_Twice___init__ (spErr1 C "name" okText) := by
  refine F.ok sc_Twice___init__ (fun vs H Q E h => ?_) (fun cdv A outer s H vs Q E hr h => ?_)
  · obtain ⟨a, v, rfl, _⟩ := h
    rfl
  · obtain ⟨a, v, rfl, ha, ⟨z, rfl, lz, cz⟩, k⟩ := h
    have lr : (reprText z).length ≤ 1002 := by
      have := PySem.StrLaws.reprText_len z cz
      omega
    refine ⟨_, (pss_cons (ps_expr (pe_baseInit eb rfl (pa_cons (pv 0) (pa_cons (pe_joined (PJ.cons pe_str (PJ.cons (pe_fmtR (pv 1)) PJ.nil))) pa_nil))))
    (pss_one (ps_ost (pv 0) (pv 1) rfl))), ?_⟩
    refine Bar.rStart (σ := [some (.ref a), some (.str z)]) rfl ?_
    walk_at "rd"
    refine ⟨"a name that occurs twice: ", rfl, by decide +kernel, ?_⟩
    refine ⟨_, rfl, .inl ⟨z, rfl, Nat.le_trans lr (by decide), ?_⟩⟩
    refine ⟨reprText z, rfl, ?_, ?_⟩
    · rw [len_cps, cat_cps, List.length_append]
      have e1 : (reprText z).cps.toList.length ≤ 1002 := lr
      have e2 : ((Str.empty ++ ("a name that occurs twice: " : Str)) : Str).cps.toList.length ≤ 100 := by decide +kernel
      exact Nat.le_trans (show _ ≤ 1102 by omega) (by decide)
    walk_at "rd"
    refine ⟨a, C, _, rfl, (by show 1 ≤ 1000; decide), O, ha, ?_⟩
    walk_at "rd"
    refine ⟨a, C, rfl, O, no, .inl ⟨ha, fun d hd ne => ?_⟩⟩
    walk_at "rd"
    exact k d hd ne
theorem ok_leadX {C_Lead : Addr} {kws : List (Str × V)} {f cda cc CBN CN CT : Addr} {fd : FuncData} (F : FunC K "__init__" "Lead.__init__" s_Lead___init__ kws f cda cc fd) (T : Txt mg) (G : LTxt K C_Lead)
    (su___init__ : SupFn P w K mg base (L2.CX P w) f cda cc C_Lead "self" "__init__" P_Sound___init__ [] 3 (spSoundX K CBN)) (ffirst_twice : Fn P w K mg base "first_twice" P_first_twice [] 1 (spTwice K)) (er_BadNumber : Err P w K mg base "BadNumber" CN P_BadNumber___init__ 1 (spErr1 CN "value" (fun _ => True))) (er_Twice : Err P w K mg base "Twice" CT P_Twice___init__ 1 (spErr1 CT "name" okText)) :
    FnOk P w K mg base (L2.CX P w) 5 f fd P_Lead___init__ (spLeadX K C_Lead CBN CN CT) := by
  refine F.ok sc_Lead___init__ (fun vs H Q E h => ?_) (fun A outer s H vs Q E D hr h => ?_)
  · obtain ⟨p, dx, z, g, l, t, us, rfl, _⟩ := h
    rfl
  · obtain ⟨p, dx, z, g, l, t, us, rfl, hp, oz, ht, lu, ou, h⟩ := h
    refine ⟨_, (pssa_cons (psa_expr (pea_supX su___init__ (takes_of rfl rfl rfl rfl) (hr.mono (by omega)) rfl rfl rfl rfl rfl rfl rfl (pa_cons (pv 1) (pa_cons (pv 2) pa_nil))))
    (pss_cons (ps_if (pt_cmpR op_lt (pv 3) pe_int (nomark _)) (pss_one (ps_raise rfl (takes_of rfl rfl rfl rfl) (pmk_err er_BadNumber (hr.mono (by omega)) rfl (pa_cons (pv 3) pa_nil)))) pss_nil)
    (pss_cons (ps_set (i := 6) sc_Lead___init__.nd rfl (Or.inl rfl) (pe_fn ffirst_twice (hr.mono (by omega)) rfl (pa_cons (pv 4) pa_nil)))
    (pss_cons (ps_if (pt_cmpR o_notN (pv 6) pe_non (nomark _)) (pss_one (ps_raise rfl (takes_of rfl rfl rfl rfl) (pmk_err er_Twice (hr.mono (by omega)) rfl (pa_cons (pv 6) pa_nil)))) pss_nil)
    (pss_cons (ps_fld (pv 0) (pv 3) rfl)
    (pss_one (ps_fld (pv 0) (pe_callTy call_tuple_of rfl T.b_tuple (by decide +kernel) (pa_cons (pv 4) pa_nil)) rfl))))))), ?_⟩
    refine rStartF (σ := [some (.ref p), some (.str z), some (.ref g), some (.int l), some (.ref t), some (.ref D), none]) rfl ?_
    walk_at "rd"
    refine ⟨dx, [], hp, ?_⟩
    walk_at "rd"
    refine ⟨p, dx, C_Lead, z, .ref g, rfl, hp, G.cl, G.n1, G.n2, oz.len, oz.small, ?_⟩
    cases hn : nameB z with
    | false =>
      have fe : lfault z l us = some (.name z) := if_pos hn
      refine .inr ⟨rfl, fun d H' hd S e => ?_⟩
      rw [fe] at h
      rcases h with ⟨q, _⟩ | ⟨y, q, k⟩ | ⟨v, q, _⟩ | ⟨y, q, _⟩
      · cases q
      · cases q
        exact k d H' hd (Kp.of_same S) e
      · cases q
      · cases q
    | true =>
      have fe : lfault z l us = if l < 1 then some (.value l) else (twi [] us).map .twice := if_neg (by rw [hn]; decide)
      rw [fe] at h
      refine .inl ⟨rfl, fun H1 K1 e1 => ?_⟩
      have ht1 := ht.kp K1 hp
      walk_at "rd"
      refine ite2 (fun hl => ?_) (fun hl => ?_)
      · rw [if_pos (of_decide_eq_true hl)] at h
        walk_at "rd"
        rcases h with ⟨q, _⟩ | ⟨y, q, _⟩ | ⟨v, q, k⟩ | ⟨y, q, _⟩
        · cases q
        · cases q
        · cases q
          exact rErr1 trivial fun d H2 hd S e => k d H2 (Kp.free K1 hp e1 hd) (K1.trans (Kp.of_same S)) e
        · cases q
      · rw [if_neg fun q => hl (decide_eq_true q)] at h
        walk_at "rd"
        refine ⟨t, us, rfl, ht1, lu, fun H2 S2 => ?_⟩
        have e2 := S2 _ _ e1
        have K2 := K1.trans (Kp.of_same S2)
        have ht2 := ht1.same S2
        cases ft : twi [] us with
        | some y =>
          rw [ft] at h
          walk_at "rd"
          rcases h with ⟨q, _⟩ | ⟨y', q, _⟩ | ⟨v, q, _⟩ | ⟨y', q, k⟩
          · cases q
          · cases q
          · cases q
          · cases q
            have oy := ou y (twi_mem ft)
            exact rErr1 ⟨y, rfl, oy.len, oy.small⟩ fun d H3 hd S e => k d H3 (Kp.free K2 hp e2 hd) (K2.trans (Kp.of_same S)) e
        | none =>
          rw [ft] at h
          have kk : ∀ t' H', Kp p H H' → H' p = some (.ins C_Lead dx (lf z g l t')) → TupS K H' t' us → Q .non H' := by
            rcases h with ⟨_, k⟩ | ⟨y, q, _⟩ | ⟨v, q, _⟩ | ⟨y, q, _⟩
            · exact k
            · cases q
            · cases q
            · cases q
          walk_at "rd"
          refine ⟨p, C_Lead, dx, _, rfl, e2, G.cl, G.n3, (by show 2 < 1000; decide), ?_⟩
          walk_at "rd"
          rcases ht2 with ht2 | ht2
          · have tp : t ≠ p := ne_of ht2 e2 (by intro z; cases z)
            refine ⟨t, _, rfl, .inl ⟨SqL.of (Bar.lkNe tp ht2), fun u hu => ?_⟩⟩
            walk_at "rd"
            refine ⟨p, C_Lead, dx, _, rfl, Bar.lkNew hu upd_same, G.cl, G.n4, (by show 3 < 1000; decide), ?_⟩
            walk_at "rd"
            have nu : u ≠ p := fun z => by
              rw [z, upd_same] at hu
              cases hu
            exact kk u _ (((K2.trans Kp.upd).trans (Kp.new hu)).trans Kp.upd) upd_same (.inl (Bar.lkNe nu upd_same))
          · have tp : H2 t = some (.tup (us.map V.str)) → t ≠ p := fun q => ne_of q e2 (by intro z; cases z)
            refine ⟨t, _, rfl, .inr ⟨TupS.sq (us := us) (ht2.imp (fun q => Bar.lkNe (tp q) q) id), ?_⟩⟩
            walk_at "rd"
            refine ⟨p, C_Lead, dx, _, rfl, upd_same, G.cl, G.n4, (by show 3 < 1000; decide), ?_⟩
            walk_at "rd"
            exact kk t _ ((K2.trans Kp.upd).trans Kp.upd) upd_same (ht2.imp (fun q => Bar.lkNe (tp q) (Bar.lkNe (tp q) q)) id)
end

end Lw
namespace Lw
open PySem L2 Bar

/-! ### a drawn name -/
theorem nodup_len : ∀ (l us : List Str), l.Nodup → (∀ x ∈ l, x ∈ us) → l.length ≤ us.length
  | [], _, _, _ => Nat.zero_le _
  | a :: l, us, nd, h => by
    obtain ⟨na, nl⟩ := List.nodup_cons.mp nd
    have ha := h a (List.mem_cons_self ..)
    have i := nodup_len l (us.erase a) nl fun x hx => (List.mem_erase_of_ne fun e => na (by rw [← e]; exact hx)).mpr (h x (List.mem_cons_of_mem _ hx))
    rw [List.length_erase_of_mem ha] at i
    have : 0 < us.length := List.length_pos_of_mem ha
    show l.length + 1 ≤ us.length
    omega
def spareS (k : Nat) : Str := ("spare" : Str) ++ ((toString ((k : Nat) : Int) : String) : Str)
theorem spare_nodup : ((List.range 100).map spareS).Nodup := by decide +kernel
theorem spare_name : ∀ k : Nat, k < 100 → nameB (spareS k) = true := by decide +kernel
theorem in_str {z : Str} {us : List Str} : inV (.str z) (us.map V.str) = decide (z ∈ us) := by
  unfold inV
  rw [List.any_map]
  rw [Bool.eq_iff_iff, List.any_eq_true, decide_eq_true_eq]
  constructor
  · rintro ⟨y, hy, e⟩
    have e : (y == z) = true := e
    rw [← beq_iff_eq.mp e]
    exact hy
  · exact fun h => ⟨z, h, beq_self_eq_true z⟩
theorem flat_strs (us : List Str) : (us.map V.str).all flatV = true := by
  rw [List.all_map, List.all_eq_true]
  exact fun _ _ => rfl
abbrev lenV : List V := [.int 0, .int 1, .int 2, .int 4, .int 7, .int 11]
theorem len_at {r : Int} (h0 : 0 ≤ r) (h1 : r < 6) : ∃ v : Int, atI lenV r = some (.int v) ∧ 0 ≤ v ∧ v ≤ 11 := by
  have h : r = 0 ∨ r = 1 ∨ r = 2 ∨ r = 3 ∨ r = 4 ∨ r = 5 := by omega
  rcases h with h | h | h | h | h | h <;> (subst h; exact ⟨_, rfl, by decide, by decide⟩)
theorem letters_sgn : ((("abcdefghijklmnopqrstuvwxyz" : Str) ++ ("0123456789" : Str)) : Str) = signsS := by decide +kernel
/-- a letter and then signs -/
def NameTo (n : Nat) (z : Str) : Prop := ∃ c l, z.cps.toList = c :: l ∧ c ∈ letL ∧ l.length = n ∧ ∀ d ∈ l, d ∈ sgnL
theorem NameTo.ok {n : Nat} {z : Str} (h : NameTo n z) (hn : n ≤ 11) : nameB z = true := by
  obtain ⟨c, l, e, hc, hl, hs⟩ := h
  unfold nameB nameL
  rw [e]
  have h1 : decide (1 ≤ (c :: l).length) = true := decide_eq_true (by simp)
  have h2 : decide ((c :: l).length ≤ 12) = true := decide_eq_true (by show l.length + 1 ≤ 12; omega)
  have h3 : (c :: l).head?.any (fun c => decide (c ∈ letL)) = true := decide_eq_true hc
  have h4 : (c :: l).all (fun c => decide (c ∈ sgnL)) = true := List.all_eq_true.mpr fun d hd => by
    rcases List.mem_cons.mp hd with e | hd
    · rw [e]
      exact decide_eq_true (let_sub c hc)
    · exact decide_eq_true (hs d hd)
  rw [h1, h2, h3, h4]
  rfl
theorem NameTo.more {n : Nat} {z : Str} {c : Nat} (h : NameTo n z) (hc : c ∈ sgnL) : NameTo (n + 1) (z ++ ⟨#[c]⟩) := by
  obtain ⟨c0, l, e, h0, hl, hs⟩ := h
  refine ⟨c0, l ++ [c], by rw [cat_cps, e]; rfl, h0, by rw [List.length_append, hl]; rfl, fun d hd => ?_⟩
  rcases List.mem_append.mp hd with hd | hd
  · exact hs d hd
  · rw [List.mem_singleton.mp hd]
    exact hc
theorem NameTo.len {n : Nat} {z : Str} (h : NameTo n z) : z.length = n + 1 := by
  obtain ⟨c, l, e, _, hl, _⟩ := h
  rw [len_cps, e]
  show l.length + 1 = _
  omega
theorem sgn_small : ∀ c ∈ sgnL, c < 128 := by decide +kernel
theorem name_len {z : Str} (h : nameB z = true) : 1 ≤ z.length ∧ z.length ≤ 12 := by
  unfold nameB nameL at h
  simp only [Bool.and_eq_true, decide_eq_true_eq] at h
  exact ⟨h.1.1.1, h.1.1.2⟩
theorem name_sgn {z : Str} (h : nameB z = true) : ∀ c ∈ z.cps.toList, c ∈ sgnL := by
  unfold nameB nameL at h
  simp only [Bool.and_eq_true, decide_eq_true_eq] at h
  exact fun c hc => of_decide_eq_true (List.all_eq_true.mp h.2 c hc)
theorem name_small {z : Str} (h : nameB z = true) : ∀ c ∈ z.cps.toList, c < 16 ^ 8 := fun c hc => Nat.lt_trans (sgn_small c (name_sgn h c hc)) (by decide)
def spName : Sp := fun vs H Q _ => ∃ (b u : Addr) (c s n : Int) (us : List Str), vs = [.ref b, .ref u] ∧ H b = some (box c s n) ∧ H u = some (.lst (us.map V.str)) ∧ us.length ≤ 50 ∧
  ∀ z H', nameB z = true → z ∉ us → Kp2 b u H H' → (∃ c' n', H' b = some (box c' s n')) → H' u = some (.lst ((us ++ [z]).map V.str)) → Q (.str z) H'
theorem box_strs {c s n : Int} (us : List Str) : (HO.lst (us.map V.str)) ≠ box c s n := fun e => by
  have e := HO.lst.inj e
  match us, e with
  | a :: r, e => cases e
section
variable {P : Program} {w : World} {K : PySem.W.Frag} {mg : Str → Option Value} {base : Heap}
theorem ok_name {f : Addr} {fd : FuncData} (F : Fun K "_law_name" "_law_name" s_law_name f fd) (T : Txt mg) (f_law_draw : Fn P w K mg base "_law_draw" P_law_draw [] 1 spDrawA) : FnOk P w K mg base CX0 2 f fd P_law_name spName := by
  refine F.ok sc_law_name (fun vs H Q E h => ?_) (fun cdv A outer s H vs Q E hr h => ?_)
  · obtain ⟨b, u, c, z, n, us, rfl, _⟩ := h
    rfl
  · obtain ⟨b, u, c, z, n, us, rfl, hb, hu, lu, k⟩ := h
    have nub : u ≠ b := ne_of hu hb (box_strs us)
    refine ⟨_, (pss_cons (ps_set (i := 2) sc_law_name.nd rfl (Or.inl rfl) pe_str)
    (pss_cons (ps_for PassesOwn.never rfl  (pi_range1 rfl T.b_range (pa_cons pe_int pa_nil)) (pg_name (i := 3) sc_law_name.nd rfl (Or.inl rfl)) (pss_cons (ps_set (i := 4) sc_law_name.nd rfl (Or.inl rfl) (pe_ix ix_str (pv 2) (pe_fn f_law_draw (hr.mono (by omega)) rfl (pa_cons (pv 0) (pa_cons pe_int pa_nil))) (fun _ _ => rfl)))
    (pss_cons (ps_for PassesOwn.never rfl  (pi_range1 rfl T.b_range (pa_cons (pe_ix ix_tup (pe_tup (pa_cons pe_int (pa_cons pe_int (pa_cons pe_int (pa_cons pe_int (pa_cons pe_int (pa_cons pe_int pa_nil))))))) (pe_fn f_law_draw (hr.mono (by omega)) rfl (pa_cons (pv 0) (pa_cons pe_int pa_nil))) (fun _ _ => rfl)) pa_nil)) (pg_name (i := 5) sc_law_name.nd rfl (Or.inl rfl)) (pss_one (ps_set (i := 4) sc_law_name.nd rfl (Or.inl rfl) (pe_op o_catS (pv 4) (pe_ix ix_str (pe_op o_catS (pv 2) pe_str) (pe_fn f_law_draw (hr.mono (by omega)) rfl (pa_cons (pv 0) (pa_cons pe_int pa_nil))) (fun _ _ => rfl))))))
    (pss_one (ps_if (pt_cmpR op_notIn_seq (pv 4) (pv 1) (by rfl)) (pss_cons (ps_expr (pe_bm PySem.F.plainAttrs_list PySem.F.slot_list_append PySem.F.type_list_append mt_append (pv 1) (pa_cons (pv 4) pa_nil)))
    (pss_one (ps_ret (pv 4)))) pss_nil)))))
    (pss_cons (ps_for PassesOwn.never rfl  (pi_range1 rfl T.b_range (pa_cons pe_int pa_nil)) (pg_name (i := 5) sc_law_name.nd rfl (Or.inl rfl)) (pss_cons (ps_set (i := 4) sc_law_name.nd rfl (Or.inl rfl) (pe_op o_catS pe_str (pe_callTy c_str rfl T.b_str (by decide +kernel) (pa_cons (pv 5) pa_nil))))
    (pss_one (ps_if (pt_cmpR op_notIn_seq (pv 4) (pv 1) (by rfl)) (pss_one ps_break) pss_nil))))
    (pss_cons (ps_expr (pe_bm PySem.F.plainAttrs_list PySem.F.slot_list_append PySem.F.type_list_append mt_append (pv 1) (pa_cons (pv 4) pa_nil)))
    (pss_one (ps_ret (pv 4))))))), ?_⟩
    refine Bar.rStart (σ := [some (.ref b), some (.ref u), none, none, none, none]) rfl ?_
    walk_at "rd"
    refine Bar.forR 20 rfl (fun i σ H' => Kp b H H' ∧ (∃ c' n', H' b = some (box c' z n')) ∧ ∃ (x y w : Option V), σ = [some (.ref b), some (.ref u), some (.str "abcdefghijklmnopqrstuvwxyz"), x, y, w]) (by decide) ⟨Kp.refl, ⟨_, _, hb⟩, _, _, _, rfl⟩ ?_ ?_
    · rintro i σ H' hi ⟨K0, ⟨c0, n0, hb0⟩, x, y, w, rfl⟩
      walk_at "rd"
      refine ⟨b, c0, z, n0, 26, rfl, hb0, by decide, by decide, fun r1 H1 l1 u1 ⟨K1, c1, n1, hb1⟩ => ?_⟩
      obtain ⟨ch, hch, hlet⟩ := let_ix l1 u1
      refine rIxS_ (by decide +kernel) hch ?_
      walk_at "rd"
      intro tq htq
      walk_at "rd"
      have nqb : tq ≠ b := fun e => by
        rw [e, hb1] at htq
        cases htq
      refine ⟨b, c1, z, n1, 6, rfl, Bar.lkNew htq hb1, by decide, by decide, fun r2 H2 l2 u2 ⟨K2, c2, n2, hb2⟩ => ?_⟩
      obtain ⟨v, hv, v0, v1⟩ := len_at l2 u2
      refine Bar.rIxT_ (SqT.of (K2 _ _ nqb upd_same)) hv ?_
      obtain ⟨m, rfl⟩ : ∃ m : Nat, v = m := ⟨v.toNat, by omega⟩
      have K02 : Kp b H H2 := ((K0.trans K1).trans (Kp.new htq)).trans K2
      clear K0 K1 K2 hb0 hb1 htq
      walk_at "rd"
      refine Bar.forR m (Int.toNat_natCast m) (fun j σ H' => Kp b H H' ∧ (∃ c' n', H' b = some (box c' z n')) ∧ ∃ (y : Str) (w : Option V), NameTo j y ∧ σ = [some (.ref b), some (.ref u), some (.str "abcdefghijklmnopqrstuvwxyz"), some (.int (i : Int)), some (.str y), w]) (by omega) ⟨K02, ⟨_, _, hb2⟩, _, _, ⟨ch, [], rfl, hlet, rfl, fun d hd => by cases hd⟩, rfl⟩ ?_ ?_
      · rintro j σ H3 hj ⟨K3, ⟨c3, n3, hb3⟩, y, w, ny, rfl⟩
        have ly := ny.len
        walk_at "rd"
        refine rCatS_ (by decide +kernel) ?_
        walk_at "rd"
        rw [letters_sgn]
        refine ⟨b, c3, z, n3, 36, rfl, hb3, by decide, by decide, fun r3 H4 l3 u3 ⟨K4, c4, n4, hb4⟩ => ?_⟩
        obtain ⟨cs, hcs, hsg⟩ := sgn_ix l3 u3
        refine rIxS_ (by decide +kernel) hcs ?_
        refine rCatS_ (Nat.le_trans (show y.length + 1 ≤ 100 by omega) (by decide)) ?_
        walk_at "rd"
        exact ⟨K3.trans K4, ⟨_, _, hb4⟩, _, _, ny.more hsg, rfl⟩
      · rintro σ H3 ⟨K3, ⟨c3, n3, hb3⟩, y, w, ny, rfl⟩
        have nm := ny.ok (by omega)
        have hu3 := K3 _ _ nub hu
        walk_at "rd"
        refine ⟨u, _, rfl, .inl (SqL.of hu3), rfl, flat_strs us, ?_⟩
        rw [in_str]
        walk_at "rd"
        refine ite2 (fun h => ?_) (fun h => ?_)
        · have ni : y ∉ us := fun q => by
            have h : (!decide (y ∈ us)) = true := h
            rw [decide_eq_true q] at h
            cases h
          walk_at "rd"
          refine Bar.rAppend_ hu3 (Bar.szLt (by rw [List.length_map]; omega)) ?_
          walk_at "rd"
          refine k y _ nm ni ((Kp2.refl.kp K3).set) ⟨_, _, Bar.lkNe nub.symm hb3⟩ ?_
          rw [upd_same, List.map_append]
          rfl
        · walk_at "rd"
          exact ⟨K3, ⟨_, _, hb3⟩, _, _, _, rfl⟩
    · rintro σ H' ⟨K0, ⟨c0, n0, hb0⟩, x, y, w, rfl⟩
      have hu0 := K0 _ _ nub hu
      walk_at "rd"
      refine Bar.forR 100 rfl (fun j σ H2 => H2 = H' ∧ (∀ i, i < j → spareS i ∈ us) ∧ ∃ (y w : Option V), σ = [some (.ref b), some (.ref u), some (.str "abcdefghijklmnopqrstuvwxyz"), x, y, w]) (by decide) ⟨rfl, fun i hi => absurd hi (by omega), _, _, rfl⟩ ?_ ?_
      · rintro j σ H2 hj ⟨rfl, hh, y, w, rfl⟩
        have nm := spare_name j hj
        have ln := name_len nm
        walk_at "rd"
        refine Bar.rStr_ (PySem.Flt.log2_lt_of (by decide) (Nat.lt_of_lt_of_le (show ((j : Nat) : Int).natAbs < 2 ^ 7 by omega) (Nat.pow_le_pow_right (by decide) (by decide)))) ?_
        refine rCatS_ ?_ ?_
        · have e : (spareS j).length = ("spare" : Str).length + ((toString ((j : Nat) : Int) : String) : Str).length := by
            unfold spareS
            rw [len_cps, cat_cps, List.length_append]
            rfl
          exact Nat.le_trans (show _ ≤ 12 by rw [← e]; exact ln.2) (by decide)
        walk_at "rd"
        refine ⟨u, _, rfl, .inl (SqL.of hu0), rfl, flat_strs us, ?_⟩
        rw [in_str]
        walk_at "rd"
        refine ite2 (fun h => ?_) (fun h => ?_)
        · have ni : spareS j ∉ us := fun q => by
            have h : (!decide (spareS j ∈ us)) = true := h
            rw [decide_eq_true q] at h
            cases h
          walk_at "rd"
          refine Bar.rAppend_ hu0 (Bar.szLt (by rw [List.length_map]; omega)) ?_
          walk_at "rd"
          refine k (spareS j) _ nm ni ((Kp2.refl.kp K0).set) ⟨_, _, Bar.lkNe nub.symm hb0⟩ ?_
          rw [upd_same, List.map_append]
          rfl
        · have ni : spareS j ∈ us := by
            by_cases q : spareS j ∈ us
            · exact q
            · exact absurd (show (!decide (spareS j ∈ us)) = true by rw [decide_eq_false q]; rfl) h
          walk_at "rd"
          refine ⟨rfl, fun i hi => ?_, _, _, rfl⟩
          by_cases ij : i = j
          · rw [ij]
            exact ni
          · exact hh i (by omega)
      · rintro σ H2 ⟨rfl, hh, y, w, rfl⟩
        exfalso
        have l := nodup_len _ us spare_nodup fun z hz => by
          obtain ⟨i, hi, rfl⟩ := List.mem_map.mp hz
          exact hh i (List.mem_range.mp hi)
        rw [List.length_map, List.length_range] at l
        omega
end


/-! ### bad names -/
abbrev digS : Str := "0123456789"
def okBad (z : Str) : Bool := z.cps.toList.all fun c => decide (c ∉ sgnL) && decide (c < 128)
theorem dig_not : ∀ c ∈ digS.cps.toList, c ∉ letL ∧ c < 128 := by decide +kernel
theorem any_ix {l : List Nat} {r : Int} (h0 : 0 ≤ r) (h1 : r < l.length) : ∃ c, atI l r = some c ∧ c ∈ l := by
  have hn : r.toNat < l.length := by omega
  refine ⟨_, ?_, List.mem_of_getElem? (List.getElem?_eq_getElem hn)⟩
  have e : atI l ((r.toNat : Nat) : Int) = _ := atI_nat (List.getElem?_eq_getElem hn)
  rw [show ((r.toNat : Nat) : Int) = r by omega] at e
  exact e
theorem rIxBad {z : Str} {i : Int} {H : Hp} {Q : VK} (hz : okBad z = true) (l : z.length ≤ sizeLine) (h0 : 0 ≤ i) (h1 : i < (z.length : Int)) (k : ∀ c, c ∉ sgnL → c < 128 → Q (.str ⟨#[c]⟩) H) : rIxS (.str z) (.int i) H Q := by
  obtain ⟨c, hc, hm⟩ := any_ix (l := z.cps.toList) h0 h1
  have q := List.all_eq_true.mp hz c hm
  rw [Bool.and_eq_true] at q
  exact rIxS_ l hc (k c (of_decide_eq_true q.1) (of_decide_eq_true q.2))
theorem nb_long {z : Str} (h : 12 < z.cps.toList.length) : nameB z = false := by
  unfold nameB nameL
  rw [decide_eq_false (show ¬ z.cps.toList.length ≤ 12 by omega)]
  simp
theorem nb_head {z : Str} {c : Nat} {l : List Nat} (e : z.cps.toList = c :: l) (h : c ∉ letL) : nameB z = false := by
  unfold nameB nameL
  rw [e]
  have : (c :: l).head?.any (fun c => decide (c ∈ letL)) = false := decide_eq_false h
  rw [this]
  simp
theorem nb_sign {z : Str} {c : Nat} (hc : c ∈ z.cps.toList) (h : c ∉ sgnL) : nameB z = false := by
  unfold nameB nameL
  have : z.cps.toList.all (fun c => decide (c ∈ sgnL)) = false := by
    rw [Bool.eq_false_iff]
    intro q
    exact h (of_decide_eq_true (List.all_eq_true.mp q c hc))
  rw [this, Bool.and_false]
structure BadS (y : Str) : Prop where
  no : nameB y = false
  len : y.length ≤ 100
  small : ∀ c ∈ y.cps.toList, c < 16 ^ 8
def spBadName : Sp := fun vs H Q _ => ∃ (b : Addr) (c s n : Int) (z : Str), vs = [.ref b, .str z] ∧ H b = some (box c s n) ∧ nameB z = true ∧ ∀ y H', BadS y → KpB b s H H' → Q (.str y) H'
section
variable {P : Program} {w : World} {K : PySem.W.Frag} {mg : Str → Option Value} {base : Heap}
theorem ok_badName {f : Addr} {fd : FuncData} (F : Fun K "_law_bad_name" "_law_bad_name" s_law_bad_name f fd) (T : Txt mg) (f_law_draw : Fn P w K mg base "_law_draw" P_law_draw [] 1 spDrawA) : FnOk P w K mg base CX0 2 f fd P_law_bad_name spBadName := by
  refine F.ok sc_law_bad_name (fun vs H Q E h => ?_) (fun cdv A outer s H vs Q E hr h => ?_)
  · obtain ⟨b, c, s, n, z, rfl, _⟩ := h
    rfl
  · obtain ⟨b, c, sa, n, z, rfl, hb, hn, k⟩ := h
    have zl := name_len hn
    have zs := name_small hn
    refine ⟨_, (pss_cons (ps_set (i := 2) sc_law_bad_name.nd rfl (Or.inl rfl) (pe_fn f_law_draw (hr.mono (by omega)) rfl (pa_cons (pv 0) (pa_cons pe_int pa_nil))))
    (pss_cons (ps_if (pt_cmpR op_eq (pv 2) pe_int (nomark _)) (pss_one (ps_ret pe_str)) pss_nil)
    (pss_cons (ps_if (pt_cmpR op_eq (pv 2) pe_int (nomark _)) (pss_one (ps_ret (pe_slice sl_str (pe_op o_catS (pv 1) pe_str) po_none (po_some pe_int)))) pss_nil)
    (pss_cons (ps_if (pt_cmpR op_eq (pv 2) pe_int (nomark _)) (pss_one (ps_ret (pe_op o_catS (pe_ix ix_str pe_str (pe_fn f_law_draw (hr.mono (by omega)) rfl (pa_cons (pv 0) (pa_cons pe_int pa_nil))) (fun _ _ => rfl)) (pe_slice sl_str (pv 1) (po_some pe_int) po_none)))) pss_nil)
    (pss_cons (ps_set (i := 3) sc_law_bad_name.nd rfl (Or.inl rfl) pe_str)
    (pss_cons (ps_set (i := 4) sc_law_bad_name.nd rfl (Or.inl rfl) (pe_fn f_law_draw (hr.mono (by omega)) rfl (pa_cons (pv 0) (pa_cons (pe_callB c_lenStr rfl T.b_len PySem.boot_len (pa_cons (pv 1) pa_nil)) pa_nil))))
    (pss_one (ps_ret (pe_op o_catS (pe_op o_catS (pe_slice sl_str (pv 1) po_none (po_some (pv 4))) (pe_ix ix_str (pv 3) (pe_fn f_law_draw (hr.mono (by omega)) rfl (pa_cons (pv 0) (pa_cons (pe_callB c_lenStr rfl T.b_len PySem.boot_len (pa_cons (pv 3) pa_nil)) pa_nil))) (fun _ _ => rfl))) (pe_slice sl_str (pv 1) (po_some (pe_op op_add (pv 4) pe_int)) po_none)))))))))), ?_⟩
    refine Bar.rStart (σ := [some (.ref b), some (.str z), none, none, none]) rfl ?_
    walk_at "rd"
    refine ⟨b, c, sa, n, 4, rfl, hb, by decide, by decide, fun r1 H1 l1 u1 ⟨K1, c1, n1, hb1⟩ => ?_⟩
    walk_at "rd"
    refine ite2 (fun h1 => ?_) (fun h1 => ?_)
    · walk_at "rd"
      exact k _ _ ⟨by decide +kernel, by decide +kernel, fun c hc => by cases hc⟩ ⟨K1, _, _, hb1⟩
    · walk_at "rd"
      refine ite2 (fun h2 => ?_) (fun h2 => ?_)
      · walk_at "rd"
        refine rCatS_ (Nat.le_trans (show _ ≤ 12 + 13 from Nat.add_le_add zl.2 (by decide +kernel)) (by decide)) ?_
        walk_at "rd"
        have ec := cut_to (z := z ++ ("abcdefghijklm" : Str)) (n := 13) (by decide)
        rw [cat_cps] at ec
        have l13 : (("abcdefghijklm" : Str)).cps.toList.length = 13 := by decide +kernel
        have sm13 : ∀ c ∈ (("abcdefghijklm" : Str)).cps.toList, c < 128 := by decide +kernel
        have ll : (cutS (z ++ ("abcdefghijklm" : Str)) none (some 13)).cps.toList.length = 13 := by
          rw [ec, List.length_take, List.length_append, l13]
          show min 13 _ = 13
          omega
        refine rSlS_ ?_ ?_
        · rw [len_cps, cat_cps, List.length_append, l13, ← len_cps]
          exact Nat.le_trans (show _ ≤ 25 by omega) (by decide)
        walk_at "rd"
        refine k _ _ ⟨nb_long (by rw [ll]; decide), by rw [len_cps, ll]; decide, fun c hc => ?_⟩ ⟨K1, _, _, hb1⟩
        rw [ec] at hc
        rcases List.mem_append.mp (List.mem_of_mem_take hc) with h | h
        · exact zs c h
        · exact Nat.lt_trans (sm13 c h) (by decide)
      · walk_at "rd"
        refine ite2 (fun h3 => ?_) (fun h3 => ?_)
        · walk_at "rd"
          refine ⟨b, c1, sa, n1, 10, rfl, hb1, by decide, by decide, fun r2 H2 l2 u2 ⟨K2, c2, n2, hb2⟩ => ?_⟩
          obtain ⟨ch, hch, hd⟩ := any_ix (l := digS.cps.toList) l2 (Int.lt_of_lt_of_le u2 (by decide +kernel))
          refine rIxS_ (by decide +kernel) hch ?_
          walk_at "rd"
          have ec := cut_from (z := z) (n := 1) (by decide)
          refine rSlS_ (Nat.le_trans (show _ ≤ 12 from zl.2) (by decide)) ?_
          have lc : (cutS z (some 1) none).cps.toList.length ≤ 12 := by
            rw [ec, List.length_drop, ← len_cps]
            omega
          refine rCatS_ (Nat.le_trans (show _ ≤ 1 + 12 from Nat.add_le_add (Nat.le_refl _) lc) (by decide)) ?_
          walk_at "rd"
          have ez : ((⟨#[ch]⟩ : Str) ++ cutS z (some 1) none).cps.toList = ch :: z.cps.toList.drop 1 := by
            rw [cat_cps, ec]
            rfl
          refine k _ _ ⟨nb_head ez (dig_not _ hd).1, ?_, fun c hc => ?_⟩ ⟨K1.trans K2, _, _, hb2⟩
          · rw [len_cps, ez, List.length_cons, List.length_drop, ← len_cps]
            omega
          · rw [ez] at hc
            rcases List.mem_cons.mp hc with e | h
            · rw [e]
              exact Nat.lt_trans (dig_not _ hd).2 (by decide)
            · exact zs c (List.mem_of_mem_drop h)
        · walk_at "rd"
          refine ⟨z, rfl, Nat.le_trans (show _ ≤ 12 from zl.2) (by decide), ?_⟩
          walk_at "rd"
          refine ⟨b, c1, sa, n1, z.length, rfl, hb1, by omega, Int.le_trans (show _ ≤ 12 by omega) (by decide), fun r2 H2 l2 u2 ⟨K2, c2, n2, hb2⟩ => ?_⟩
          walk_at "rd"
          have e1 := cut_to (z := z) (n := r2) l2
          have e2 := cut_from (z := z) (n := r2 + 1) (by omega)
          have z12 : z.length ≤ sizeLine := Nat.le_trans (show _ ≤ 12 from zl.2) (by decide)
          refine rSlS_ z12 ?_
          walk_at "rd"
          refine Bar.rLenStr_ (by decide +kernel) ?_
          walk_at "rd"
          refine ⟨b, c2, sa, n2, _, rfl, hb2, by decide +kernel, by decide +kernel, fun r3 H3 l3 u3 ⟨K3, c3, n3, hb3⟩ => ?_⟩
          refine rIxBad (by decide +kernel) (by decide +kernel) l3 u3 fun ch hd1 hd2 => ?_
          have la : (cutS z none (some r2)).cps.toList.length ≤ 12 := by
            rw [e1, List.length_take, ← len_cps]
            omega
          refine rCatS_ (Nat.le_trans (show _ ≤ 12 + 1 from Nat.add_le_add la (Nat.le_refl _)) (by decide)) ?_
          walk_at "rd"
          refine rSlS_ z12 ?_
          have lb : (cutS z (some (r2 + 1)) none).cps.toList.length ≤ 12 := by
            rw [e2, List.length_drop, ← len_cps]
            omega
          have ez : ((cutS z none (some r2) ++ (⟨#[ch]⟩ : Str)) ++ cutS z (some (r2 + 1)) none).cps.toList = (z.cps.toList.take r2.toNat ++ [ch]) ++ z.cps.toList.drop (r2 + 1).toNat := by
            rw [cat_cps, cat_cps, e1, e2]
          have ll : ((cutS z none (some r2) ++ (⟨#[ch]⟩ : Str)) ++ cutS z (some (r2 + 1)) none).length ≤ 25 := by
            rw [len_cps, cat_cps, cat_cps, List.length_append, List.length_append]
            show _ + 1 + _ ≤ 25
            omega
          refine rCatS_ ?_ ?_
          · have e : ((cutS z none (some r2) ++ (⟨#[ch]⟩ : Str)) ++ cutS z (some (r2 + 1)) none).length = (cutS z none (some r2) ++ (⟨#[ch]⟩ : Str)).length + (cutS z (some (r2 + 1)) none).length := by
              rw [len_cps, cat_cps, List.length_append]
              rfl
            rw [← e]
            exact Nat.le_trans ll (by decide)
          walk_at "rd"
          refine k _ _ ⟨nb_sign (c := ch) (by rw [ez]; simp) hd1, by omega, fun c hc => ?_⟩ ⟨(K1.trans K2).trans K3, _, _, hb3⟩
          rw [ez] at hc
          rcases List.mem_append.mp hc with h | h
          · rcases List.mem_append.mp h with h | h
            · exact zs c (List.mem_of_mem_take h)
            · rw [List.mem_singleton.mp h]
              exact Nat.lt_trans hd2 (by decide)
          · exact zs c (List.mem_of_mem_drop h)
end


/-! ### drawn texts -/
def spSigns : Sp := fun vs H Q _ => vs = [] ∧ ∀ z : Str, z.length = 94 → (∀ c ∈ z.cps.toList, c < 128) → Q (.str z) H
def spAnyName : Sp := fun vs H Q _ => ∃ (b : Addr) (c s n : Int), vs = [.ref b] ∧ H b = some (box c s n) ∧ ∀ z H', nameB z = true → KpB b s H H' → Q (.str z) H'
def spAllowed : Sp := fun vs H Q _ => ∃ z : Str, vs = [.str z] ∧ z.length ≤ 1000 ∧ Q (.bl (nameB z)) H
def spSign : Sp := fun vs H Q _ => ∃ (b : Addr) (c s n : Int), vs = [.ref b] ∧ H b = some (box c s n) ∧ ∀ (ch : Nat) H', ch < 128 → KpB b s H H' → Q (.str ⟨#[ch]⟩) H'
theorem nameB_iff {z : Str} : nameB z = true ↔ 1 ≤ z.length ∧ z.length ≤ 12 ∧ (∀ c ∈ z.cps.toList.take 1, c ∈ letL) ∧ ∀ c ∈ z.cps.toList, c ∈ sgnL := by
  rw [len_cps]
  unfold nameB nameL
  generalize z.cps.toList = l
  simp only [Bool.and_eq_true, decide_eq_true_eq]
  constructor
  · rintro ⟨⟨⟨h1, h2⟩, h3⟩, h4⟩
    refine ⟨h1, h2, fun c hc => ?_, fun c hc => of_decide_eq_true (List.all_eq_true.mp h4 c hc)⟩
    cases l with
    | nil => cases hc
    | cons a r =>
      rw [List.mem_singleton.mp hc]
      exact of_decide_eq_true h3
  · rintro ⟨h1, h2, h3, h4⟩
    refine ⟨⟨⟨h1, h2⟩, ?_⟩, List.all_eq_true.mpr fun c hc => decide_eq_true (h4 c hc)⟩
    cases l with
    | nil => cases h1
    | cons a r => exact decide_eq_true (h3 a (List.mem_singleton.mpr rfl))
section
variable {P : Program} {w : World} {K : PySem.W.Frag} {mg : Str → Option Value} {base : Heap}
theorem ok_signs {f : Addr} {fd : FuncData} (F : Fun K "_law_signs" "_law_signs" s_law_signs f fd) : FnOk P w K mg base CX0 1 f fd P_law_signs spSigns := by
  refine F.ok sc_law_signs (fun vs H Q E h => ?_) (fun cdv A outer s H vs Q E hr h => ?_)
  · obtain ⟨rfl, _⟩ := h
    rfl
  · obtain ⟨rfl, k⟩ := h
    refine ⟨_, (pss_cons (ps_set (i := 0) sc_law_signs.nd rfl (Or.inl rfl) pe_str)
    (pss_one (ps_ret (pe_op o_catS (pv 0) pe_str)))), ?_⟩
    refine Bar.rStart (σ := [none]) rfl ?_
    walk_at "rd"
    refine rCatS_ (by decide +kernel) ?_
    exact k _ (by decide +kernel) (by decide +kernel)
theorem ok_anyName {f : Addr} {fd : FuncData} (F : Fun K "_law_any_name" "_law_any_name" s_law_any_name f fd) (T : Txt mg) (f_law_draw : Fn P w K mg base "_law_draw" P_law_draw [] 1 spDrawA) : FnOk P w K mg base CX0 2 f fd P_law_any_name spAnyName := by
  refine F.ok sc_law_any_name (fun vs H Q E h => ?_) (fun cdv A outer s H vs Q E hr h => ?_)
  · obtain ⟨b, c, z, n, rfl, _⟩ := h
    rfl
  · obtain ⟨b, c, z, n, rfl, hb, k⟩ := h
    refine ⟨_, (pss_cons (ps_set (i := 1) sc_law_any_name.nd rfl (Or.inl rfl) pe_str)
    (pss_cons (ps_set (i := 2) sc_law_any_name.nd rfl (Or.inl rfl) (pe_ix ix_str (pv 1) (pe_fn f_law_draw (hr.mono (by omega)) rfl (pa_cons (pv 0) (pa_cons pe_int pa_nil))) (fun _ _ => rfl)))
    (pss_cons (ps_set (i := 3) sc_law_any_name.nd rfl (Or.inl rfl) pe_int)
    (pss_mid (ps_if (pt_cmpR op_gt (pe_fn f_law_draw (hr.mono (by omega)) rfl (pa_cons (pv 0) (pa_cons pe_int pa_nil))) pe_int (nomark _)) (pss_one (ps_set (i := 3) sc_law_any_name.nd rfl (Or.inl rfl) (pe_fn f_law_draw (hr.mono (by omega)) rfl (pa_cons (pv 0) (pa_cons pe_int pa_nil))))) pss_nil)
    (pss_cons (ps_for PassesOwn.never rfl  (pi_range1 rfl T.b_range (pa_cons (pv 3) pa_nil)) (pg_name (i := 4) sc_law_any_name.nd rfl (Or.inl rfl)) (pss_one (ps_set (i := 2) sc_law_any_name.nd rfl (Or.inl rfl) (pe_op o_catS (pv 2) (pe_ix ix_str (pe_op o_catS (pv 1) pe_str) (pe_fn f_law_draw (hr.mono (by omega)) rfl (pa_cons (pv 0) (pa_cons pe_int pa_nil))) (fun _ _ => rfl))))))
    (pss_one (ps_ret (pv 2)))))))), ?_⟩
    refine Bar.rStart (σ := [some (.ref b), none, none, none, none]) rfl ?_
    walk_at "rd"
    refine ⟨b, c, z, n, 26, rfl, hb, by decide, by decide, fun r1 H1 l1 u1 ⟨K1, c1, n1, hb1⟩ => ?_⟩
    obtain ⟨ch, hch, hlet⟩ := let_ix l1 u1
    refine rIxS_ (by decide +kernel) hch ?_
    walk_at "rd"
    refine ⟨fun σ H' => Kp b H H' ∧ (∃ c' n', H' b = some (box c' z n')) ∧ ∃ m : Nat, m ≤ 11 ∧ σ = [some (.ref b), some (.str "abcdefghijklmnopqrstuvwxyz"), some (.str ⟨#[ch]⟩), some (.int (m : Int)), none], ?_, ?_⟩
    · walk_at "rd"
      refine ⟨b, c1, z, n1, 3, rfl, hb1, by decide, by decide, fun r2 H2 l2 u2 ⟨K2, c2, n2, hb2⟩ => ?_⟩
      walk_at "rd"
      refine ite2 (fun h => ?_) (fun h => ?_)
      · walk_at "rd"
        refine ⟨b, c2, z, n2, 12, rfl, hb2, by decide, by decide, fun r3 H3 l3 u3 ⟨K3, c3, n3, hb3⟩ => ?_⟩
        walk_at "rd"
        exact ⟨(K1.trans K2).trans K3, ⟨_, _, hb3⟩, r3.toNat, by omega, by rw [Int.toNat_of_nonneg l3]⟩
      · walk_at "rd"
        exact ⟨K1.trans K2, ⟨_, _, hb2⟩, 11, by omega, rfl⟩
    rintro σ H2 ⟨K2, ⟨c2, n2, hb2⟩, m, hm, rfl⟩
    walk_at "rd"
    refine Bar.forR m (Int.toNat_natCast m) (fun j σ H' => Kp b H H' ∧ (∃ c' n', H' b = some (box c' z n')) ∧ ∃ (y : Str) (w : Option V), NameTo j y ∧ σ = [some (.ref b), some (.str "abcdefghijklmnopqrstuvwxyz"), some (.str y), some (.int (m : Int)), w]) (by omega) ⟨K2, ⟨_, _, hb2⟩, _, _, ⟨ch, [], rfl, hlet, rfl, fun d hd => by cases hd⟩, rfl⟩ ?_ ?_
    · rintro j σ H3 hj ⟨K3, ⟨c3, n3, hb3⟩, y, w, ny, rfl⟩
      have ly := ny.len
      walk_at "rd"
      refine rCatS_ (by decide +kernel) ?_
      walk_at "rd"
      rw [letters_sgn]
      refine ⟨b, c3, z, n3, 36, rfl, hb3, by decide, by decide, fun r3 H4 l3 u3 ⟨K4, c4, n4, hb4⟩ => ?_⟩
      obtain ⟨cs, hcs, hsg⟩ := sgn_ix l3 u3
      refine rIxS_ (by decide +kernel) hcs ?_
      refine rCatS_ (Nat.le_trans (show y.length + 1 ≤ 100 by omega) (by decide)) ?_
      walk_at "rd"
      exact ⟨K3.trans K4, ⟨_, _, hb4⟩, _, _, ny.more hsg, rfl⟩
    · rintro σ H3 ⟨K3, ⟨c3, n3, hb3⟩, y, w, ny, rfl⟩
      walk_at "rd"
      exact k y _ (ny.ok hm) ⟨K3, _, _, hb3⟩
theorem ok_allowed {f : Addr} {fd : FuncData} (F : Fun K "_law_allowed" "_law_allowed" s_law_allowed f fd) (T : Txt mg) : FnOk P w K mg base CX0 1 f fd P_law_allowed spAllowed := by
  refine F.ok sc_law_allowed (fun vs H Q E h => ?_) (fun cdv A outer s H vs Q E hr h => ?_)
  · obtain ⟨z, rfl, _⟩ := h
    rfl
  · obtain ⟨z, rfl, lz, k⟩ := h
    have sz : z.length ≤ sizeLine := Nat.le_trans lz (by decide)
    refine ⟨_, (pss_cons (ps_set (i := 1) sc_law_allowed.nd rfl (Or.inl rfl) pe_str)
    (pss_cons (ps_if (PW.pt (pw_or (pt_not (pt_chain op_le op_le pe_int (pe_callB c_lenStr rfl T.b_len PySem.boot_len (pa_cons (pv 0) pa_nil)) pe_int)) (pw_or1 (pt_cmpR op_ne (pe_m1 PySem.F.slot_str_strip PySem.F.type_str_strip mt_stripCS (pe_slice sl_str (pv 0) po_none (po_some pe_int)) (pv 1)) pe_str (nomark _))))) (pss_one (ps_ret pe_bl)) pss_nil)
    (pss_one (ps_ret (pe_cmpR op_eq (pe_m1 PySem.F.slot_str_strip PySem.F.type_str_strip mt_stripCS (pv 0) (pe_op o_catS (pv 1) pe_str)) pe_str (nomark _)))))), ?_⟩
    refine Bar.rStart (σ := [some (.str z), none]) rfl ?_
    walk_at "rd"
    refine Bar.rLenStr_ sz ?_
    walk_at "rd"
    refine ite2 (fun h1 => ?_) (fun h1 => ?_)
    · have l1 : 1 ≤ z.length := by have := of_decide_eq_true h1; omega
      walk_at "rd"
      refine ite2 (fun h2 => ?_) (fun h2 => ?_)
      · have l2 : ¬ z.length ≤ 12 := fun q => by
          have : (!decide ((z.length : Int) ≤ 12)) = true := h2
          rw [decide_eq_true (show (z.length : Int) ≤ 12 by omega)] at this
          cases this
        rw [if_pos rfl]
        have n0 : nameB z = false := Bool.eq_false_iff.mpr fun q => l2 (nameB_iff.mp q).2.1
        rw [n0] at k
        walk_at "rd"
        exact k
      · have l2 : z.length ≤ 12 := by
          by_cases q : z.length ≤ 12
          · exact q
          · exact absurd (show (!decide ((z.length : Int) ≤ 12)) = true by rw [decide_eq_false (by omega)]; rfl) h2
        walk_at "rd"
        refine rSlS_ sz ?_
        walk_at "rd"
        have ec := cut_to (z := z) (n := 1) (by decide)
        refine rStripC_ ?_ ?_
        · rw [len_cps, ec, List.length_take]
          exact Nat.le_trans (show _ ≤ 1 from Nat.min_le_left _ _) (by decide)
        walk_at "rd"
        rw [dStr]
        have head : (Txt.stripChars (cutS z none (some 1)) ("abcdefghijklmnopqrstuvwxyz" : Str) = ("" : Str)) ↔ ∀ c ∈ z.cps.toList.take 1, c ∈ letL := by
          rw [strip_all, ec]
          rfl
        refine ite2 (fun h3 => ?_) (fun h3 => ?_)
        · have nh : ¬ ∀ c ∈ z.cps.toList.take 1, c ∈ letL := fun q => by
            rw [decide_eq_true (head.mpr q)] at h3
            cases h3
          have n0 : nameB z = false := Bool.eq_false_iff.mpr fun q => nh (nameB_iff.mp q).2.2.1
          rw [n0] at k
          walk_at "rd"
          exact k
        · have nh : ∀ c ∈ z.cps.toList.take 1, c ∈ letL := by
            by_cases q : Txt.stripChars (cutS z none (some 1)) ("abcdefghijklmnopqrstuvwxyz" : Str) = ("" : Str)
            · exact head.mp q
            · exact absurd (show (!decide (Txt.stripChars (cutS z none (some 1)) ("abcdefghijklmnopqrstuvwxyz" : Str) = ("" : Str))) = true by rw [decide_eq_false q]; rfl) h3
          walk_at "rd"
          refine rCatS_ (by decide +kernel) ?_
          rw [letters_sgn]
          refine rStripC_ sz ?_
          walk_at "rd"
          rw [dStr]
          have e : decide (Txt.stripChars z signsS = ("" : Str)) = nameB z := by
            rw [Bool.eq_iff_iff, decide_eq_true_eq, strip_all, nameB_iff]
            exact ⟨fun q => ⟨l1, l2, nh, q⟩, fun q => q.2.2.2⟩
          rw [e]
          exact k
    · have n0 : nameB z = false := Bool.eq_false_iff.mpr fun q => h1 (decide_eq_true (by have := (nameB_iff.mp q).1; omega))
      rw [n0] at k
      walk_at "rd"
      exact k
theorem ok_sign {f : Addr} {fd : FuncData} (F : Fun K "_law_sign" "_law_sign" s_law_sign f fd) (T : Txt mg) (f_law_draw : Fn P w K mg base "_law_draw" P_law_draw [] 1 spDrawA) (f_law_signs : Fn P w K mg base "_law_signs" P_law_signs [] 1 spSigns) : FnOk P w K mg base CX0 2 f fd P_law_sign spSign := by
  refine F.ok sc_law_sign (fun vs H Q E h => ?_) (fun cdv A outer s H vs Q E hr h => ?_)
  · obtain ⟨b, c, z, n, rfl, _⟩ := h
    rfl
  · obtain ⟨b, c, z, n, rfl, hb, k⟩ := h
    refine ⟨_, (pss_cons (ps_if (pt_cmpR op_eq (pe_fn f_law_draw (hr.mono (by omega)) rfl (pa_cons (pv 0) (pa_cons pe_int pa_nil))) pe_int (nomark _)) (pss_one (ps_ret (pe_ix ix_str pe_str (pe_fn f_law_draw (hr.mono (by omega)) rfl (pa_cons (pv 0) (pa_cons pe_int pa_nil))) (fun _ _ => rfl)))) pss_nil)
    (pss_one (ps_ret (pe_ix ix_str (pe_fn0 f_law_signs (hr.mono (by omega)) rfl) (pe_fn f_law_draw (hr.mono (by omega)) rfl (pa_cons (pv 0) (pa_cons pe_int pa_nil))) (fun _ _ => rfl))))), ?_⟩
    refine Bar.rStart (σ := [some (.ref b)]) rfl ?_
    walk_at "rd"
    refine ⟨b, c, z, n, 2, rfl, hb, by decide, by decide, fun r1 H1 l1 u1 ⟨K1, c1, n1, hb1⟩ => ?_⟩
    walk_at "rd"
    refine ite2 (fun h => ?_) (fun h => ?_)
    · walk_at "rd"
      refine ⟨b, c1, z, n1, 4, rfl, hb1, by decide, by decide, fun r2 H2 l2 u2 ⟨K2, c2, n2, hb2⟩ => ?_⟩
      obtain ⟨ch, hch, hm⟩ := any_ix (l := ("_ .-" : Str).cps.toList) l2 (Int.lt_of_lt_of_le u2 (by decide +kernel))
      refine rIxS_ (by decide +kernel) hch ?_
      walk_at "rd"
      exact k ch _ ((show ∀ c ∈ ("_ .-" : Str).cps.toList, c < 128 by decide +kernel) ch hm) ⟨K1.trans K2, _, _, hb2⟩
    · walk_at "rd"
      refine ⟨rfl, fun y ly sy => ?_⟩
      walk_at "rd"
      refine ⟨b, c1, z, n1, 94, rfl, hb1, by decide, by decide, fun r2 H2 l2 u2 ⟨K2, c2, n2, hb2⟩ => ?_⟩
      obtain ⟨ch, hch, hm⟩ := any_ix (l := y.cps.toList) l2 (by rw [← len_cps, ly]; exact u2)
      refine rIxS_ (by rw [ly]; decide) hch ?_
      walk_at "rd"
      exact k ch _ (sy ch hm) ⟨K1.trans K2, _, _, hb2⟩
end

end Lw
namespace Lw
open PySem L2 Bar
/-! ### other names, halts, what occurs twice -/
structure SmS (n : Nat) (y : Str) : Prop where
  len : y.length ≤ n
  small : ∀ c ∈ y.cps.toList, c < 128
theorem SmS.cat {n m : Nat} {a b : Str} (h : SmS n a) (g : SmS m b) : SmS (n + m) (a ++ b) := ⟨by
  rw [len_cps, cat_cps, List.length_append]
  exact Nat.add_le_add h.len g.len, fun c hc => by
  rw [cat_cps] at hc
  rcases List.mem_append.mp hc with q | q
  · exact h.small c q
  · exact g.small c q⟩
theorem SmS.cut {n : Nat} {a : Str} {lo hi : Option Int} (h : SmS n a) : SmS n (cutS a lo hi) := ⟨by
  have := h.len
  rw [len_cps, cut_cps, List.length_take, List.length_drop, ← len_cps]
  omega, fun c hc => by
  rw [cut_cps] at hc
  exact h.small c (List.mem_of_mem_drop (List.mem_of_mem_take hc))⟩
theorem SmS.cutTo {n : Nat} {a : Str} {i : Int} (h : SmS n a) (h0 : 0 ≤ i) : SmS i.toNat (cutS a none (some i)) := ⟨by
  rw [len_cps, cut_to h0, List.length_take]
  exact Nat.min_le_left _ _, (h.cut).small⟩
theorem SmS.one {c : Nat} (h : c < 128) : SmS 1 ⟨#[c]⟩ := ⟨Nat.le_refl _, fun d hd => by
  rw [show (⟨#[c]⟩ : Str).cps.toList = [c] from rfl] at hd
  rw [List.mem_singleton.mp hd]
  exact h⟩
theorem SmS.name {z : Str} (h : nameB z = true) : SmS 12 z := ⟨(name_len h).2, fun c hc => sgn_small c (name_sgn h c hc)⟩
theorem SmS.mono {n m : Nat} {a : Str} (h : SmS n a) (l : n ≤ m) : SmS m a := ⟨Nat.le_trans h.len l, h.small⟩
theorem SmS.sz {n m : Nat} {a b : Str} (h : SmS n a) (g : SmS m b) (l : n + m ≤ 1000) : a.length + b.length ≤ sizeLine := Nat.le_trans (Nat.add_le_add h.len g.len) (Nat.le_trans l (by decide))
theorem SmS.s {n : Nat} {a : Str} (h : SmS n a) (l : n ≤ 1000) : a.length ≤ sizeLine := Nat.le_trans h.len (Nat.le_trans l (by decide))
theorem joinL0 : ∀ l : List (List Nat), TL.joinL [] l = l.flatten
  | [] => rfl
  | [p] => by
    show p = p ++ []
    rw [List.append_nil]
  | p :: q :: r => by
    show p ++ ([] ++ TL.joinL [] (q :: r)) = p ++ (q :: r).flatten
    rw [List.nil_append, joinL0 (q :: r)]
theorem join0 (us : List Str) : (Txt.join ("" : Str) us).cps.toList = (us.map TL.tl).flatten := by
  show TL.tl (Txt.join ("" : Str) us) = _
  rw [TL.join_eq, TL.tl_join]
  exact joinL0 _
theorem SmS.join : ∀ {us : List Str}, (∀ u ∈ us, SmS 1 u) → SmS us.length (Txt.join ("" : Str) us)
  | [], _ => ⟨by rw [len_cps, join0]; exact Nat.le_refl _, fun c hc => by rw [join0] at hc; cases hc⟩
  | u :: r, h => by
    have i := SmS.join (us := r) fun x hx => h x (List.mem_cons_of_mem _ hx)
    have hu := h u (List.mem_cons_self ..)
    have e : (Txt.join ("" : Str) (u :: r)).cps.toList = (u ++ Txt.join ("" : Str) r).cps.toList := by
      rw [cat_cps, join0, join0, List.map_cons, List.flatten_cons]
    rw [str_ext e, List.length_cons, Nat.add_comm]
    exact hu.cat i
theorem sum1 : ∀ {us : List Str}, (∀ u ∈ us, SmS 1 u) → (us.map (·.length)).sum ≤ us.length
  | [], _ => Nat.le_refl _
  | u :: r, h => by
    have i := sum1 (us := r) fun x hx => h x (List.mem_cons_of_mem _ hx)
    have hu := (h u (List.mem_cons_self ..)).len
    rw [List.map_cons, List.sum_cons, List.length_cons]
    omega
def spOther : Sp := fun vs H Q _ => ∃ (b : Addr) (c s n : Int) (z : Str), vs = [.ref b, .str z] ∧ H b = some (box c s n) ∧ nameB z = true ∧ ∀ y H', SmS 60 y → KpB b s H H' → Q (.str y) H'
abbrev lL : List Nat := ("abcfghij" : Str).cps.toList
def haltS (a k : Nat) : Str := (cutS ("kettledrum42" : Str) none (some (a : Int)) ++ (⟨#[lL.getD k 0]⟩ : Str)) ++ cutS ("kettledrum42" : Str) (some ((a : Int) + 1)) none
theorem halt_nodup : ∀ a : Nat, a < 12 → ((List.range 8).map (haltS a)).Nodup := by decide +kernel
theorem halt_name : ∀ a : Nat, a < 12 → ∀ k : Nat, k < 8 → nameB (haltS a k) = true := by decide +kernel
theorem l_ix {k : Nat} (h : k < 8) : atI lL (k : Int) = some (lL.getD k 0) := by
  have : ∀ k : Nat, k < 8 → lL[k]? = some (lL.getD k 0) := by decide +kernel
  exact atI_nat (this k h)
theorem hm_at {r : Int} (h0 : 0 ≤ r) (h1 : r < 6) : ∃ v : Nat, atI [V.int 0, V.int 1, V.int 2, V.int 3, V.int 5, V.int 8] r = some (.int (v : Int)) ∧ v ≤ 8 := by
  have h : r = 0 ∨ r = 1 ∨ r = 2 ∨ r = 3 ∨ r = 4 ∨ r = 5 := by omega
  rcases h with h | h | h | h | h | h <;> subst h
  · exact ⟨0, rfl, by decide⟩
  · exact ⟨1, rfl, by decide⟩
  · exact ⟨2, rfl, by decide⟩
  · exact ⟨3, rfl, by decide⟩
  · exact ⟨5, rfl, by decide⟩
  · exact ⟨8, rfl, by decide⟩
def spHalts : Sp := fun vs H Q _ => ∃ (b : Addr) (c s n : Int), vs = [.ref b] ∧ H b = some (box c s n) ∧ ∀ (p : Addr) (us : List Str) H', KpB b s H H' → H p = none → H' p = some (.lst (us.map V.str)) → us.Nodup → us.length ≤ 8 → (∀ u ∈ us, nameB u = true) → Q (.ref p) H'
def spFirst : Sp := fun vs H Q _ => ∃ (a : Addr) (us : List Str), vs = [.ref a] ∧ H a = some (.lst (us.map V.str)) ∧ us.length ≤ 1000 ∧ Q (sV (twi [] us)) H
theorem first_at : ∀ {us : List Str} {i : Nat} {z : Str}, us[i]? = some z → ∃ j, j ≤ i ∧ us[j]? = some z ∧ ∀ m, m < j → us[m]? ≠ some z
  | [], i, z, h => by cases h
  | a :: r, 0, z, h => ⟨0, Nat.le_refl _, h, fun m hm => absurd hm (Nat.not_lt_zero _)⟩
  | a :: r, i + 1, z, h => by
    by_cases e : a = z
    · exact ⟨0, Nat.zero_le _, by rw [e]; rfl, fun m hm => absurd hm (Nat.not_lt_zero _)⟩
    · obtain ⟨j, h1, h2, h3⟩ := first_at (us := r) (i := i) (z := z) h
      refine ⟨j + 1, by omega, h2, fun m hm => ?_⟩
      cases m with
      | zero =>
        intro q
        exact e (Option.some.inj q)
      | succ m => exact h3 m (by omega)
section
variable {P : Program} {w : World} {K : PySem.W.Frag} {mg : Str → Option Value} {base : Heap}
theorem ok_other {f : Addr} {fd : FuncData} (F : Fun K "_law_other_name" "_law_other_name" s_law_other_name f fd) (T : Txt mg) (f_law_draw : Fn P w K mg base "_law_draw" P_law_draw [] 1 spDrawA) (f_law_signs : Fn P w K mg base "_law_signs" P_law_signs [] 1 spSigns) (f_law_any_name : Fn P w K mg base "_law_any_name" P_law_any_name [] 2 spAnyName) (f_law_sign : Fn P w K mg base "_law_sign" P_law_sign [] 2 spSign) : FnOk P w K mg base CX0 3 f fd P_law_other_name spOther := by
  refine F.ok sc_law_other_name (fun vs H Q E h => ?_) (fun cdv A outer s H vs Q E hr h => ?_)
  · obtain ⟨b, c, s, n, z, rfl, _⟩ := h
    rfl
  · obtain ⟨b, c, sa, n, z, rfl, hb, hn, k⟩ := h
    have zl := name_len hn
    have zz := SmS.name hn
    refine ⟨_, (pss_cons (ps_set (i := 2) sc_law_other_name.nd rfl (Or.inl rfl) (pe_fn f_law_draw (hr.mono (by omega)) rfl (pa_cons (pv 0) (pa_cons pe_int pa_nil))))
    (pss_cons (ps_if (pt_cmpR op_eq (pv 2) pe_int (nomark _)) (pss_one (ps_ret (pe_m1 PySem.F.slot_str_join PySem.F.type_str_join mt_joinS pe_str (pe_lc (own := [("_law_k", 4)]) (g := gName 4) rfl sc_law_other_name.nd (pi_range1 rfl T.b_range (pa_cons (pe_fn f_law_draw (hr.mono (by omega)) rfl (pa_cons (pv 0) (pa_cons pe_int pa_nil))) pa_nil)) (blkOk_by (own := [("_law_k", 4)]) (N := N_law_other_name) (sc := defScope s_law_other_name) (by decide +kernel)) (fun _ _ _ _ _ => pg_name (i := 4) sc_law_other_name.nd rfl (Or.inl rfl)) (fun _ _ _ _ _ => pts_nil) (fun _ _ _ _ _ => (pe_ix ix_str (pe_fn0 f_law_signs (hr.mono (by omega)) rfl) (pe_fn f_law_draw (hr.mono (by omega)) rfl (pa_cons (pv 0) (pa_cons pe_int pa_nil))) (fun _ _ => rfl))))))) pss_nil)
    (pss_cons (ps_if (pt_cmpR op_eq (pv 2) pe_int (nomark _)) (pss_one (ps_ret (pe_fn f_law_any_name (hr.mono (by omega)) rfl (pa_cons (pv 0) pa_nil)))) pss_nil)
    (pss_cons (ps_if (pt_cmpR op_eq (pv 2) pe_int (nomark _)) (pss_one (ps_ret (pe_slice sl_str (pe_op o_catS (pv 1) pe_str) po_none (po_some (pe_op op_add pe_int (pe_fn f_law_draw (hr.mono (by omega)) rfl (pa_cons (pv 0) (pa_cons pe_int pa_nil)))))))) pss_nil)
    (pss_cons (ps_if (pt_cmpR op_eq (pv 2) pe_int (nomark _)) (pss_one (ps_ret (pe_op o_catS (pe_ix ix_str pe_str (pe_fn f_law_draw (hr.mono (by omega)) rfl (pa_cons (pv 0) (pa_cons pe_int pa_nil))) (fun _ _ => rfl)) (pe_slice sl_str (pv 1) (po_some pe_int) po_none)))) pss_nil)
    (pss_cons (ps_if (pt_cmpR op_eq (pv 2) pe_int (nomark _)) (pss_cons (ps_set (i := 3) sc_law_other_name.nd rfl (Or.inl rfl) (pe_fn f_law_draw (hr.mono (by omega)) rfl (pa_cons (pv 0) (pa_cons (pe_callB c_lenStr rfl T.b_len PySem.boot_len (pa_cons (pv 1) pa_nil)) pa_nil))))
    (pss_one (ps_ret (pe_op o_catS (pe_op o_catS (pe_slice sl_str (pv 1) po_none (po_some (pv 3))) (pe_fn f_law_sign (hr.mono (by omega)) rfl (pa_cons (pv 0) pa_nil))) (pe_slice sl_str (pv 1) (po_some (pe_op op_add (pv 3) pe_int)) po_none))))) pss_nil)
    (pss_cons (ps_set (i := 3) sc_law_other_name.nd rfl (Or.inl rfl) (pe_fn f_law_draw (hr.mono (by omega)) rfl (pa_cons (pv 0) (pa_cons (pe_op op_add (pe_callB c_lenStr rfl T.b_len PySem.boot_len (pa_cons (pv 1) pa_nil)) pe_int) pa_nil))))
    (pss_one (ps_ret (pe_op o_catS (pe_op o_catS (pe_slice sl_str (pv 1) po_none (po_some (pv 3))) (pe_fn f_law_sign (hr.mono (by omega)) rfl (pa_cons (pv 0) pa_nil))) (pe_slice sl_str (pv 1) (po_some (pv 3)) po_none))))))))))), ?_⟩
    refine Bar.rStart (σ := [some (.ref b), some (.str z), none, none, none]) rfl ?_
    walk_at "rd"
    refine ⟨b, c, sa, n, 6, rfl, hb, by decide, by decide, fun r1 H1 l1 u1 ⟨K1, c1, n1, hb1⟩ => ?_⟩
    walk_at "rd"
    refine ite2 (fun h1 => ?_) (fun h1 => ?_)
    · walk_at "rd"
      refine ⟨b, c1, sa, n1, 41, rfl, hb1, by decide, by decide, fun r2 H2 l2 u2 ⟨K2, c2, n2, hb2⟩ => ?_⟩
      obtain ⟨m, rfl⟩ : ∃ m : Nat, r2 = m := ⟨r2.toNat, by omega⟩
      walk_at "rd"
      refine Bar.lcR (τ := [some (.ref b), some (.str z), some (.int r1), none, none]) m (Int.toNat_natCast m) rfl (by omega) fun D hD => ⟨fun i H' => Kp b H H' ∧ (∃ c n, H' b = some (box c sa n)) ∧ ∃ us : List Str, us.length = i ∧ H' D = some (.lst (us.map V.str)) ∧ ∀ u ∈ us, SmS 1 u, ⟨(K1.trans K2).trans (Kp.new hD), ⟨_, _, Bar.lkNew hD hb2⟩, [], rfl, upd_same, fun x hx => by cases hx⟩, ?_, ?_⟩
      · rintro i H3 hi ⟨K3, ⟨c3, n3, hb3⟩, us, lus, hD3, sm⟩
        have nDb : D ≠ b := fun e => by
          rw [e, hb2] at hD
          cases hD
        walk_at "rd"
        refine ⟨rfl, ?_⟩
        walk_at "rd"
        refine ⟨rfl, fun y ly sy => ?_⟩
        walk_at "rd"
        refine ⟨b, c3, sa, n3, 94, rfl, hb3, by decide, by decide, fun r4 H4 l4 u4 ⟨K4, c4, n4, hb4⟩ => ?_⟩
        obtain ⟨ch, hch, hm⟩ := any_ix (l := y.cps.toList) l4 (by rw [← len_cps, ly]; exact u4)
        refine rIxS_ (by rw [ly]; decide) hch ?_
        refine ⟨_, K4 _ _ nDb hD3, Bar.szLt (by rw [List.length_map]; omega), fun a' o' na e => ?_, ⟨_, _, Bar.lkNe nDb.symm hb4⟩, us ++ [⟨#[ch]⟩], by rw [List.length_append, lus]; rfl, by rw [upd_same, List.map_append]; rfl, fun u hu => ?_⟩
        · have nd' : a' ≠ D := fun q => by
            rw [q] at e
            rw [(K1.trans K2) _ _ nDb e] at hD
            cases hD
          rw [upd_ne nd']
          exact (K3.trans K4) _ _ na e
        · rcases List.mem_append.mp hu with hu | hu
          · exact sm u hu
          · rw [List.mem_singleton.mp hu]
            exact SmS.one (sy ch hm)
      · rintro H3 ⟨K3, ⟨c3, n3, hb3⟩, us, lus, hD3, sm⟩
        walk_at "rd"
        refine rJoinS_ us (.inl (SqL.of hD3)) ?_ ?_
        · have := sum1 sm
          have e0 : ("" : Str).length = 0 := by decide +kernel
          rw [e0]
          omega
        exact k _ _ ((SmS.join sm).mono (by omega)) ⟨K3, _, _, hb3⟩
    walk_at "rd"
    refine ite2 (fun h2 => ?_) (fun h2 => ?_)
    · walk_at "rd"
      refine ⟨b, c1, sa, n1, rfl, hb1, fun y H2 hy ⟨K2, c2, n2, hb2⟩ => ?_⟩
      exact k _ _ ((SmS.name hy).mono (by decide)) ⟨K1.trans K2, _, _, hb2⟩
    walk_at "rd"
    refine ite2 (fun h3 => ?_) (fun h3 => ?_)
    · have s26 : SmS 26 ("abcdefghijklm0123456789nop" : Str) := ⟨by decide +kernel, by decide +kernel⟩
      walk_at "rd"
      refine rCatS_ (zz.sz s26 (by decide)) ?_
      walk_at "rd"
      refine ⟨b, c1, sa, n1, 13, rfl, hb1, by decide, by decide, fun r2 H2 l2 u2 ⟨K2, c2, n2, hb2⟩ => ?_⟩
      walk_at "rd"
      refine rSlS_ ((zz.cat s26).s (by decide)) ?_
      walk_at "rd"
      exact k _ _ ((zz.cat s26).cut.mono (by decide)) ⟨K1.trans K2, _, _, hb2⟩
    walk_at "rd"
    refine ite2 (fun h4 => ?_) (fun h4 => ?_)
    · walk_at "rd"
      refine ⟨b, c1, sa, n1, 10, rfl, hb1, by decide, by decide, fun r2 H2 l2 u2 ⟨K2, c2, n2, hb2⟩ => ?_⟩
      obtain ⟨ch, hch, hd⟩ := any_ix (l := digS.cps.toList) l2 (Int.lt_of_lt_of_le u2 (by decide +kernel))
      refine rIxS_ (by decide +kernel) hch ?_
      walk_at "rd"
      refine rSlS_ (zz.s (by decide)) ?_
      have s1 := SmS.one (dig_not _ hd).2
      refine rCatS_ (s1.sz zz.cut (by decide)) ?_
      exact k _ _ ((s1.cat zz.cut).mono (by decide)) ⟨K1.trans K2, _, _, hb2⟩
    walk_at "rd"
    refine ite2 (fun h5 => ?_) (fun h5 => ?_)
    · walk_at "rd"
      refine Bar.rLenStr_ (zz.s (by decide)) ?_
      walk_at "rd"
      refine ⟨b, c1, sa, n1, z.length, rfl, hb1, by omega, Int.le_trans (show _ ≤ 12 by omega) (by decide), fun r2 H2 l2 u2 ⟨K2, c2, n2, hb2⟩ => ?_⟩
      walk_at "rd"
      refine rSlS_ (zz.s (by decide)) ?_
      walk_at "rd"
      refine ⟨b, c2, sa, n2, rfl, hb2, fun ch H3 hc ⟨K3, c3, n3, hb3⟩ => ?_⟩
      have s1 := SmS.one hc
      refine rCatS_ (zz.cut.sz s1 (by decide)) ?_
      walk_at "rd"
      refine rSlS_ (zz.s (by decide)) ?_
      refine rCatS_ ((zz.cut.cat s1).sz zz.cut (by decide)) ?_
      exact k _ _ (((zz.cut.cat s1).cat zz.cut).mono (by decide)) ⟨(K1.trans K2).trans K3, _, _, hb3⟩
    walk_at "rd"
    refine Bar.rLenStr_ (zz.s (by decide)) ?_
    walk_at "rd"
    refine ⟨b, c1, sa, n1, z.length + 1, rfl, hb1, by omega, Int.le_trans (show _ ≤ 13 by omega) (by decide), fun r2 H2 l2 u2 ⟨K2, c2, n2, hb2⟩ => ?_⟩
    walk_at "rd"
    refine rSlS_ (zz.s (by decide)) ?_
    walk_at "rd"
    refine ⟨b, c2, sa, n2, rfl, hb2, fun ch H3 hc ⟨K3, c3, n3, hb3⟩ => ?_⟩
    have s1 := SmS.one hc
    refine rCatS_ (zz.cut.sz s1 (by decide)) ?_
    walk_at "rd"
    refine rSlS_ (zz.s (by decide)) ?_
    refine rCatS_ ((zz.cut.cat s1).sz zz.cut (by decide)) ?_
    exact k _ _ (((zz.cut.cat s1).cat zz.cut).mono (by decide)) ⟨(K1.trans K2).trans K3, _, _, hb3⟩
theorem ok_halts {f : Addr} {fd : FuncData} (F : Fun K "_law_halts" "_law_halts" s_law_halts f fd) (T : Txt mg) (f_law_draw : Fn P w K mg base "_law_draw" P_law_draw [] 1 spDrawA) (f_law_name : Fn P w K mg base "_law_name" P_law_name [] 2 spName) : FnOk P w K mg base CX0 3 f fd P_law_halts spHalts := by
  refine F.ok sc_law_halts (fun vs H Q E h => ?_) (fun cdv A outer s H vs Q E hr h => ?_)
  · obtain ⟨b, c, s, n, rfl, _⟩ := h
    rfl
  · obtain ⟨b, c, sa, n, rfl, hb, k⟩ := h
    refine ⟨_, (pss_cons (ps_set (i := 1) sc_law_halts.nd rfl (Or.inl rfl) (pe_ix ix_tup (pe_tup (pa_cons pe_int (pa_cons pe_int (pa_cons pe_int (pa_cons pe_int (pa_cons pe_int (pa_cons pe_int pa_nil))))))) (pe_fn f_law_draw (hr.mono (by omega)) rfl (pa_cons (pv 0) (pa_cons pe_int pa_nil))) (fun _ _ => rfl)))
    (pss_cons (ps_if (pt_cmpR op_eq (pe_fn f_law_draw (hr.mono (by omega)) rfl (pa_cons (pv 0) (pa_cons pe_int pa_nil))) pe_int (nomark _)) (pss_cons (ps_set (i := 2) sc_law_halts.nd rfl (Or.inr rfl) (pe_fn f_law_draw (hr.mono (by omega)) rfl (pa_cons (pv 0) (pa_cons pe_int pa_nil))))
    (pss_cons (ps_set (i := 3) sc_law_halts.nd rfl (Or.inr rfl) pe_str)
    (pss_one (ps_ret (pe_lc (own := [("_law_k", 5)]) (g := gName 5) rfl sc_law_halts.nd (pi_range1 rfl T.b_range (pa_cons (pv 1) pa_nil)) (blkOk_by (own := [("_law_k", 5)]) (N := N_law_halts) (sc := defScope s_law_halts) (by decide +kernel)) (fun _ _ _ _ _ => pg_name (i := 5) sc_law_halts.nd rfl (Or.inl rfl)) (fun _ _ _ _ _ => pts_nil) (fun _ _ _ _ _ => (pe_op o_catS (pe_op o_catS (pe_slice sl_str (pv 3) po_none (po_some (pv 2))) (pe_ix ix_str pe_str (pv 5) (fun _ _ => rfl))) (pe_slice sl_str (pv 3) (po_some (pe_op op_add (pv 2) pe_int)) po_none)))))))) pss_nil)
    (pss_cons (ps_set (i := 4) sc_law_halts.nd rfl (Or.inr rfl) (pe_lst pa_nil))
    (pss_one (ps_ret (pe_lc (own := [("_law_k", 5)]) (g := gName 5) rfl sc_law_halts.nd (pi_range1 rfl T.b_range (pa_cons (pv 1) pa_nil)) (blkOk_by (own := [("_law_k", 5)]) (N := N_law_halts) (sc := defScope s_law_halts) (by decide +kernel)) (fun _ _ _ _ _ => pg_name (i := 5) sc_law_halts.nd rfl (Or.inl rfl)) (fun _ _ _ _ _ => pts_nil) (fun _ _ _ _ _ => (pe_fn f_law_name (hr.mono (by omega)) rfl (pa_cons (pv 0) (pa_cons (pv 4) pa_nil)))))))))), ?_⟩
    refine Bar.rStart (σ := [some (.ref b), none, none, none, none, none]) rfl ?_
    walk_at "rd"
    intro tq htq
    walk_at "rd"
    have nqb : tq ≠ b := fun e => by
      rw [e, hb] at htq
      cases htq
    refine ⟨b, c, sa, n, 6, rfl, Bar.lkNew htq hb, by decide, by decide, fun r1 H1 l1 u1 ⟨K1, c1, n1, hb1⟩ => ?_⟩
    obtain ⟨m, hm, m8⟩ := hm_at l1 u1
    refine Bar.rIxT_ (SqT.of (K1 _ _ nqb upd_same)) hm ?_
    have K01 : Kp b H H1 := (Kp.new htq).trans K1
    clear K1 htq
    walk_at "rd"
    refine ⟨b, c1, sa, n1, 2, rfl, hb1, by decide, by decide, fun r2 H2 l2 u2 ⟨K2, c2, n2, hb2⟩ => ?_⟩
    have K02 := K01.trans K2
    clear K01 K2 hb1
    walk_at "rd"
    refine ite2 (fun h1 => ?_) (fun h1 => ?_)
    · walk_at "rd"
      refine ⟨b, c2, sa, n2, 12, rfl, hb2, by decide, by decide, fun r3 H3 l3 u3 ⟨K3, c3, n3, hb3⟩ => ?_⟩
      have K03 := K02.trans K3
      obtain ⟨a, rfl⟩ : ∃ a : Nat, r3 = a := ⟨r3.toNat, by omega⟩
      have a12 : a < 12 := by omega
      have sk : SmS 12 ("kettledrum42" : Str) := ⟨by decide +kernel, by decide +kernel⟩
      walk_at "rd"
      refine Bar.lcR (τ := [some (.ref b), some (.int (m : Int)), some (.int (a : Int)), some (.str "kettledrum42"), none, none]) m (Int.toNat_natCast m) rfl (by omega) fun D hD => ⟨fun i H' => Same H3 H' ∧ H' D = some (.lst (((List.range i).map (haltS a)).map V.str)), ⟨fun _ _ e => Bar.lkNew hD e, upd_same⟩, ?_, ?_⟩
      · rintro i H4 hi ⟨S4, hD4⟩
        walk_at "rd"
        refine ⟨rfl, ?_⟩
        walk_at "rd"
        refine rSlS_ (sk.s (by decide)) ?_
        walk_at "rd"
        refine rIxS_ (by decide +kernel) (l_ix (k := i) (by omega)) ?_
        have s1 : SmS 1 (⟨#[lL.getD i 0]⟩ : Str) := SmS.one ((show ∀ k : Nat, k < 8 → lL.getD k 0 < 128 by decide +kernel) i (by omega))
        refine rCatS_ (sk.cut.sz s1 (by decide)) ?_
        walk_at "rd"
        refine rSlS_ (sk.s (by decide)) ?_
        refine rCatS_ ((sk.cut.cat s1).sz sk.cut (by decide)) ?_
        refine ⟨_, hD4, Bar.szLt (by rw [List.length_map, List.length_map, List.length_range]; omega), fun a' o' e => ?_, ?_⟩
        · rw [upd_ne (ne_of_none e hD)]
          exact S4 _ _ e
        · rw [upd_same, List.range_succ, List.map_append, List.map_append]
          rfl
      · rintro H4 ⟨S4, hD4⟩
        walk_at "rd"
        have free : H D = none := by
          cases e : H D with
          | none => rfl
          | some o' =>
            have nb : D ≠ b := fun q => by
              rw [q, hb3] at hD
              cases hD
            rw [K03 _ _ nb e] at hD
            cases hD
        refine k D _ _ ⟨K03.trans (Kp.of_same S4), _, _, S4 _ _ hb3⟩ free hD4 ?_ (by rw [List.length_map, List.length_range]; exact m8) fun u hu => ?_
        · have e : (List.range m).map (haltS a) = ((List.range 8).map (haltS a)).take m := by
            rw [← List.map_take, List.take_range, Nat.min_eq_left m8]
          rw [e]
          exact (halt_nodup a a12).sublist (List.take_sublist _ _)
        · obtain ⟨j, hj, rfl⟩ := List.mem_map.mp hu
          exact halt_name a a12 j (by have := List.mem_range.mp hj; omega)
    · walk_at "rd"
      intro u hu
      have nub : u ≠ b := fun e => by
        rw [e, hb2] at hu
        cases hu
      walk_at "rd"
      refine Bar.lcR (τ := [some (.ref b), some (.int (m : Int)), none, none, some (.ref u), none]) m (Int.toNat_natCast m) rfl (by omega) fun D hD => ⟨fun i H' => Kp2 b u H2 H' ∧ (∃ c n, H' b = some (box c sa n)) ∧ ∃ us : List Str, us.length = i ∧ H' u = some (.lst (us.map V.str)) ∧ H' D = some (.lst (us.map V.str)) ∧ us.Nodup ∧ ∀ x ∈ us, nameB x = true, ⟨fun a' o' n1 n2 e => Bar.lkNew hD (Bar.lkNew hu e), ⟨_, _, Bar.lkNew hD (Bar.lkNew hu hb2)⟩, [], rfl, Bar.lkNew hD upd_same, upd_same, .nil, fun x hx => by cases hx⟩, ?_, ?_⟩
      · rintro i H8 hi ⟨K8, ⟨c8, n8, hb8⟩, us, lus, hu8, hD8, nd, nu⟩
        have nDb : D ≠ b := fun e => by
          rw [e, Bar.lkNew hu hb2] at hD
          cases hD
        have nDu : D ≠ u := fun e => by
          rw [e, upd_same] at hD
          cases hD
        walk_at "rd"
        refine ⟨rfl, ?_⟩
        walk_at "rd"
        refine ⟨b, u, c8, sa, n8, us, rfl, hb8, hu8, (by omega), fun y H9 ny niy K9 ⟨c9, n9, hb9⟩ hu9 => ?_⟩
        have hD9 := K9 _ _ nDb nDu hD8
        refine ⟨_, hD9, Bar.szLt (by rw [List.length_map]; omega), fun a' o' n1 n2 e => ?_, ⟨_, _, Bar.lkNe nDb.symm hb9⟩, us ++ [y], by rw [List.length_append, lus]; rfl, Bar.lkNe nDu.symm hu9, ?_, ?_, ?_⟩
        · have e8 := K8 a' o' n1 n2 e
          have nd' : a' ≠ D := fun q => by
            rw [q] at e
            rw [Bar.lkNew hu e] at hD
            cases hD
          rw [upd_ne nd']
          exact K9 _ _ n1 n2 e8
        · rw [upd_same, List.map_append]
          rfl
        · refine List.nodup_append.mpr ⟨nd, by simp, fun a1 h1 b1 hb1' e => ?_⟩
          rw [List.mem_singleton.mp hb1'] at e
          rw [e] at h1
          exact niy h1
        · intro x hx
          rcases List.mem_append.mp hx with hx | hx
          · exact nu x hx
          · rw [List.mem_singleton.mp hx]
            exact ny
      rintro H8 ⟨K8, ⟨c8, n8, hb8⟩, us, lus, hu8, hD8, nd, nu⟩
      walk_at "rd"
      have hD2 : H2 D = none := by
        cases e : H2 D with
        | none => rfl
        | some o' =>
          rw [Bar.lkNew hu e] at hD
          cases hD
      have nDb : D ≠ b := fun e => by
        rw [e, hb2] at hD2
        cases hD2
      have free : H D = none := by
        cases e : H D with
        | none => rfl
        | some o' =>
          rw [K02 _ _ nDb e] at hD2
          cases hD2
      refine k D us _ ⟨fun a' o' na e => ?_, _, _, hb8⟩ free hD8 nd (by omega) nu
      have e2 := K02 _ _ na e
      exact K8 _ _ na (ne_of_none e2 hu) e2
theorem ok_first {f : Addr} {fd : FuncData} (F : Fun K "_law_first_twice" "_law_first_twice" s_law_first_twice f fd) (T : Txt mg) : FnOk P w K mg base CX0 1 f fd P_law_first_twice spFirst := by
  refine F.ok sc_law_first_twice (fun vs H Q E h => ?_) (fun cdv A outer s H vs Q E hr h => ?_)
  · obtain ⟨a, us, rfl, _⟩ := h
    rfl
  · obtain ⟨a, us, rfl, ha, lu, k⟩ := h
    refine ⟨_, (pss_cons (ps_for PassesOwn.never rfl  (pi_range1 rfl T.b_range (pa_cons (pe_callB c_len rfl T.b_len PySem.boot_len (pa_cons (pv 0) pa_nil)) pa_nil)) (pg_name (i := 1) sc_law_first_twice.nd rfl (Or.inl rfl)) (pss_one (ps_if (pt_cmpR op_lt (pe_bm PySem.F.plainAttrs_list PySem.F.slot_list_index PySem.F.type_list_index mt_index (pv 0) (pa_cons (pe_ix ix_list (pv 0) (pv 1) (fun _ _ => rfl)) pa_nil)) (pv 1) (nomark _)) (pss_one (ps_ret (pe_ix ix_list (pv 0) (pv 1) (fun _ _ => rfl)))) pss_nil)))
    (pss_one (ps_ret pe_non))), ?_⟩
    refine Bar.rStart (σ := [some (.ref a), none]) rfl ?_
    walk_at "rd"
    refine Bar.forR us.length (by simp) (fun i σ H' => H' = H ∧ twi (us.take i) (us.drop i) = twi [] us ∧ ∃ x, σ = [some (.ref a), x]) (by rw [List.length_map]; omega) ⟨rfl, rfl, _, rfl⟩ ?_ ?_
    · rintro i σ H' hi ⟨rfl, e, x, rfl⟩
      obtain ⟨z, hz⟩ : ∃ z, us[i]? = some z := ⟨_, List.getElem?_eq_getElem hi⟩
      have hzV : (us.map V.str)[i]? = some (.str z) := by rw [List.getElem?_map, hz]; rfl
      obtain ⟨j, ji, hj, hm⟩ := first_at hz
      have dz : us.drop i = z :: us.drop (i + 1) := by
        rw [List.drop_eq_getElem_cons hi]
        congr 1
        exact Option.some.inj ((List.getElem?_eq_getElem hi).symm.trans hz)
      have e : (if z ∈ us.take i then some z else twi (us.take i ++ [z]) (us.drop (i + 1))) = twi [] us := by
        rw [← e, dz]
        rfl
      walk_at "rd"
      refine Bar.rIxL_ (SqL.of ha) (atI_nat hzV) ?_
      walk_at "rd"
      refine ⟨a, _, _, j, .str z, rfl, rfl, SqL.of ha, rfl, flat_strs us, by rw [List.getElem?_map, hj]; rfl, beq_self_eq_true z, fun m z' hmj hz' => ?_, ?_⟩
      · rw [List.getElem?_map] at hz'
        cases q : us[m]? with
        | none => rw [q] at hz'; cases hz'
        | some y =>
          rw [q] at hz'
          cases hz'
          show (y == z) = false
          exact beq_eq_false_iff_ne.mpr fun q2 => hm m hmj (by rw [q, q2])
      walk_at "rd"
      refine ite2 (fun h => ?_) (fun h => ?_)
      · have lt : j < i := by have := of_decide_eq_true h; omega
        have mem : z ∈ us.take i := List.mem_of_getElem? (i := j) (by rw [List.getElem?_take, if_pos lt]; exact hj)
        rw [if_pos mem] at e
        walk_at "rd"
        refine Bar.rIxL_ (SqL.of ha) (atI_nat hzV) ?_
        rw [← e] at k
        walk_at "rd"
        exact k
      · have nlt : ¬ j < i := fun q => h (decide_eq_true (by omega))
        have nmem : z ∉ us.take i := fun q => by
          obtain ⟨m, hm2, e2⟩ := List.mem_iff_getElem.mp q
          have hm3 : m < i := by
            rw [List.length_take] at hm2
            omega
          refine hm m (by omega) ?_
          rw [List.getElem_take] at e2
          rw [List.getElem?_eq_getElem (by omega), e2]
        rw [if_neg nmem] at e
        walk_at "rd"
        refine ⟨rfl, ?_, _, rfl⟩
        rw [List.take_add_one, hz]
        exact e
    · rintro σ H' ⟨rfl, e, x, rfl⟩
      rw [List.drop_length] at e
      have e0 : twi [] us = none := e.symm
      rw [e0] at k
      walk_at "rd"
      exact k
end

end Lw
namespace Lw
open PySem L2 Bar

/-! ### _law_same -/
def flat : V → Prop
  | .non => True
  | .bl _ => True
  | .int _ => True
  | .str _ => True
  | _ => False
def SameAt (K : PySem.W.Frag) (H : Hp) : Nat → V → V → Prop
  | 0, _, _ => False
  | n + 1, v, u => (v = u ∧ flat v) ∨ (∃ a b : Addr, v = .ref a ∧ u = .ref b ∧ KEmp K a ∧ H b = some (.tup [])) ∨ ∃ (a b : Addr) (xs ys : List V), v = .ref a ∧ u = .ref b ∧ ((H a = some (.lst xs) ∧ H b = some (.lst ys)) ∨ (H a = some (.tup xs) ∧ H b = some (.tup ys))) ∧
    xs.length ≤ 1000 ∧ xs.length = ys.length ∧ ∀ (i : Nat) (x y : V), xs[i]? = some x → ys[i]? = some y → SameAt K H n x y
def spSame (K : PySem.W.Frag) (n : Nat) : Sp := fun vs H Q _ => ∃ v u, vs = [v, u] ∧ SameAt K H n v u ∧ Q (.bl true) H
def spInt : Sp := fun vs H Q _ => ∃ i : Int, vs = [.int i] ∧ Q (.bl true) H
instance {i : Int} {H : Hp} {Q : VK} {E : XK} : Bar.Rd (spInt ([.int i] ++ []) H Q E) (Q (.bl true) H) := ⟨fun h => ⟨i, rfl, h⟩⟩
theorem same_int {K : PySem.W.Frag} {n : Nat} {i : Int} {H : Hp} {Q : VK} {E : XK} (h : Q (.bl true) H) : spSame K (n + 1) [.int i, .int i] H Q E := ⟨_, _, rfl, .inl ⟨rfl, trivial⟩, h⟩
theorem same_intE {K : PySem.W.Frag} {n : Nat} {i j : Int} {H : Hp} {Q : VK} {E : XK} (e : i = j) (h : Q (.bl true) H) : spSame K (n + 1) [.int i, .int j] H Q E := by
  subst e
  exact same_int h
theorem same_bl {K : PySem.W.Frag} {n : Nat} {i : Bool} {H : Hp} {Q : VK} {E : XK} (h : Q (.bl true) H) : spSame K (n + 1) [.bl i, .bl i] H Q E := ⟨_, _, rfl, .inl ⟨rfl, trivial⟩, h⟩
section
variable {P : Program} {w : World} {K : PySem.W.Frag} {mg : Str → Option Value} {base : Heap}
theorem ok_int {f : Addr} {fd : FuncData} (F : Fun K "_law_int" "_law_int" s_law_int f fd) (T : Txt mg) : FnOk P w K mg base CX0 1 f fd P_law_int spInt := by
  refine F.ok sc_law_int (fun vs H Q E h => ?_) (fun cdv A outer s H vs Q E hr h => ?_)
  · obtain ⟨i, rfl, _⟩ := h
    rfl
  · obtain ⟨i, rfl, k⟩ := h
    refine ⟨_, (pss_one (ps_ret (pe_and (pe_callB call_isi rfl T.b_isinstance (by decide +kernel) (pa_cons (pv 0) (pa_cons (pe_bltn (v := .ty "int") (u := .type "int") rfl T.b_int (by decide +kernel) rfl) pa_nil))) (pe_one (pe_not (pe_callB call_isi rfl T.b_isinstance (by decide +kernel) (pa_cons (pv 0) (pa_cons (pe_bltn (v := .ty "bool") (u := .type "bool") rfl T.b_bool (by decide +kernel) rfl) pa_nil)))))))), ?_⟩
    refine Bar.rStart (σ := [some (.int i)]) rfl ?_
    walk_at "rd"
    exact k
theorem fn_same {f : Addr} {fd : FuncData} (F : Fun K "_law_same" "_law_same" s_law_same f fd) (T : Txt mg) (gf : mg "_law_same" = some (.ref f)) (bf : Binds K fd P_law_same [])
    (f_law_int : Fn P w K mg base "_law_int" P_law_int [] 1 spInt) : ∀ n, Fn P w K mg base "_law_same" P_law_same [] (n + 1) (spSame K n) := by
  intro n
  induction n with
  | zero =>
    refine ⟨f, fd, [], gf, F.kp, bf, .nil, fn_false ?_⟩
    rintro vs H Q E ⟨v, u, _, h, _⟩
    exact h
  | succ n f_law_same =>
    refine ⟨f, fd, [], gf, F.kp, bf, .nil, F.ok sc_law_same (fun vs H Q E h => ?_) (fun cdv A outer s H vs Q E hr h => ?_)⟩
    · obtain ⟨v, u, rfl, _⟩ := h
      rfl
    · obtain ⟨v, u, rfl, h, k⟩ := h
      have hr1 : Room 1 (A.deeper (PyProof.Rows.envOfC "_law_same" (defScope s_law_same) s.heap.objs.size f cdv)) := hr.mono (by omega)
      have hr2 : Room (n + 1) (A.deeper (PyProof.Rows.envOfC "_law_same" (defScope s_law_same) s.heap.objs.size f cdv)) := hr
      refine ⟨_, (pss_cons (ps_if (pt_cmpR o_isN (pv 1) pe_non (nomark _)) (pss_one (ps_ret (pe_cmpR o_isN (pv 0) pe_non (nomark _)))) pss_nil)
    (pss_cons (ps_if (pt_val (pe_callB call_isi rfl T.b_isinstance (by decide +kernel) (pa_cons (pv 1) (pa_cons (pe_bltn (v := .ty "bool") (u := .type "bool") rfl T.b_bool (by decide +kernel) rfl) pa_nil)))) (pss_one (ps_ret (pe_and (pe_callB call_isi rfl T.b_isinstance (by decide +kernel) (pa_cons (pv 0) (pa_cons (pe_bltn (v := .ty "bool") (u := .type "bool") rfl T.b_bool (by decide +kernel) rfl) pa_nil))) (pe_one (pe_cmpR op_eq (pv 0) (pv 1) (nomark _)))))) pss_nil)
    (pss_cons (ps_if (pt_val (pe_callB call_isi rfl T.b_isinstance (by decide +kernel) (pa_cons (pv 1) (pa_cons (pe_bltn (v := .ty "int") (u := .type "int") rfl T.b_int (by decide +kernel) rfl) pa_nil)))) (pss_one (ps_ret (pe_and (pe_fn f_law_int (hr.mono (by omega)) rfl (pa_cons (pv 0) pa_nil)) (pe_one (pe_cmpR op_eq (pv 0) (pv 1) (nomark _)))))) pss_nil)
    (pss_cons (ps_if (pt_val (pe_callB call_isi rfl T.b_isinstance (by decide +kernel) (pa_cons (pv 1) (pa_cons (pe_bltn (v := .ty "str") (u := .type "str") rfl T.b_str (by decide +kernel) rfl) pa_nil)))) (pss_one (ps_ret (pe_and (pe_callB call_isi rfl T.b_isinstance (by decide +kernel) (pa_cons (pv 0) (pa_cons (pe_bltn (v := .ty "str") (u := .type "str") rfl T.b_str (by decide +kernel) rfl) pa_nil))) (pe_one (pe_cmpR op_eq (pv 0) (pv 1) (nomark _)))))) pss_nil)
    (pss_cons (ps_if (PW.pt (pw_or (pt_cmpR op_ne (pe_callB call_isi rfl T.b_isinstance (by decide +kernel) (pa_cons (pv 1) (pa_cons (pe_bltn (v := .ty "list") (u := .type "list") rfl T.b_list (by decide +kernel) rfl) pa_nil))) (pe_callB call_isi rfl T.b_isinstance (by decide +kernel) (pa_cons (pv 0) (pa_cons (pe_bltn (v := .ty "list") (u := .type "list") rfl T.b_list (by decide +kernel) rfl) pa_nil))) (nomark _)) (pw_or1 (pt_cmpR op_ne (pe_callB call_isi rfl T.b_isinstance (by decide +kernel) (pa_cons (pv 1) (pa_cons (pe_bltn (v := .ty "tuple") (u := .type "tuple") rfl T.b_tuple (by decide +kernel) rfl) pa_nil))) (pe_callB call_isi rfl T.b_isinstance (by decide +kernel) (pa_cons (pv 0) (pa_cons (pe_bltn (v := .ty "tuple") (u := .type "tuple") rfl T.b_tuple (by decide +kernel) rfl) pa_nil))) (nomark _))))) (pss_one (ps_ret pe_bl)) pss_nil)
    (pss_cons (ps_if (pt_cmpR op_ne (pe_callB c_len rfl T.b_len PySem.boot_len (pa_cons (pv 0) pa_nil)) (pe_callB c_len rfl T.b_len PySem.boot_len (pa_cons (pv 1) pa_nil)) (nomark _)) (pss_one (ps_ret pe_bl)) pss_nil)
    (pss_cons (ps_for PassesOwn.never rfl  (pi_range1 rfl T.b_range (pa_cons (pe_callB c_len rfl T.b_len PySem.boot_len (pa_cons (pv 1) pa_nil)) pa_nil)) (pg_name (i := 2) sc_law_same.nd rfl (Or.inl rfl)) (pss_one (ps_if (pt_not (pt_val (pe_fn f_law_same (hr.mono (by omega)) rfl (pa_cons (pe_ix ix_seq (pv 0) (pv 2) (fun _ _ => rfl)) (pa_cons (pe_ix ix_seq (pv 1) (pv 2) (fun _ _ => rfl)) pa_nil))))) (pss_one (ps_ret pe_bl)) pss_nil)))
    (pss_one (ps_ret pe_bl))))))))), ?_⟩
      refine Bar.rStart (σ := [some v, some u, none]) rfl ?_
      rcases h with ⟨rfl, hf⟩ | ⟨a, b, rfl, rfl, he, hb⟩ | ⟨a, b, xs, ys, rfl, rfl, hab, hx, hxy, hall⟩
      · cases v with
        | non =>
          walk_at "rd"
          exact k
        | bl z =>
          walk_at "rd"
          rw [beq_self_eq_true]
          exact k
        | int z =>
          walk_at "rd"
          rw [decide_eq_true rfl]
          exact k
        | str z =>
          walk_at "rd"
          exact k
        | byt z => exact hf.elim
        | flt z => exact hf.elim
        | ref z => exact hf.elim
        | ty z => exact hf.elim
      · have hs : SqT K H a [] := he.sq
        obtain ⟨eo, _, _, eo1, eo2, _, _⟩ := he
        have iL : ∀ {Q : VK}, Q (.bl false) H → rIsi K [.ref a, .ty "list"] H Q := fun q => isiTy (.kTuple eo1 eo2) rfl q
        have iT : ∀ {Q : VK}, Q (.bl true) H → rIsi K [.ref a, .ty "tuple"] H Q := fun q => isiTy (.kTuple eo1 eo2) rfl q
        walk_at "rd"
        refine iL ?_
        walk_at "rd"
        refine iT ?_
        walk_at "rd"
        rw [decide_eq_true rfl]
        walk_at "rd"
        refine Bar.forR 0 (by simp) (fun _ σ H' => H' = H ∧ ∃ x, σ = [some (.ref a), some (.ref b), x]) (by decide) ⟨rfl, _, rfl⟩ (fun i σ H' hi _ => absurd hi (Nat.not_lt_zero _)) ?_
        rintro σ H' ⟨rfl, x, rfl⟩
        walk_at "rd"
        exact k
      · have hloop : ∀ x : Option V, x = none → True := fun _ _ => trivial
        rcases hab with ⟨ha, hb⟩ | ⟨ha, hb⟩
        · walk_at "rd"
          rw [hxy, decide_eq_true rfl]
          walk_at "rd"
          refine Bar.forR ys.length (by simp) (fun _ σ H' => H' = H ∧ ∃ x, σ = [some (.ref a), some (.ref b), x]) (by omega) ⟨rfl, _, rfl⟩ ?_ ?_
          · rintro i σ H' hi ⟨e, x, rfl⟩
            subst e
            obtain ⟨y, hy⟩ : ∃ y, ys[i]? = some y := ⟨_, List.getElem?_eq_getElem hi⟩
            obtain ⟨x', hx'⟩ : ∃ y, xs[i]? = some y := ⟨_, List.getElem?_eq_getElem (by omega)⟩
            walk_at "rd"
            refine Bar.rIxSL ha (atI_nat hx') ?_
            walk_at "rd"
            refine Bar.rIxSL hb (atI_nat hy) ?_
            walk_at "rd"
            refine ⟨x', y, rfl, hall i _ _ hx' hy, ?_⟩
            walk_at "rd"
            exact ⟨rfl, _, rfl⟩
          · rintro σ H' ⟨rfl, x, rfl⟩
            walk_at "rd"
            exact k
        · walk_at "rd"
          rw [hxy, decide_eq_true rfl]
          walk_at "rd"
          refine Bar.forR ys.length (by simp) (fun _ σ H' => H' = H ∧ ∃ x, σ = [some (.ref a), some (.ref b), x]) (by omega) ⟨rfl, _, rfl⟩ ?_ ?_
          · rintro i σ H' hi ⟨e, x, rfl⟩
            subst e
            obtain ⟨y, hy⟩ : ∃ y, ys[i]? = some y := ⟨_, List.getElem?_eq_getElem hi⟩
            obtain ⟨x', hx'⟩ : ∃ y, xs[i]? = some y := ⟨_, List.getElem?_eq_getElem (by omega)⟩
            walk_at "rd"
            refine Bar.rIxST ha (atI_nat hx') ?_
            walk_at "rd"
            refine Bar.rIxST hb (atI_nat hy) ?_
            walk_at "rd"
            refine ⟨x', y, rfl, hall i _ _ hx' hy, ?_⟩
            walk_at "rd"
            exact ⟨rfl, _, rfl⟩
          · rintro σ H' ⟨rfl, x, rfl⟩
            walk_at "rd"
            exact k
end


/-! ### grids -/
abbrev gf (st o : Int) : List (Str × V) := [("step", .int st), ("offset", .int o)]
def GridAt (C : Addr) (H : Hp) (g : Addr) (st o : Int) : Prop := ∃ dx, H g = some (.ins C dx (gf st o))
structure GTxt (K : PySem.W.Frag) (C : Addr) : Prop where
  cl : Cls K C
  nS : NoAttr K C "step"
  nO : NoAttr K C "offset"
theorem put_step (st : Int) : putF ("step" : Str) (.int st) [] = ([("step", V.int st)] : List (Str × V)) := rfl
theorem put_off (st o : Int) : putF ("offset" : Str) (.int o) ([("step", V.int st)] : List (Str × V)) = gf st o := by
  show (if ("step" : Str) = "offset" then _ else (("step" : Str), V.int st) :: putF "offset" (V.int o) []) = _
  rw [if_neg (show ¬ (("step" : Str) = "offset") by decide +kernel)]
  rfl
theorem gf_step (st o : Int) : (gf st o).lookup ("step" : Str) = some (.int st) := by
  rw [← put_off, lookup_putF, if_neg (show ¬ (("step" : Str) = "offset") by decide +kernel), ← put_step, lookup_putF, if_pos rfl]
theorem gf_off (st o : Int) : (gf st o).lookup ("offset" : Str) = some (.int o) := by
  rw [← put_off, lookup_putF, if_pos rfl]
/-- a new grid -/
def spInit (C : Addr) : Sp := fun vs H Q _ => ∃ (p dx : Addr) (st o : Int), vs = [.ref p, .int st, .int o] ∧ H p = some (.ins C dx []) ∧ 1 ≤ st ∧ ∀ H', Kp p H H' → H' p = some (.ins C dx (gf st (o % st))) → Q .non H'
def spIn (C : Addr) : Sp := fun vs H Q _ => ∃ (g : Addr) (st o x : Int), vs = [.ref g, .int x] ∧ GridAt C H g st o ∧ 1 ≤ st ∧ Q (.bl (decide (x % st = o))) H
section
variable {P : Program} {w : World} {K : PySem.W.Frag} {mg : Str → Option Value} {base : Heap} {C : Addr}
theorem mkG {H : Hp} {R : Addr → Hp → Prop} {E : XK} {st o : Int} (s1 : 1 ≤ st) (h : ∀ x H2, H x = none → Same H H2 → GridAt C H2 x st (o % st) → R x H2) :
    ∀ x dx, H x = none → H dx = none → dx ≠ x → spInit C [.ref x, .int st, .int o] (upd (upd H dx (.own x)) x (.ins C dx [])) (fun v H2 => v = .non ∧ R x H2) E := by
  intro x dx hx hdx ne
  refine ⟨x, dx, st, o, rfl, upd_same, s1, fun H' k hp => ⟨rfl, h x H' hx (fun b u e => ?_) ⟨dx, hp⟩⟩⟩
  have nb : b ≠ x := ne_of_none e hx
  refine k b u nb ?_
  rw [upd_ne nb]
  exact Bar.lkNew hdx e
theorem GridAt.same {H H' : Hp} {g : Addr} {st o : Int} (k : Same H H') (h : GridAt C H g st o) : GridAt C H' g st o := by
  obtain ⟨dx, h⟩ := h
  exact ⟨dx, k _ _ h⟩
theorem GridAt.kp {b : Addr} {xs : List V} {H H' : Hp} {g : Addr} {st o : Int} (k : Kp b H H') (hb : H b = some (.lst xs)) (h : GridAt C H g st o) : GridAt C H' g st o := by
  obtain ⟨dx, h⟩ := h
  exact ⟨dx, k _ _ (ne_of h hb (by intro z; cases z)) h⟩
theorem GridAt.kp2 {b l : Addr} {xs : List V} {H H' : Hp} {g : Addr} {st o : Int} (k : Kp2 b l H H') (hb : H b = some (.lst xs)) (hl : H l = none) (h : GridAt C H g st o) : GridAt C H' g st o := by
  obtain ⟨dx, h⟩ := h
  exact ⟨dx, k _ _ (ne_of h hb (by intro z; cases z)) (ne_of_none h hl) h⟩
theorem rIn_ {H : Hp} {g : Addr} {st o x : Int} {R : Bool → Prop} (h : GridAt C H g st o) (s1 : 1 ≤ st) (r : R (decide (x % st = o))) {Q : VK} (e : ∀ b, R b → Q (.bl b) H) : rOwnIn C (spIn C) (.int x) (.ref g) H Q := by
  obtain ⟨dx, hg⟩ := h
  exact ⟨g, dx, _, rfl, hg, g, st, o, x, rfl, ⟨dx, hg⟩, s1, _, rfl, e _ r⟩
theorem rInG {H : Hp} {g : Addr} {st o x : Int} {Q : VK} (h : GridAt C H g st o) (s1 : 1 ≤ st) (r : Q (.bl (decide (x % st = o))) H) : rOwnIn C (spIn C) (.int x) (.ref g) H Q := by
  obtain ⟨dx, hg⟩ := h
  exact ⟨g, dx, _, rfl, hg, g, st, o, x, rfl, ⟨dx, hg⟩, s1, _, rfl, r⟩
theorem in_iff (u b a : Int) : decide (u % a = b % a) = decide ((u - b) % a = 0) := decide_eq_decide.mpr Int.emod_eq_emod_iff_emod_sub_eq_zero
theorem in_ne (u b a : Int) : (!(decide (u % a = b % a) == decide ((u - b) % a = 0))) = false := by
  rw [in_iff]
  simp
theorem GridAt.new {H : Hp} {g p : Addr} {u : HO} {st o : Int} (hp : H p = none) (h : GridAt C H g st o) : GridAt C (upd H p u) g st o := by
  obtain ⟨dx, h⟩ := h
  exact ⟨dx, Bar.lkNew hp h⟩
theorem ok_init {f : Addr} {fd : FuncData} {dvs : List V} (F : FunD K "__init__" "Grid.__init__" (defArgs s_Grid___init__) (defBody s_Grid___init__) (defScope s_Grid___init__) dvs [] f fd) (G : GTxt K C) : FnOk P w K mg base CX0 1 f fd P_Grid___init__ (spInit C) := by
  refine F.ok sc_Grid___init__ (fun vs H Q E h => ?_) (fun cdv A outer s H vs Q E hr h => ?_)
  · obtain ⟨p, dx, st, o, rfl, _⟩ := h
    rfl
  · obtain ⟨p, dx, st, o, rfl, hp, s1, k⟩ := h
    refine ⟨_, PSs.nox (pss_cons (ps_if (pt_cmpR op_lt (pv 1) pe_int (nomark _)) (pss_one ps_never) pss_nil)
    (pss_cons (ps_fld (pv 0) (pv 1) rfl)
    (pss_one (ps_fld (pv 0) (pe_op op_mod (pv 2) (pv 1)) rfl)))), ?_⟩
    refine Bar.rStart (σ := [some (.ref p), some (.int st), some (.int o)]) rfl ?_
    walk_at "rd"
    refine ite2 (fun h => absurd (of_decide_eq_true h) (by omega)) (fun h => ?_)
    walk_at "rd"
    refine ⟨p, C, dx, _, rfl, hp, G.cl, G.nS, (by show 0 < 1000; decide), ?_⟩
    rw [put_step]
    walk_at "rd"
    refine ⟨p, C, dx, _, rfl, upd_same, G.cl, G.nO, (by show 1 < 1000; decide), ?_⟩
    rw [put_off]
    walk_at "rd"
    refine k _ (fun a o' n e => ?_) upd_same
    rw [upd_ne n, upd_ne n]
    exact e
end


/-! ### a lead keeps its parts -/

/-! ### _law_holds -/
structure GIsi (K : PySem.W.Frag) (mg : Str → Option Value) (C : Addr) : Prop where
  g : mg "Grid" = some (.ref C)
  cl : Cls K C
  ha : PySem.W.findIn K (.ref C) "__class__" = some (some (.builtin "object.__class__"))
  hn : PySem.W.specialIn K (.builtin "object.__class__") "__get__" = some (some (.builtin "getset_descriptor.__get__"))
  htk : PySem.W.takesIn K (.builtin "object.__class__") = some true
  hm : PySem.W.mroIn K C (.type "object") = some true
section
variable {P : Program} {w : World} {K : PySem.W.Frag} {mg : Str → Option Value} {base : Heap} {C : Addr}
theorem isiG {H : Hp} {g : Addr} {st o : Int} {Q : VK} (I : GIsi K mg C) (h : GridAt C H g st o) (q : Q (.bl true) H) : rIsi K [.ref g, .ref C] H Q := by
  obtain ⟨dx, hg⟩ := h
  refine ⟨.ref g, .ref C, _, _, true, rfl, .own C, .base (.ins hg I.cl I.ha I.hn I.htk I.hm), ?_, q⟩
  unfold PySem.W.kitOne
  rw [if_pos (beq_self_eq_true _)]
end

section
variable {C : Addr} {K : PySem.W.Frag}
theorem rFS {H : Hp} {g : Addr} {st o : Int} {R : V → Prop} (G : GTxt K C) (h : GridAt C H g st o) (r : R (.int st)) : ∃ a C dx fs v, V.ref g = .ref a ∧ H a = some (.ins C dx fs) ∧ Cls K C ∧ NoAttr K C "step" ∧ fs.lookup ("step" : Str) = some v ∧ R v := by
  obtain ⟨dx, hg⟩ := h
  exact Bar.rFldV hg G.cl G.nS (gf_step _ _) r
theorem rFO {H : Hp} {g : Addr} {st o : Int} {R : V → Prop} (G : GTxt K C) (h : GridAt C H g st o) (r : R (.int o)) : ∃ a C dx fs v, V.ref g = .ref a ∧ H a = some (.ins C dx fs) ∧ Cls K C ∧ NoAttr K C "offset" ∧ fs.lookup ("offset" : Str) = some v ∧ R v := by
  obtain ⟨dx, hg⟩ := h
  exact Bar.rFldV hg G.cl G.nO (gf_off _ _) r

end
structure CIsi (K : PySem.W.Frag) (C CS : Addr) : Prop where
  cl : Cls K C
  ha : PySem.W.findIn K (.ref C) "__class__" = some (some (.builtin "object.__class__"))
  hn : PySem.W.specialIn K (.builtin "object.__class__") "__get__" = some (some (.builtin "getset_descriptor.__get__"))
  htk : PySem.W.takesIn K (.builtin "object.__class__") = some true
  hm : PySem.W.mroIn K C (.type "object") = some true
  ks : PySem.W.kitOne K (.ref C) (.ref CS) = some true
theorem isiC {K : PySem.W.Frag} {C CS q dx : Addr} {fs : List (Str × V)} {H : Hp} {Q : VK} (I : CIsi K C CS) (h : H q = some (.ins C dx fs)) (k : Q (.bl true) H) : rIsi K [.ref q, .ref C] H Q := by
  refine ⟨.ref q, .ref C, _, _, true, rfl, .own C, .base (.ins h I.cl I.ha I.hn I.htk I.hm), ?_, k⟩
  unfold PySem.W.kitOne
  rw [if_pos (beq_self_eq_true _)]
theorem isiS {K : PySem.W.Frag} {C CS q dx : Addr} {fs : List (Str × V)} {H : Hp} {Q : VK} (I : CIsi K C CS) (h : H q = some (.ins C dx fs)) (k : Q (.bl true) H) : rIsi K [.ref q, .ref CS] H Q :=
  ⟨.ref q, .ref CS, _, _, true, rfl, .own CS, .base (.ins h I.cl I.ha I.hn I.htk I.hm), I.ks, k⟩

/-- the lead at q has the parts -/
def LAt (K : PySem.W.Frag) (CG C : Addr) (H : Hp) (q : Addr) (z : Str) (st off l : Int) (us : List Str) : Prop := ∃ dx g t, H q = some (.ins C dx (lf z g l t)) ∧ GridAt CG H g st off ∧ TupS K H t us
theorem LAt.same {K : PySem.W.Frag} {CG C q : Addr} {H H' : Hp} {z : Str} {st off l : Int} {us : List Str} (S : Same H H') (h : LAt K CG C H q z st off l us) : LAt K CG C H' q z st off l us := by
  obtain ⟨dx, g, t, h1, h2, h3⟩ := h
  exact ⟨dx, g, t, S _ _ h1, h2.same S, h3.same S⟩
theorem LAt.kp {K : PySem.W.Frag} {CG C q b : Addr} {H H' : Hp} {z : Str} {st off l : Int} {us : List Str} {xs : List V} (k : Kp b H H') (hb : H b = some (.lst xs)) (h : LAt K CG C H q z st off l us) : LAt K CG C H' q z st off l us := by
  obtain ⟨dx, g, t, h1, h2, h3⟩ := h
  exact ⟨dx, g, t, k _ _ (ne_of h1 hb (by intro z; cases z)) h1, h2.kp k hb, h3.kp k hb (by intro _ z; cases z)⟩
def spKeeps (K : PySem.W.Frag) (CG C : Addr) : Sp := fun vs H Q _ => ∃ (q m : Addr) (z : Str) (st off l : Int) (us : List Str), vs = [.ref q, .str z, .int st, .int off, .int l, .ref m] ∧ LAt K CG C H q z st off l us ∧ H m = some (.lst (us.map V.str)) ∧ us.length ≤ 20 ∧ ∀ H', Same H H' → Q (.bl true) H'
theorem sameTS {K : PySem.W.Frag} {H : Hp} {a b : Addr} {us : List Str} (ha : TupS K H a us) (hb : H b = some (.tup (us.map V.str))) (l : us.length ≤ 1000) : SameAt K H 2 (.ref a) (.ref b) := by
  rcases ha with ha | ⟨rfl, ha⟩
  · refine .inr (.inr ⟨a, b, _, _, rfl, rfl, .inr ⟨ha, hb⟩, by rw [List.length_map]; exact l, rfl, fun i x y hx hy => ?_⟩)
    rw [List.getElem?_map] at hx hy
    obtain ⟨c, ec, rfl⟩ := Option.map_eq_some_iff.mp hx
    obtain ⟨d, ed, rfl⟩ := Option.map_eq_some_iff.mp hy
    rw [ec] at ed
    cases ed
    exact .inl ⟨rfl, trivial⟩
  · exact .inr (.inl ⟨a, b, rfl, rfl, ha, hb⟩)
theorem same5 {K : PySem.W.Frag} {H : Hp} {a b t u : Addr} {z : Str} {st off l : Int} {us : List Str} (ha : H a = some (.lst [.str z, .int st, .int off, .int l, .ref t])) (hb : H b = some (.lst [.str z, .int st, .int off, .int l, .ref u]))
    (ht : TupS K H t us) (hu : H u = some (.tup (us.map V.str))) (n : us.length ≤ 1000) : SameAt K H 3 (.ref a) (.ref b) := by
  refine .inr (.inr ⟨a, b, _, _, rfl, rfl, .inl ⟨ha, hb⟩, by show 5 ≤ 1000; decide, rfl, fun i x y hx hy => ?_⟩)
  match i, hx, hy with
  | 0, hx, hy => cases hx; cases hy; exact .inl ⟨rfl, trivial⟩
  | 1, hx, hy => cases hx; cases hy; exact .inl ⟨rfl, trivial⟩
  | 2, hx, hy => cases hx; cases hy; exact .inl ⟨rfl, trivial⟩
  | 3, hx, hy => cases hx; cases hy; exact .inl ⟨rfl, trivial⟩
  | 4, hx, hy => cases hx; cases hy; exact sameTS ht hu n
  | i + 5, hx, _ => cases hx
section
variable {P : Program} {w : World} {K : PySem.W.Frag} {mg : Str → Option Value} {base : Heap}
theorem ok_keeps {f C_Grid C_Lead C_Sound : Addr} {fd : FuncData} (F : Fun K "_law_keeps" "_law_keeps" s_law_keeps f fd) (T : Txt mg) (GG : GTxt K C_Grid) (G : LTxt K C_Lead) (IG : GIsi K mg C_Grid) (IC : CIsi K C_Lead C_Sound) (g_Lead : mg "Lead" = some (.ref C_Lead)) (g_Sound : mg "Sound" = some (.ref C_Sound)) (g_Grid : mg "Grid" = some (.ref C_Grid))
    (f_law_same : Fn P w K mg base "_law_same" P_law_same [] 4 (spSame K 3)) : FnOk P w K mg base CX0 5 f fd P_law_keeps (spKeeps K C_Grid C_Lead) := by
  refine F.ok sc_law_keeps (fun vs H Q E h => ?_) (fun cdv A outer s H vs Q E hr h => ?_)
  · obtain ⟨q, m, z, st, off, l, us, rfl, _⟩ := h
    rfl
  · obtain ⟨q, m, z, st, off, l, us, rfl, ⟨dx, g, t, hq, hg, ht⟩, hm, lu, k⟩ := h
    refine ⟨_, (pss_cons (ps_if (PW.pt (pw_or (pt_not (pt_val (pe_callB call_isi rfl T.b_isinstance (by decide +kernel) (pa_cons (pv 0) (pa_cons (pe_glob (v := .ref C_Lead) rfl g_Lead rfl) pa_nil))))) (pw_or (pt_not (pt_val (pe_callB call_isi rfl T.b_isinstance (by decide +kernel) (pa_cons (pv 0) (pa_cons (pe_glob (v := .ref C_Sound) rfl g_Sound rfl) pa_nil))))) (pw_or1 (pt_not (pt_val (pe_callB call_isi rfl T.b_isinstance (by decide +kernel) (pa_cons (pe_fld (pv 0) rfl) (pa_cons (pe_glob (v := .ref C_Grid) rfl g_Grid rfl) pa_nil))))))))) (pss_one (ps_ret pe_bl)) pss_nil)
    (pss_cons (ps_set (i := 6) sc_law_keeps.nd rfl (Or.inl rfl) (pe_lst (pa_cons (pe_fld (pv 0) rfl) (pa_cons (pe_fld (pe_fld (pv 0) rfl) rfl) (pa_cons (pe_fld (pe_fld (pv 0) rfl) rfl) (pa_cons (pe_fld (pv 0) rfl) (pa_cons (pe_fld (pv 0) rfl) pa_nil)))))))
    (pss_one (ps_ret (pe_fn f_law_same (hr.mono (by omega)) rfl (pa_cons (pv 6) (pa_cons (pe_lst (pa_cons (pv 1) (pa_cons (pv 2) (pa_cons (pv 3) (pa_cons (pv 4) (pa_cons (pe_callTy call_tuple_of rfl T.b_tuple (by decide +kernel) (pa_cons (pv 5) pa_nil)) pa_nil)))))) pa_nil))))))), ?_⟩
    refine Bar.rStart (σ := [some (.ref q), some (.str z), some (.int st), some (.int off), some (.int l), some (.ref m), none]) rfl ?_
    walk_at "rd"
    refine isiC IC hq ?_
    walk_at "rd"
    refine isiS IC hq ?_
    walk_at "rd"
    refine Bar.rFldV hq G.cl G.n2 rfl ?_
    walk_at "rd"
    refine isiG IG hg ?_
    walk_at "rd"
    refine Bar.rFldV hq G.cl G.n1 rfl ?_
    walk_at "rd"
    refine Bar.rFldV hq G.cl G.n2 rfl ?_
    walk_at "rd"
    refine rFS GG hg ?_
    walk_at "rd"
    refine Bar.rFldV hq G.cl G.n2 rfl ?_
    walk_at "rd"
    refine rFO GG hg ?_
    walk_at "rd"
    refine Bar.rFldV hq G.cl G.n3 rfl ?_
    walk_at "rd"
    refine Bar.rFldV hq G.cl G.n4 rfl ?_
    walk_at "rd"
    intro L hL
    walk_at "rd"
    refine ⟨m, _, rfl, .inl ⟨SqL.of (Bar.lkNew hL hm), fun U hU => ?_⟩⟩
    walk_at "rd"
    intro D hD
    have S3 : ∀ o3 : HO, Same H (upd (upd (upd H L (.lst [.str z, .int st, .int off, .int l, .ref t])) U (.tup (us.map V.str))) D o3) := fun o3 _ _ e => Bar.lkNew hD (Bar.lkNew hU (Bar.lkNew hL e))
    walk_at "rd"
    refine ⟨_, _, rfl, same5 (Bar.lkNew hD (Bar.lkNew hU upd_same)) upd_same (ht.same (S3 _)) (Bar.lkNew hD upd_same) (by omega), ?_⟩
    exact k _ (S3 _)
end

end Lw
namespace Lw
open PySem L2 Bar

/-! ### what is raised for spoilt parts -/
def LTAt (H : Hp) (D : Addr) : LFlt → Prop
  | .name y => H D = some (.lst [.str "name", .str y, .bl true, .bl true, .bl false, .bl false])
  | .value v => H D = some (.lst [.str "value", .int v, .bl true, .bl true, .bl false, .bl false])
  | .twice y => H D = some (.lst [.str "twice", .str y, .bl true, .bl true, .bl false, .bl false])
theorem LTAt.same {H H' : Hp} {D : Addr} {fl : LFlt} (S : Same H H') (h : LTAt H D fl) : LTAt H' D fl := by
  cases fl with
  | name y => exact S _ _ h
  | value v => exact S _ _ h
  | twice y => exact S _ _ h
def spRefused : Sp := fun vs H Q _ => ∃ (g t : Addr) (z : Str) (l : Int) (us : List Str) (fl : LFlt), vs = [.str z, .ref g, .int l, .ref t] ∧ TxOk z ∧ H t = some (.tup (us.map V.str)) ∧ us.length ≤ 100 ∧ (∀ u ∈ us, TxOk u) ∧ lfault z l us = some fl ∧ ∀ D H', Same H H' → LTAt H' D fl → Q (.ref D) H'
abbrev gD : List V → List V → List V := fun vs zs => vs ++ zs
structure K6 (K : PySem.W.Frag) (A B1 B2 CB : Addr) : Prop where
  b : PySem.W.kitOne K (.ref A) (.ref CB) = some true
  v : PySem.W.kitOne K (.ref A) (.type "ValueError") = some true
  n1 : PySem.W.kitOne K (.ref A) (.ref B1) = some false
  n2 : PySem.W.kitOne K (.ref A) (.ref B2) = some false
section
variable {P : Program} {w : World} {K : PySem.W.Frag} {mg : Str → Option Value} {base : Heap}
theorem ok_refused {f C_Lead C_BadName C_BarclipsError C_BadNumber C_Twice : Addr} {fd : FuncData} (F : Fun K "_law_refused" "_law_refused" s_law_refused f fd) (T : Txt mg)
    (mkkx_Lead_grid_length_stops : MadeK P w K mg base (L2.CX P w) "Lead" C_Lead P_Lead___init__ ["grid", "length", "stops"] 1 gD 5 (spLeadX K C_Lead C_BadName C_BadNumber C_Twice))
    (ee_BadName : ETxt K mg "BadName" C_BadName) (eb : EBase K mg "BarclipsError" C_BarclipsError) (ee_BadNumber : ETxt K mg "BadNumber" C_BadNumber) (ee_Twice : ETxt K mg "Twice" C_Twice)
    (no_BadName_name : PySem.W.findIn K (.ref C_BadName) "name" = some none) (no_BadNumber_value : PySem.W.findIn K (.ref C_BadNumber) "value" = some none) (no_Twice_name : PySem.W.findIn K (.ref C_Twice) "name" = some none) (be_ValueError : mg "ValueError" = none)
    (kN : K6 K C_BadName C_BadNumber C_Twice C_BarclipsError) (kV : K6 K C_BadNumber C_BadName C_Twice C_BarclipsError) (kT : K6 K C_Twice C_BadName C_BadNumber C_BarclipsError)
    (p1 : PySem.W.exmOne K (.ref C_BadNumber) (.ref C_BadName) = some false) (p2 : PySem.W.exmOne K (.ref C_Twice) (.ref C_BadName) = some false) (p3 : PySem.W.exmOne K (.ref C_Twice) (.ref C_BadNumber) = some false) :
    FnOk P w K mg base CX0 7 f fd P_law_refused spRefused := by
  refine F.ok sc_law_refused (fun vs H Q E h => ?_) (fun cdv A outer s H vs Q E hr h => ?_)
  · obtain ⟨g, t, z, l, us, fl, rfl, _⟩ := h
    rfl
  · obtain ⟨g, t, z, l, us, fl, rfl, oz, ht, lu, ou, hf, k⟩ := h
    refine ⟨_, (pss_cons (ps_set (i := 4) sc_law_refused.nd rfl (Or.inl rfl) pe_non)
    (pss_cons (ps_try_all (i := 5) rfl rfl sc_law_refused.nd rfl rfl takes0 (fun W pn xe tk _ => (pss_one (ps_expr (pe_mkKX mkkx_Lead_grid_length_stops tk (hr.mono (by omega)) rfl (pa_cons (pv 0) pa_nil) (pk_cons (pv 1) (pk_cons (pv 2) (pk_cons (pv 3) pk_nil)))))))
    (Clauses.cons ⟨rfl, by decide, .inl ee_BadName.g⟩ (fun a oe cls d pn hz hf => (pss_cons (ps_set (i := 4) sc_law_refused.nd rfl (Or.inl rfl) (pe_lst (pa_cons pe_str (pa_cons (pe_xf ee_BadName.is.x no_BadName_name hz hf (pv 5)) (pa_cons (pe_callB (call_isX ee_BadName.is hz hf) rfl T.b_isinstance (by decide +kernel) (pa_cons (pv 5) (pa_cons (pe_glob (v := .ref C_BarclipsError) rfl eb.g rfl) pa_nil))) (pa_cons (pe_callB (call_isX ee_BadName.is hz hf) rfl T.b_isinstance (by decide +kernel) (pa_cons (pv 5) (pa_cons (pe_bltn (v := .ty "ValueError") (u := .type "ValueError") rfl be_ValueError (by decide +kernel) rfl) pa_nil))) pa_nil))))))
    (pss_one (ps_set (i := 4) sc_law_refused.nd rfl (Or.inl rfl) (pe_op op_cat (pv 4) (pe_lst (pa_cons (pe_callB (call_isX ee_BadName.is hz hf) rfl T.b_isinstance (by decide +kernel) (pa_cons (pv 5) (pa_cons (pe_glob (v := .ref C_BadNumber) rfl ee_BadNumber.g rfl) pa_nil))) (pa_cons (pe_callB (call_isX ee_BadName.is hz hf) rfl T.b_isinstance (by decide +kernel) (pa_cons (pv 5) (pa_cons (pe_glob (v := .ref C_Twice) rfl ee_Twice.g rfl) pa_nil))) pa_nil))))))))
    (Clauses.cons ⟨rfl, by decide, .inl ee_BadNumber.g⟩ (fun a oe cls d pn hz hf => (pss_cons (ps_set (i := 4) sc_law_refused.nd rfl (Or.inl rfl) (pe_lst (pa_cons pe_str (pa_cons (pe_xf ee_BadNumber.is.x no_BadNumber_value hz hf (pv 5)) (pa_cons (pe_callB (call_isX ee_BadNumber.is hz hf) rfl T.b_isinstance (by decide +kernel) (pa_cons (pv 5) (pa_cons (pe_glob (v := .ref C_BarclipsError) rfl eb.g rfl) pa_nil))) (pa_cons (pe_callB (call_isX ee_BadNumber.is hz hf) rfl T.b_isinstance (by decide +kernel) (pa_cons (pv 5) (pa_cons (pe_bltn (v := .ty "ValueError") (u := .type "ValueError") rfl be_ValueError (by decide +kernel) rfl) pa_nil))) pa_nil))))))
    (pss_one (ps_set (i := 4) sc_law_refused.nd rfl (Or.inl rfl) (pe_op op_cat (pv 4) (pe_lst (pa_cons (pe_callB (call_isX ee_BadNumber.is hz hf) rfl T.b_isinstance (by decide +kernel) (pa_cons (pv 5) (pa_cons (pe_glob (v := .ref C_BadName) rfl ee_BadName.g rfl) pa_nil))) (pa_cons (pe_callB (call_isX ee_BadNumber.is hz hf) rfl T.b_isinstance (by decide +kernel) (pa_cons (pv 5) (pa_cons (pe_glob (v := .ref C_Twice) rfl ee_Twice.g rfl) pa_nil))) pa_nil))))))))
    (Clauses.cons ⟨rfl, by decide, .inl ee_Twice.g⟩ (fun a oe cls d pn hz hf => (pss_cons (ps_set (i := 4) sc_law_refused.nd rfl (Or.inl rfl) (pe_lst (pa_cons pe_str (pa_cons (pe_xf ee_Twice.is.x no_Twice_name hz hf (pv 5)) (pa_cons (pe_callB (call_isX ee_Twice.is hz hf) rfl T.b_isinstance (by decide +kernel) (pa_cons (pv 5) (pa_cons (pe_glob (v := .ref C_BarclipsError) rfl eb.g rfl) pa_nil))) (pa_cons (pe_callB (call_isX ee_Twice.is hz hf) rfl T.b_isinstance (by decide +kernel) (pa_cons (pv 5) (pa_cons (pe_bltn (v := .ty "ValueError") (u := .type "ValueError") rfl be_ValueError (by decide +kernel) rfl) pa_nil))) pa_nil))))))
    (pss_one (ps_set (i := 4) sc_law_refused.nd rfl (Or.inl rfl) (pe_op op_cat (pv 4) (pe_lst (pa_cons (pe_callB (call_isX ee_Twice.is hz hf) rfl T.b_isinstance (by decide +kernel) (pa_cons (pv 5) (pa_cons (pe_glob (v := .ref C_BadName) rfl ee_BadName.g rfl) pa_nil))) (pa_cons (pe_callB (call_isX ee_Twice.is hz hf) rfl T.b_isinstance (by decide +kernel) (pa_cons (pv 5) (pa_cons (pe_glob (v := .ref C_BadNumber) rfl ee_BadNumber.g rfl) pa_nil))) pa_nil))))))))
    Clauses.nil))))
    (pss_one (ps_ret (pv 4))))), ?_⟩
    refine Bar.rStart (σ := [some (.str z), some (.ref g), some (.int l), some (.ref t), none, none]) rfl ?_
    walk_at "rd"
    refine ⟨rfl, rfl, fun x dx hx hdx _ => ?_⟩
    have S2 : Same H (upd (upd H dx (.own x)) x (.ins C_Lead dx [])) := fun a b e => Bar.lkNe (ne_of_none e hx) (Bar.lkNew hdx e)
    have S3 : ∀ {H' : Hp}, Kp x (upd (upd H dx (.own x)) x (.ins C_Lead dx [])) H' → Same H H' := fun kk a b e => kk a b (ne_of_none e hx) (S2 _ _ e)
    refine ⟨x, dx, z, g, l, t, us, rfl, upd_same, oz, .inr (.inl (S2 _ _ ht)), (by omega), ou, ?_⟩
    cases fl with
    | name y =>
      refine .inr (.inl ⟨y, hf, fun d H' hd kk hy => ?_⟩)
      have S4 := S3 kk
      walk_at "rd"
      refine rTake ee_BadName.te fun q hq => ?_
      simp only [List.set_cons_succ, List.set_cons_zero]
      walk_at "rd"
      refine rXf hy lk_hd ?_
      walk_at "rd"
      refine rIsXC hy kN.b ?_
      walk_at "rd"
      refine rIsXT hy kN.v ?_
      walk_at "rd"
      intro t1 ht1
      walk_at "rd"
      have hy1 := Bar.lkNew (o := .lst [.str "name", .str y, .bl true, .bl true]) ht1 hy
      refine rIsXC hy1 kN.n1 ?_
      walk_at "rd"
      refine rIsXC hy1 kN.n2 ?_
      walk_at "rd"
      intro t2 ht2
      walk_at "rd"
      refine Bar.rCat_ (Bar.lkNew ht2 upd_same) upd_same (szLe (by show 6 ≤ 1000; decide)) fun t3 ht3 => ?_
      walk_at "rd"
      simp only [List.set_cons_succ, List.set_cons_zero]
      walk_at "rd"
      exact k t3 _ (fun b v e => Bar.lkNew ht3 (Bar.lkNew ht2 (Bar.lkNew ht1 (S4 b v e)))) upd_same
    | value v =>
      refine .inr (.inr (.inl ⟨v, hf, fun d H' hd kk hy => ?_⟩))
      have S4 := S3 kk
      walk_at "rd"
      refine rPass p1 ?_
      walk_at "rd"
      refine rTake ee_BadNumber.te fun q hq => ?_
      simp only [List.set_cons_succ, List.set_cons_zero]
      walk_at "rd"
      refine rXf hy lk_hd ?_
      walk_at "rd"
      refine rIsXC hy kV.b ?_
      walk_at "rd"
      refine rIsXT hy kV.v ?_
      walk_at "rd"
      intro t1 ht1
      walk_at "rd"
      have hy1 := Bar.lkNew (o := .lst [.str "value", .int v, .bl true, .bl true]) ht1 hy
      refine rIsXC hy1 kV.n1 ?_
      walk_at "rd"
      refine rIsXC hy1 kV.n2 ?_
      walk_at "rd"
      intro t2 ht2
      walk_at "rd"
      refine Bar.rCat_ (Bar.lkNew ht2 upd_same) upd_same (szLe (by show 6 ≤ 1000; decide)) fun t3 ht3 => ?_
      walk_at "rd"
      simp only [List.set_cons_succ, List.set_cons_zero]
      walk_at "rd"
      exact k t3 _ (fun b v e => Bar.lkNew ht3 (Bar.lkNew ht2 (Bar.lkNew ht1 (S4 b v e)))) upd_same
    | twice y =>
      refine .inr (.inr (.inr ⟨y, hf, fun d H' hd kk hy => ?_⟩))
      have S4 := S3 kk
      walk_at "rd"
      refine rPass p2 ?_
      walk_at "rd"
      refine rPass p3 ?_
      walk_at "rd"
      refine rTake ee_Twice.te fun q hq => ?_
      simp only [List.set_cons_succ, List.set_cons_zero]
      walk_at "rd"
      refine rXf hy lk_hd ?_
      walk_at "rd"
      refine rIsXC hy kT.b ?_
      walk_at "rd"
      refine rIsXT hy kT.v ?_
      walk_at "rd"
      intro t1 ht1
      walk_at "rd"
      have hy1 := Bar.lkNew (o := .lst [.str "twice", .str y, .bl true, .bl true]) ht1 hy
      refine rIsXC hy1 kT.n1 ?_
      walk_at "rd"
      refine rIsXC hy1 kT.n2 ?_
      walk_at "rd"
      intro t2 ht2
      walk_at "rd"
      refine Bar.rCat_ (Bar.lkNew ht2 upd_same) upd_same (szLe (by show 6 ≤ 1000; decide)) fun t3 ht3 => ?_
      walk_at "rd"
      simp only [List.set_cons_succ, List.set_cons_zero]
      walk_at "rd"
      exact k t3 _ (fun b v e => Bar.lkNew ht3 (Bar.lkNew ht2 (Bar.lkNew ht1 (S4 b v e)))) upd_same
end

/-! ### a name is tried -/
def trV (z : Str) (st off : Int) : List V := if nameB z = true then [.str "good", .str z, .bl true, .bl true, .int st, .int off] else [.str "bad", .str z, .bl true, .bl true, .bl false]
def spTried (CG : Addr) : Sp := fun vs H Q _ => ∃ (g : Addr) (z : Str) (k st off : Int), vs = [.str z, .ref g, .int k] ∧ 0 ≤ k ∧ k ≤ 2 ∧ TxOk z ∧ GridAt CG H g st off ∧ ∀ D H', Same H H' → H' D = some (.lst (trV z st off)) → Q (.ref D) H'
abbrev gA (et : Addr) : List V → List V → List V := fun vs zs => vs ++ zs ++ [.int 1, .ref et]
abbrev gC (et : Addr) : List V → List V → List V := fun vs zs => vs ++ zs ++ [.ref et]
theorem fault4 {z : Str} : fault z (some 4) 1 [] = if nameB z = true then none else some (.name z) := by
  cases h : nameB z with
  | false => rw [fault_name h]; rfl
  | true => rw [fault_some h]; rfl
theorem lfault4 {z : Str} : lfault z 4 [] = if nameB z = true then none else some (.name z) := by
  unfold lfault
  cases h : nameB z with
  | false => rfl
  | true => rfl
structure SndC (K : PySem.W.Frag) (C CS : Addr) : Prop where
  i : CIsi K C CS
  n1 : NoAttr K C "name"
  n2 : NoAttr K C "grid"
section
variable {P : Program} {w : World} {K : PySem.W.Frag} {mg : Str → Option Value} {base : Heap}
theorem ok_tried {f C_Grid C_Sound C_Clip C_Lead C_BadName C_BarclipsError C_BadNumber C_Twice et el : Addr} {fd : FuncData} (F : Fun K "_law_tried" "_law_tried" s_law_tried f fd) (T : Txt mg) (GG : GTxt K C_Grid) (IG : GIsi K mg C_Grid) (g_Sound : mg "Sound" = some (.ref C_Sound)) (g_Grid : mg "Grid" = some (.ref C_Grid)) (he : KEmp K et) (hel : KEmp K el)
    (QS : SndC K C_Sound C_Sound) (QC : SndC K C_Clip C_Sound) (QL : SndC K C_Lead C_Sound)
    (mkx_Sound2 : MadeX P w K mg base "Sound" C_Sound P_Sound___init__ [] 3 (spSoundX K C_BadName))
    (mkkx_Clip_grid_length : MadeK P w K mg base (L2.CX P w) "Clip" C_Clip P_Clip___init__ ["grid", "length"] 1 (gA et) 5 (spClipX K C_Clip C_BadName C_BadNumber))
    (mkkx_Lead_grid_length : MadeK P w K mg base (L2.CX P w) "Lead" C_Lead P_Lead___init__ ["grid", "length"] 1 (gC el) 5 (spLeadX K C_Lead C_BadName C_BadNumber C_Twice))
    (ee_BadName : ETxt K mg "BadName" C_BadName) (eb : EBase K mg "BarclipsError" C_BarclipsError) (ee_BadNumber : ETxt K mg "BadNumber" C_BadNumber)
    (no_BadName_name : PySem.W.findIn K (.ref C_BadName) "name" = some none) (be_ValueError : mg "ValueError" = none)
    (k1 : PySem.W.kitOne K (.ref C_BadName) (.ref C_BarclipsError) = some true) (k2 : PySem.W.kitOne K (.ref C_BadName) (.type "ValueError") = some true) (k3 : PySem.W.kitOne K (.ref C_BadName) (.ref C_BadNumber) = some false) :
    FnOk P w K mg base CX0 7 f fd P_law_tried (spTried C_Grid) := by
  refine F.ok sc_law_tried (fun vs H Q E h => ?_) (fun cdv A outer s H vs Q E hr h => ?_)
  · obtain ⟨g, z, k, st, off, rfl, _⟩ := h
    rfl
  · obtain ⟨g, z, kd, st, off, rfl, d0, d2, oz, hg, k⟩ := h
    refine ⟨_, (pss_cons (ps_set (i := 3) sc_law_tried.nd rfl (Or.inl rfl) pe_non)
    (pss_cons (ps_set (i := 4) sc_law_tried.nd rfl (Or.inl rfl) pe_non)
    (pss_mid (ps_try_as (i := 5) rfl rfl sc_law_tried.nd rfl rfl ⟨rfl, by decide, .inl ee_BadName.g⟩ takes0 (fun W pn xe tk _ => (pss_one (ps_if (pt_cmpR op_eq (pv 2) pe_int (nomark _)) (pss_one (ps_set (i := 4) sc_law_tried.nd rfl (Or.inl rfl) (pe_mkX mkx_Sound2 tk (hr.mono (by omega)) rfl (pa_cons (pv 0) (pa_cons (pv 1) pa_nil))))) (pss_one (ps_if (pt_cmpR op_eq (pv 2) pe_int (nomark _)) (pss_one (ps_set (i := 4) sc_law_tried.nd rfl (Or.inl rfl) (pe_mkKX mkkx_Clip_grid_length tk (hr.mono (by omega)) rfl (pa_cons (pv 0) pa_nil) (pk_cons (pv 1) (pk_cons pe_int pk_nil))))) (pss_one (ps_set (i := 4) sc_law_tried.nd rfl (Or.inl rfl) (pe_mkKX mkkx_Lead_grid_length tk (hr.mono (by omega)) rfl (pa_cons (pv 0) pa_nil) (pk_cons (pv 1) (pk_cons pe_int pk_nil))))))))))
    (fun a oe cls d pn hz hf => (pss_one (ps_set (i := 3) sc_law_tried.nd rfl (Or.inl rfl) (pe_lst (pa_cons pe_str (pa_cons (pe_xf ee_BadName.is.x no_BadName_name hz hf (pv 5)) (pa_cons (pe_callB (call_isX ee_BadName.is hz hf) rfl T.b_isinstance (by decide +kernel) (pa_cons (pv 5) (pa_cons (pe_glob (v := .ref C_BarclipsError) rfl eb.g rfl) pa_nil))) (pa_cons (pe_callB (call_isX ee_BadName.is hz hf) rfl T.b_isinstance (by decide +kernel) (pa_cons (pv 5) (pa_cons (pe_bltn (v := .ty "ValueError") (u := .type "ValueError") rfl be_ValueError (by decide +kernel) rfl) pa_nil))) (pa_cons (pe_callB (call_isX ee_BadName.is hz hf) rfl T.b_isinstance (by decide +kernel) (pa_cons (pv 5) (pa_cons (pe_glob (v := .ref C_BadNumber) rfl ee_BadNumber.g rfl) pa_nil))) pa_nil))))))))))
    (pss_cons (ps_if (pt_cmpR o_isN (pv 3) pe_non (nomark _)) (pss_cons (ps_set (i := 3) sc_law_tried.nd rfl (Or.inl rfl) (pe_lst (pa_cons pe_str (pa_cons (pe_fld (pv 4) rfl) (pa_cons (pe_callB call_isi rfl T.b_isinstance (by decide +kernel) (pa_cons (pv 4) (pa_cons (pe_glob (v := .ref C_Sound) rfl g_Sound rfl) pa_nil))) (pa_cons (pe_callB call_isi rfl T.b_isinstance (by decide +kernel) (pa_cons (pe_fld (pv 4) rfl) (pa_cons (pe_glob (v := .ref C_Grid) rfl g_Grid rfl) pa_nil))) pa_nil))))))
    (pss_one (ps_set (i := 3) sc_law_tried.nd rfl (Or.inl rfl) (pe_op op_cat (pv 3) (pe_lst (pa_cons (pe_fld (pe_fld (pv 4) rfl) rfl) (pa_cons (pe_fld (pe_fld (pv 4) rfl) rfl) pa_nil))))))) pss_nil)
    (pss_one (ps_ret (pv 3))))))), ?_⟩
    refine Bar.rStart (σ := [some (.str z), some (.ref g), some (.int kd), none, none, none]) rfl ?_
    walk_at "rd"
    refine ⟨fun σ H' => Same H H' ∧ ((nameB z = true ∧ ∃ (q C dx : Addr) (fs : List (Str × V)), H' q = some (.ins C dx fs) ∧ SndC K C C_Sound ∧ fs.lookup ("name" : Str) = some (.str z) ∧ fs.lookup ("grid" : Str) = some (.ref g) ∧ σ = [some (.str z), some (.ref g), some (.int kd), some .non, some (.ref q), none]) ∨
      (nameB z = false ∧ ∃ (D : Addr) (x y : Option V), H' D = some (.lst (trV z st off)) ∧ σ = [some (.str z), some (.ref g), some (.int kd), some (.ref D), x, y])), ?_, ?_⟩
    · have bad : ∀ {d : Addr} {H' : Hp}, True := fun {d H'} => trivial
      walk_at "rd"
      refine ite2 (fun h0 => ?_) (fun h0 => ?_)
      · walk_at "rd"
        intro x dx hx hdx _
        have S0 : Same H (upd (upd H dx (.own x)) x (.ins C_Sound dx [])) := fun _ _ e => Bar.lkNe (ne_of_none e hx) (Bar.lkNew hdx e)
        refine ⟨x, dx, C_Sound, z, .ref g, rfl, upd_same, QS.i.cl, QS.n1, QS.n2, oz.len, oz.small, ?_⟩
        cases hn : nameB z with
        | true =>
          refine .inl ⟨rfl, fun H1 K1 e1 => ?_⟩
          have S1 : Same H H1 := fun a o e => K1 a o (ne_of_none e hx) (S0 _ _ e)
          refine ⟨rfl, ?_⟩
          walk_at "rd"
          exact ⟨S1, .inl ⟨rfl, x, C_Sound, dx, _, e1, QS, rfl, rfl, rfl⟩⟩
        | false =>
          refine .inr ⟨rfl, fun d H' hd S hy => ?_⟩
          have S4 : Same H H' := fun _ _ e => S _ _ (S0 _ _ e)
          walk_at "rd"
          refine rTake ee_BadName.te fun q hq => ?_
          simp only [List.set_cons_succ, List.set_cons_zero]
          walk_at "rd"
          refine rXf hy lk_hd ?_
          walk_at "rd"
          refine rIsXC hy k1 ?_
          walk_at "rd"
          refine rIsXT hy k2 ?_
          walk_at "rd"
          refine rIsXC hy k3 ?_
          walk_at "rd"
          intro t ht
          walk_at "rd"
          simp only [List.set_cons_succ, List.set_cons_zero]
          walk_at "rd"
          refine ⟨fun _ _ e => Bar.lkNew ht (S4 _ _ e), .inr ⟨(by first | rfl | trivial), t, _, _, ?_, rfl⟩⟩
          rw [upd_same]
          unfold trV
          rw [if_neg (by rw [hn]; decide)]
      · walk_at "rd"
        refine ite2 (fun h1 => ?_) (fun h1 => ?_)
        · walk_at "rd"
          refine ⟨rfl, rfl, fun x dx hx hdx _ => ?_⟩
          have S0 : Same H (upd (upd H dx (.own x)) x (.ins C_Clip dx [])) := fun _ _ e => Bar.lkNe (ne_of_none e hx) (Bar.lkNew hdx e)
          refine ⟨x, dx, z, g, some 4, 1, et, [], rfl, upd_same, oz.len, oz.small, .inr (.inr ⟨rfl, he⟩), ?_⟩
          rw [fault4]
          cases hn : nameB z with
          | true =>
            rw [if_pos rfl]
            refine .inl ⟨rfl, fun t' H1 K1 e1 _ => ?_⟩
            have S1 : Same H H1 := fun a o e => K1 a o (ne_of_none e hx) (S0 _ _ e)
            refine ⟨rfl, ?_⟩
            walk_at "rd"
            exact ⟨S1, .inl ⟨rfl, x, C_Clip, dx, _, e1, QC, rfl, rfl, rfl⟩⟩
          | false =>
            rw [if_neg (by decide)]
            refine .inr (.inl ⟨z, rfl, fun d H' hd kk hy => ?_⟩)
            have S4 : Same H H' := fun a o e => kk a o (ne_of_none e hx) (S0 _ _ e)
            walk_at "rd"
            refine rTake ee_BadName.te fun q hq => ?_
            simp only [List.set_cons_succ, List.set_cons_zero]
            walk_at "rd"
            refine rXf hy lk_hd ?_
            walk_at "rd"
            refine rIsXC hy k1 ?_
            walk_at "rd"
            refine rIsXT hy k2 ?_
            walk_at "rd"
            refine rIsXC hy k3 ?_
            walk_at "rd"
            intro t ht
            walk_at "rd"
            simp only [List.set_cons_succ, List.set_cons_zero]
            walk_at "rd"
            refine ⟨fun _ _ e => Bar.lkNew ht (S4 _ _ e), .inr ⟨(by first | rfl | trivial), t, _, _, ?_, rfl⟩⟩
            rw [upd_same]
            unfold trV
            rw [if_neg (by rw [hn]; decide)]
        · walk_at "rd"
          refine ⟨rfl, rfl, fun x dx hx hdx _ => ?_⟩
          have S0 : Same H (upd (upd H dx (.own x)) x (.ins C_Lead dx [])) := fun _ _ e => Bar.lkNe (ne_of_none e hx) (Bar.lkNew hdx e)
          refine ⟨x, dx, z, g, 4, el, [], rfl, upd_same, oz, .inr (.inr ⟨rfl, hel⟩), by show 0 ≤ 1000; decide, (fun u hu => by cases hu), ?_⟩
          rw [lfault4]
          cases hn : nameB z with
          | true =>
            rw [if_pos rfl]
            refine .inl ⟨rfl, fun t' H1 K1 e1 _ => ?_⟩
            have S1 : Same H H1 := fun a o e => K1 a o (ne_of_none e hx) (S0 _ _ e)
            refine ⟨rfl, ?_⟩
            walk_at "rd"
            exact ⟨S1, .inl ⟨rfl, x, C_Lead, dx, _, e1, QL, rfl, rfl, rfl⟩⟩
          | false =>
            rw [if_neg (by decide)]
            refine .inr (.inl ⟨z, rfl, fun d H' hd kk hy => ?_⟩)
            have S4 : Same H H' := fun a o e => kk a o (ne_of_none e hx) (S0 _ _ e)
            walk_at "rd"
            refine rTake ee_BadName.te fun q hq => ?_
            simp only [List.set_cons_succ, List.set_cons_zero]
            walk_at "rd"
            refine rXf hy lk_hd ?_
            walk_at "rd"
            refine rIsXC hy k1 ?_
            walk_at "rd"
            refine rIsXT hy k2 ?_
            walk_at "rd"
            refine rIsXC hy k3 ?_
            walk_at "rd"
            intro t ht
            walk_at "rd"
            simp only [List.set_cons_succ, List.set_cons_zero]
            walk_at "rd"
            refine ⟨fun _ _ e => Bar.lkNew ht (S4 _ _ e), .inr ⟨(by first | rfl | trivial), t, _, _, ?_, rfl⟩⟩
            rw [upd_same]
            unfold trV
            rw [if_neg (by rw [hn]; decide)]
    · rintro σ H1 ⟨S1, h⟩
      have hg1 := hg.same S1
      rcases h with ⟨hn, q, C, dx, fs, hq, QQ, ln, lg, rfl⟩ | ⟨hn, D, x, y, hD, rfl⟩
      · walk_at "rd"
        refine Bar.rFldV hq QQ.i.cl QQ.n1 ln ?_
        walk_at "rd"
        refine isiS QQ.i hq ?_
        walk_at "rd"
        refine Bar.rFldV hq QQ.i.cl QQ.n2 lg ?_
        walk_at "rd"
        refine isiG IG hg1 ?_
        walk_at "rd"
        intro L hL
        have hq2 := Bar.lkNew (o := .lst [.str "good", .str z, .bl true, .bl true]) hL hq
        have hg2 : GridAt C_Grid (upd H1 L (.lst [.str "good", .str z, .bl true, .bl true])) g st off := hg1.same fun _ _ e => Bar.lkNew hL e
        walk_at "rd"
        refine Bar.rFldV hq2 QQ.i.cl QQ.n2 lg ?_
        walk_at "rd"
        refine rFS GG hg2 ?_
        walk_at "rd"
        refine Bar.rFldV hq2 QQ.i.cl QQ.n2 lg ?_
        walk_at "rd"
        refine rFO GG hg2 ?_
        walk_at "rd"
        intro L2 hL2
        walk_at "rd"
        refine Bar.rCat_ (Bar.lkNew hL2 upd_same) upd_same (szLe (by show 6 ≤ 1000; decide)) fun L3 hL3 => ?_
        walk_at "rd"
        refine k L3 _ (fun _ _ e => Bar.lkNew hL3 (Bar.lkNew hL2 (Bar.lkNew hL (S1 _ _ e)))) ?_
        rw [upd_same]
        unfold trV
        rw [if_pos hn]
        rfl
      · walk_at "rd"
        exact k D _ S1 hD
end


end Lw
namespace Lw
open PySem L2 Bar

/-! ### spoilt parts -/
def g1 (z : Str) : Option LFlt := if nameB z = false then some (.name z) else none
def g2 (z : Str) (l : Int) : Option LFlt := (g1 z).or (if l < 1 then some (.value l) else none)
theorem lfault_eq (z : Str) (l : Int) (us : List Str) : lfault z l us = (g2 z l).or ((twi [] us).map .twice) := by
  unfold g2 g1 lfault
  cases nameB z with
  | false => rfl
  | true =>
    show (if l < 1 then some (LFlt.value l) else (twi [] us).map .twice) = (((none : Option LFlt).or (if l < 1 then some (LFlt.value l) else none))).or _
    by_cases h : l < 1
    · rw [if_pos h, if_pos h]; rfl
    · rw [if_neg h, if_neg h]; rfl
theorem g1_ok {z : Str} (h : nameB z = true) : g1 z = none := by
  unfold g1
  rw [h]
  rfl
theorem g1_bad {z : Str} (h : nameB z = false) : g1 z = some (.name z) := if_pos h
theorem g2_ok {z : Str} {l : Int} (h : 1 ≤ l) : g2 z l = g1 z := by
  unfold g2
  rw [if_neg (by omega), Option.or_none]
theorem g2_bad {z : Str} {l : Int} (h : l < 1) : g2 z l = (g1 z).or (some (.value l)) := by
  unfold g2
  rw [if_pos h]
theorem or_some {x : Option LFlt} {y : LFlt} : ¬ x.or (some y) = none := by
  cases x with
  | none => intro e; cases e
  | some x => intro e; cases e
theorem twi_nodup : ∀ {us seen : List Str}, twi seen us = none → us.Nodup ∧ ∀ u ∈ us, u ∉ seen
  | [], _, _ => ⟨.nil, fun u hu => by cases hu⟩
  | z :: r, seen, h => by
    have h : (if z ∈ seen then some z else twi (seen ++ [z]) r) = none := h
    by_cases q : z ∈ seen
    · rw [if_pos q] at h; cases h
    · rw [if_neg q] at h
      obtain ⟨n, m⟩ := twi_nodup h
      refine ⟨List.nodup_cons.mpr ⟨fun hz => m z hz (List.mem_append_right _ (List.mem_singleton.mpr rfl)), n⟩, fun u hu => ?_⟩
      rcases List.mem_cons.mp hu with e | hu
      · rw [e]; exact q
      · exact fun w => m u hu (List.mem_append_left _ w)
theorem twi_some {us : List Str} (h : ¬ us.Nodup) : ∃ y, twi [] us = some y := by
  cases e : twi [] us with
  | some y => exact ⟨y, rfl⟩
  | none => exact absurd (twi_nodup e).1 h
theorem twi_none : ∀ {us seen : List Str}, us.Nodup → (∀ u ∈ us, u ∉ seen) → twi seen us = none
  | [], _, _, _ => rfl
  | z :: r, seen, nd, h => by
    obtain ⟨n1, n2⟩ := List.nodup_cons.mp nd
    show (if z ∈ seen then some z else twi (seen ++ [z]) r) = none
    rw [if_neg (h z (List.mem_cons_self ..))]
    refine twi_none n2 fun u hu q => ?_
    rcases List.mem_append.mp q with q | q
    · exact h u (List.mem_cons_of_mem _ hu) q
    · rw [List.mem_singleton.mp q] at hu
      exact n1 hu
theorem ins_bad {us : List Str} {y : Str} {n : Nat} (h : y ∈ us) : ¬ (us.take n ++ [y] ++ us.drop n).Nodup := fun q => by
  have e : (us.take n ++ [y] ++ us.drop n).Perm (y :: us) := by
    have := (List.perm_middle (a := y) (l₁ := us.take n) (l₂ := us.drop n))
    rw [List.take_append_drop] at this
    rw [List.append_assoc]
    exact this
  exact (List.nodup_cons.mp (e.nodup_iff.mp q)).1 h
theorem cutV_to (xs : List V) (n : Nat) : cutV xs none (some (n : Int)) = xs.take n := by
  unfold cutV
  have e1 : HT.sIx xs.length 0 none = 0 := rfl
  have e2 : HT.sIx xs.length xs.length (some (n : Int)) = min n xs.length := HT.sIx_nat xs.length xs.length n
  rw [e1, e2, List.drop_zero, Nat.sub_zero, ← List.take_eq_take_min]
theorem cutV_from (xs : List V) (n : Nat) : cutV xs (some (n : Int)) none = xs.drop n := by
  unfold cutV
  have e1 : HT.sIx xs.length 0 (some (n : Int)) = min n xs.length := HT.sIx_nat xs.length 0 n
  have e2 : HT.sIx xs.length xs.length none = xs.length := rfl
  rw [e1, e2]
  by_cases l : n ≤ xs.length
  · rw [Nat.min_eq_left l]
    exact List.take_of_length_le (by rw [List.length_drop]; exact Nat.le_refl _)
  · rw [Nat.min_eq_right (by omega), List.drop_length, List.drop_eq_nil_of_le (by omega), List.take_nil]
def LFAt (H : Hp) (d : Addr) : LFlt → Prop
  | .name y => H d = some (.lst [.str "name", .str y])
  | .value v => H d = some (.lst [.str "value", .int v])
  | .twice y => H d = some (.lst [.str "twice", .str y])
def lfV : LFlt → List V
  | .name y => [.str "name", .str y]
  | .value v => [.str "value", .int v]
  | .twice y => [.str "twice", .str y]
theorem lfat {H : Hp} {d : Addr} {f : LFlt} : LFAt H d f ↔ H d = some (.lst (lfV f)) := by cases f <;> exact Iff.rfl
/-- the lists of what is due: the first one tells the fault -/
def FltAt (b B D : Addr) (H : Hp) (fl : Option LFlt) (ds : List Addr) : Prop := (fl = none ∧ ds = []) ∨ ∃ f d r, fl = some f ∧ ds = d :: r ∧ LFAt H d f ∧ d ≠ b ∧ d ≠ B ∧ d ≠ D
theorem FltAt.to {b B D : Addr} {H H' : Hp} {fl : Option LFlt} {ds : List Addr} (h : FltAt b B D H fl ds) (k : ∀ d xs, d ≠ b → d ≠ B → d ≠ D → H d = some (.lst xs) → H' d = some (.lst xs)) : FltAt b B D H' fl ds := by
  rcases h with h | ⟨f, d, r, e1, e, h1, n1, n2, n3⟩
  · exact .inl h
  · exact .inr ⟨f, d, r, e1, e, lfat.mpr (k d _ n1 n2 n3 (lfat.mp h1)), n1, n2, n3⟩
structure SInv (b B D : Addr) (s : Int) (H H' : Hp) (z : Str) (l : Int) (m : Addr) (us : List Str) (fl : Option LFlt) (n : Nat) : Prop where
  kp : Kp b H H'
  bx : ∃ c n, H' b = some (box c s n)
  bd : H' B = some (.lst [.str z, .int l, .ref m])
  ml : H' m = some (.lst (us.map V.str))
  nm : m ≠ b ∧ m ≠ B ∧ m ≠ D
  du : ∃ ds : List Addr, H' D = some (.lst (ds.map V.ref)) ∧ ds.length ≤ n ∧ FltAt b B D H' fl ds
structure SNe (b B D : Addr) (H : Hp) : Prop where
  fb : H B = none
  fd : H D = none
  bb : B ≠ b
  db : D ≠ b
  bd : B ≠ D
section
variable {b B D m m' : Addr} {s l l' : Int} {H H' H2 : Hp} {z z' : Str} {us us' : List Str} {fl : Option LFlt} {n : Nat}
theorem SInv.draw (N : SNe b B D H) (h : SInv b B D s H H' z l m us fl n) (k : KpB b s H' H2) : SInv b B D s H H2 z l m us fl n := by
  obtain ⟨k, c2, n2, hb2⟩ := k
  obtain ⟨ds, h1, h2, h3⟩ := h.du
  exact ⟨h.kp.trans k, ⟨_, _, hb2⟩, k _ _ N.bb h.bd, k _ _ h.nm.1 h.ml, h.nm, ds, k _ _ N.db h1, h2, h3.to fun d xs n1 _ _ e => k _ _ n1 e⟩
theorem SInv.draw2 {e : Addr} {u : HO} (N : SNe b B D H) (h : SInv b B D s H H' z l m us fl n) (he : H' e = none) (k : Kp2 b e (upd H' e u) H2) (hb2 : ∃ c n, H2 b = some (box c s n)) : SInv b B D s H H2 z l m us fl n := by
  obtain ⟨ds, h1, h2, h3⟩ := h.du
  have kk : ∀ {a : Addr} {o : HO}, a ≠ b → H' a = some o → H2 a = some o := fun {a o} na ea => k _ _ na (ne_of_none ea he) (Bar.lkNew he ea)
  exact ⟨fun a o na ea => kk na (h.kp a o na ea), hb2, kk N.bb h.bd, kk h.nm.1 h.ml, h.nm, ds, kk N.db h1, h2, h3.to fun d xs n1 _ _ e => kk n1 e⟩
theorem SInv.new {p : Addr} {u : HO} (h : SInv b B D s H H' z l m us fl n) (hp : H' p = none) : SInv b B D s H (upd H' p u) z l m us fl n := by
  obtain ⟨c, nn, hb⟩ := h.bx
  obtain ⟨ds, h1, h2, h3⟩ := h.du
  exact ⟨h.kp.trans (Kp.new hp), ⟨_, _, Bar.lkNew hp hb⟩, Bar.lkNew hp h.bd, Bar.lkNew hp h.ml, h.nm, ds, Bar.lkNew hp h1, h2, h3.to fun d xs _ _ _ e => Bar.lkNew hp e⟩
theorem SInv.le (h : SInv b B D s H H' z l m us fl n) : SInv b B D s H H' z l m us fl (n + 1) := by
  obtain ⟨ds, h1, h2, h3⟩ := h.du
  exact ⟨h.kp, h.bx, h.bd, h.ml, h.nm, ds, h1, Nat.le_succ_of_le h2, h3⟩
/-- the parts are changed -/
theorem SInv.setB (N : SNe b B D H) (h : SInv b B D s H H' z l m us fl n) (hm : H' m' = some (.lst (us'.map V.str))) (nm : m' ≠ b ∧ m' ≠ B ∧ m' ≠ D) : SInv b B D s H (upd H' B (.lst [.str z', .int l', .ref m'])) z' l' m' us' fl n := by
  obtain ⟨c, nn, hb⟩ := h.bx
  obtain ⟨ds, h1, h2, h3⟩ := h.du
  exact ⟨fun a o na e => Bar.lkNe (ne_of_none e N.fb) (h.kp a o na e), ⟨_, _, Bar.lkNe N.bb.symm hb⟩, upd_same, Bar.lkNe nm.2.1 hm, nm, ds, Bar.lkNe N.bd.symm h1, h2, h3.to fun d xs _ n2 _ e => Bar.lkNe n2 e⟩
theorem refs_inj : ∀ {ds es : List Addr}, ds.map V.ref = es.map V.ref → ds = es
  | [], [], _ => rfl
  | a :: l, c :: r, h => by
    rw [List.map_cons, List.map_cons] at h
    injection h with q1 q2
    injection q1 with q1
    rw [q1, refs_inj q2]
/-- what is due is put at the end -/
theorem SInv.due {d : Addr} {g : LFlt} {ys : List V} {ds : List Addr} (N : SNe b B D H) (h : SInv b B D s H H' z l m us fl n) (hd : H' d = none) (hD : H' D = some (.lst (ds.map V.ref))) (hg : ys = lfV g) :
    SInv b B D s H (upd (upd H' d (.lst ys)) D (.lst (ds.map V.ref ++ [.ref d]))) z l m us (fl.or (some g)) (n + 1) := by
  obtain ⟨c, nn, hb⟩ := h.bx
  obtain ⟨es, h1, h2, h3⟩ := h.du
  have ee : es = ds := by
    rw [hD] at h1
    exact (refs_inj (HO.lst.inj (Option.some.inj h1))).symm
  subst ee
  have hdB : d ≠ B := fun e => by
    rw [e, h.bd] at hd
    cases hd
  have hdb : d ≠ b := fun e => by
    rw [e, hb] at hd
    cases hd
  have hdD : d ≠ D := fun e => by
    rw [e, hD] at hd
    cases hd
  refine ⟨fun a u na e => Bar.lkNe (ne_of_none e N.fd) (Bar.lkNew hd (h.kp a u na e)), ⟨c, nn, Bar.lkNe N.db.symm (Bar.lkNew hd hb)⟩, Bar.lkNe N.bd (Bar.lkNew hd h.bd), Bar.lkNe h.nm.2.2 (Bar.lkNew hd h.ml), h.nm, es ++ [d], by rw [upd_same, List.map_append]; rfl, by rw [List.length_append]; exact Nat.add_le_add_right h2 1, ?_⟩
  rcases h3 with ⟨rfl, rfl⟩ | ⟨f, x, rs, rfl, rfl, hf, n1, n2, n3⟩
  · exact .inr ⟨g, d, [], rfl, rfl, lfat.mpr (by rw [← hg]; exact Bar.lkNe hdD upd_same), hdb, hdB, hdD⟩
  · exact .inr ⟨f, x, rs ++ [d], rfl, rfl, lfat.mpr (Bar.lkNe n3 (Bar.lkNew hd (lfat.mp hf))), n1, n2, n3⟩
end
theorem twoL_at {r : Int} (h0 : 0 ≤ r) (h1 : r < 3) : ∃ v : Int, atI [V.int 1, V.int 2, V.int (10 ^ Int.toNat 30)] r = some (.int v) ∧ 1 ≤ v ∧ v ≤ 10 ^ 30 := by
  have h : r = 0 ∨ r = 1 ∨ r = 2 := by omega
  rcases h with h | h | h <;> (subst h; exact ⟨_, rfl, by decide, by decide⟩)
theorem txName {u : Str} (h : nameB u = true) : TxOk u := ⟨(by have := (name_len h).2; omega), name_small h⟩
def spSpoilt : Sp := fun vs H Q _ => ∃ (b m : Addr) (c s n : Int) (z : Str) (l : Int) (us : List Str), vs = [.ref b, .str z, .int l, .ref m] ∧ H b = some (box c s n) ∧ nameB z = true ∧ 1 ≤ l ∧ H m = some (.lst (us.map V.str)) ∧ us.Nodup ∧ us.length ≤ 8 ∧ (∀ u ∈ us, TxOk u) ∧ m ≠ b ∧
  ∀ (R B d m' : Addr) (z' : Str) (l' : Int) (us' : List Str) (fl : LFlt) (H' : Hp), KpB b s H H' → H' R = some (.lst [.ref B, .ref d]) → H' B = some (.lst [.str z', .int l', .ref m']) → H' m' = some (.lst (us'.map V.str)) → TxOk z' → us'.length ≤ 20 → (∀ u ∈ us', TxOk u) → lfault z' l' us' = some fl → LFAt H' d fl → Q (.ref R) H'
section
variable {P : Program} {w : World} {K : PySem.W.Frag} {mg : Str → Option Value} {base : Heap}
theorem ok_spoilt {f : Addr} {fd : FuncData} (F : Fun K "_law_spoilt" "_law_spoilt" s_law_spoilt f fd) (T : Txt mg) (f_law_draw : Fn P w K mg base "_law_draw" P_law_draw [] 1 spDrawA) (f_law_bad_name : Fn P w K mg base "_law_bad_name" P_law_bad_name [] 2 spBadName) (f_law_name : Fn P w K mg base "_law_name" P_law_name [] 2 spName) (f_law_first_twice : Fn P w K mg base "_law_first_twice" P_law_first_twice [] 1 spFirst) : FnOk P w K mg base CX0 3 f fd P_law_spoilt spSpoilt := by
  refine F.ok sc_law_spoilt (fun vs H Q E h => ?_) (fun cdv A outer s H vs Q E hr h => ?_)
  · obtain ⟨b, m, c, s, n, z, l, us, rfl, _⟩ := h
    rfl
  · obtain ⟨b, m0, c, sa, n, z, l, us0, rfl, hb, nz, l1, hm0, nd0, lu0, ou0, nmb, k⟩ := h
    have big30 : (10 : Int) ^ 30 ≤ big := by decide
    refine ⟨_, (pss_cons (ps_set (i := 4) sc_law_spoilt.nd rfl (Or.inl rfl) (pe_lst (pa_cons (pv 1) (pa_cons (pv 2) (pa_cons (pe_callTy call_list_of rfl T.b_list (by decide +kernel) (pa_cons (pv 3) pa_nil)) pa_nil)))))
    (pss_cons (ps_set (i := 5) sc_law_spoilt.nd rfl (Or.inl rfl) (pe_fn f_law_draw (hr.mono (by omega)) rfl (pa_cons (pv 0) (pa_cons pe_int pa_nil))))
    (pss_cons (ps_set (i := 6) sc_law_spoilt.nd rfl (Or.inl rfl) (pe_fn f_law_draw (hr.mono (by omega)) rfl (pa_cons (pv 0) (pa_cons pe_int pa_nil))))
    (pss_cons (ps_set (i := 7) sc_law_spoilt.nd rfl (Or.inl rfl) (pe_lst pa_nil))
    (pss_mid (ps_if (PW.pt (pw_or (pt_cmpR op_eq (pv 5) pe_int (nomark _)) (pw_or1 (pt_cmpR op_eq (pv 6) pe_int (nomark _))))) (pss_cons (ps_asg (pe_fn f_law_bad_name (hr.mono (by omega)) rfl (pa_cons (pv 0) (pa_cons (pv 1) pa_nil))) (pg_sub (pv 4) pe_int set_list))
    (pss_one (ps_expr (pe_bm PySem.F.plainAttrs_list PySem.F.slot_list_append PySem.F.type_list_append mt_append (pv 7) (pa_cons (pe_lst (pa_cons pe_str (pa_cons (pe_ix ix_list (pv 4) pe_int (fun _ _ => rfl)) pa_nil))) pa_nil))))) pss_nil)
    (pss_mid (ps_if (PW.pt (pw_or (pt_cmpR op_eq (pv 5) pe_int (nomark _)) (pw_or1 (pt_cmpR op_eq (pv 6) pe_int (nomark _))))) (pss_cons (ps_asg (pe_op op_sub pe_int (pe_fn f_law_draw (hr.mono (by omega)) rfl (pa_cons (pv 0) (pa_cons (pe_ix ix_tup (pe_tup (pa_cons pe_int (pa_cons pe_int (pa_cons (pe_op op_powW pe_int pe_int) pa_nil)))) (pe_fn f_law_draw (hr.mono (by omega)) rfl (pa_cons (pv 0) (pa_cons pe_int pa_nil))) (fun _ _ => rfl)) pa_nil)))) (pg_sub (pv 4) pe_int set_list))
    (pss_one (ps_expr (pe_bm PySem.F.plainAttrs_list PySem.F.slot_list_append PySem.F.type_list_append mt_append (pv 7) (pa_cons (pe_lst (pa_cons pe_str (pa_cons (pe_ix ix_list (pv 4) pe_int (fun _ _ => rfl)) pa_nil))) pa_nil))))) pss_nil)
    (pss_mid (ps_if (PW.pt (pw_or (pt_cmpR op_eq (pv 5) pe_int (nomark _)) (pw_or1 (pt_cmpR op_eq (pv 6) pe_int (nomark _))))) (pss_mid (ps_if (pt_cmpR op_eq (pe_callB c_len rfl T.b_len PySem.boot_len (pa_cons (pv 3) pa_nil)) pe_int (nomark _)) (pss_one (ps_asg (pe_lst (pa_cons (pe_fn f_law_name (hr.mono (by omega)) rfl (pa_cons (pv 0) (pa_cons (pe_lst pa_nil) pa_nil))) pa_nil)) (pg_sub (pv 4) pe_int set_list))) pss_nil)
    (pss_cons (ps_for PassesOwn.never rfl  (pi_range1 rfl T.b_range (pa_cons (pe_op op_add pe_int (pe_fn f_law_draw (hr.mono (by omega)) rfl (pa_cons (pv 0) (pa_cons pe_int pa_nil)))) pa_nil)) (pg_name (i := 8) sc_law_spoilt.nd rfl (Or.inl rfl)) (pss_cons (ps_set (i := 9) sc_law_spoilt.nd rfl (Or.inl rfl) (pe_ix ix_list (pe_ix ix_list (pv 4) pe_int (fun _ _ => rfl)) (pe_fn f_law_draw (hr.mono (by omega)) rfl (pa_cons (pv 0) (pa_cons (pe_callB c_len rfl T.b_len PySem.boot_len (pa_cons (pe_ix ix_list (pv 4) pe_int (fun _ _ => rfl)) pa_nil)) pa_nil))) (fun _ _ => rfl)))
    (pss_cons (ps_set (i := 10) sc_law_spoilt.nd rfl (Or.inl rfl) (pe_fn f_law_draw (hr.mono (by omega)) rfl (pa_cons (pv 0) (pa_cons (pe_op op_add (pe_callB c_len rfl T.b_len PySem.boot_len (pa_cons (pe_ix ix_list (pv 4) pe_int (fun _ _ => rfl)) pa_nil)) pe_int) pa_nil))))
    (pss_one (ps_asg (pe_op op_cat (pe_op op_cat (pe_slice sl_list (pe_ix ix_list (pv 4) pe_int (fun _ _ => rfl)) po_none (po_some (pv 10))) (pe_lst (pa_cons (pv 9) pa_nil))) (pe_slice sl_list (pe_ix ix_list (pv 4) pe_int (fun _ _ => rfl)) (po_some (pv 10)) po_none)) (pg_sub (pv 4) pe_int set_list))))))
    (pss_one (ps_expr (pe_bm PySem.F.plainAttrs_list PySem.F.slot_list_append PySem.F.type_list_append mt_append (pv 7) (pa_cons (pe_lst (pa_cons pe_str (pa_cons (pe_fn f_law_first_twice (hr.mono (by omega)) rfl (pa_cons (pe_ix ix_list (pv 4) pe_int (fun _ _ => rfl)) pa_nil)) pa_nil))) pa_nil)))))) pss_nil)
    (pss_one (ps_ret (pe_lst (pa_cons (pv 4) (pa_cons (pe_ix ix_list (pv 7) pe_int (fun _ _ => rfl)) pa_nil)))))))))))), ?_⟩
    refine Bar.rStart (σ := [some (.ref b), some (.str z), some (.int l), some (.ref m0), none, none, none, none, none, none, none]) rfl ?_
    walk_at "rd"
    refine ⟨m0, _, rfl, .inl (SqL.of hm0), fun m hm => ?_⟩
    walk_at "rd"
    intro B hB
    have nmB : m ≠ B := fun e => by
      rw [← e, upd_same] at hB
      cases hB
    have nm : m ≠ b := fun e => by
      rw [e, hb] at hm
      cases hm
    have nBb : B ≠ b := fun e => by
      rw [e, Bar.lkNew hm hb] at hB
      cases hB
    have fB : H B = none := by
      cases e : H B with
      | none => rfl
      | some o' =>
        rw [Bar.lkNew hm e] at hB
        cases hB
    walk_at "rd"
    refine ⟨b, c, sa, n, 3, rfl, Bar.lkNew hB (Bar.lkNew hm hb), by decide, by decide, fun r1 H1 l1' u1 ⟨K1, c1, n1, hb1⟩ => ?_⟩
    walk_at "rd"
    refine ⟨b, c1, sa, n1, 6, rfl, hb1, by decide, by decide, fun r2 H2 l2 u2 ⟨K2, c2, n2, hb2⟩ => ?_⟩
    have hB2 : H2 B = some (.lst [.str z, .int l, .ref m]) := K2 _ _ nBb (K1 _ _ nBb upd_same)
    have hm2 : H2 m = some (.lst (us0.map V.str)) := K2 _ _ nm (K1 _ _ nm (Bar.lkNew hB upd_same))
    have K02 : Kp b H H2 := (((Kp.new hm).trans (Kp.new hB)).trans K1).trans K2
    clear K1 K2 hb1
    walk_at "rd"
    intro D hD
    have nDb : D ≠ b := fun e => by
      rw [e, hb2] at hD
      cases hD
    have nBD : B ≠ D := fun e => by
      rw [← e, hB2] at hD
      cases hD
    have nmD : m ≠ D := fun e => by
      rw [← e, hm2] at hD
      cases hD
    have N : SNe b B D H := ⟨fB, K02.free hb hb2 hD, nBb, nDb, nBD⟩
    have I0 : SInv b B D sa H (upd H2 D (.lst [])) z l m us0 none 0 := ⟨K02.trans (Kp.new hD), ⟨_, _, Bar.lkNew hD hb2⟩, Bar.lkNew hD hB2, Bar.lkNew hD hm2, ⟨nm, nmB, nmD⟩, [], upd_same, Nat.le_refl _, .inl ⟨rfl, rfl⟩⟩
    generalize upd H2 D (.lst []) = H3 at I0
    clear K02 hb2 hB2 hm2 hD hB hm
    have mk : ∀ {H' : Hp}, Kp b H H' → H' m0 = some (.lst (us0.map V.str)) := fun kk => kk _ _ nmb hm0
    walk_at "rd"
    refine ⟨fun σ H' => ∃ z', TxOk z' ∧ SInv b B D sa H H' z' l m us0 (g1 z') 1 ∧ (g1 z' = none → 1 ≤ r1) ∧ σ = [some (.ref b), some (.str z), some (.int l), some (.ref m0), some (.ref B), some (.int r1), some (.int r2), some (.ref D), none, none, none], ?_, ?_⟩
    · have hBd := I0.bd
      obtain ⟨c3, n3, hb3⟩ := id I0.bx
      walk_at "rd"
      refine ite2 (fun h1 => ?_) (fun h1 => ?_)
      · walk_at "rd"
        refine ⟨b, c3, sa, n3, z, rfl, hb3, nz, fun y H4 hy k4 => ?_⟩
        have I4 := I0.draw N k4
        have hB4 := I4.bd
        obtain ⟨es, hD4, le, _⟩ := id I4.du
        have I5 := I4.setB (z' := y) (l' := l) N I4.ml I4.nm
        have hD5 : (upd H4 B (.lst [.str y, .int l, .ref m])) D = some (.lst (es.map V.ref)) := Bar.lkNe N.bd.symm hD4
        walk_at "rd"
        intro d hd
        walk_at "rd"
        have I6 := I5.due (g := .name y) N hd hD5 rfl
        refine Bar.rAppend_ (Bar.lkNew hd hD5) (Bar.szLt (by rw [List.length_map]; omega)) ?_
        walk_at "rd"
        exact ⟨y, ⟨hy.len, hy.small⟩, by rw [g1_bad hy.no]; exact I6, (fun q => by rw [g1_bad hy.no] at q; cases q), rfl⟩
      · walk_at "rd"
        refine ite2 (fun h2 => ?_) (fun h2 => ?_)
        · walk_at "rd"
          refine ⟨b, c3, sa, n3, z, rfl, hb3, nz, fun y H4 hy k4 => ?_⟩
          have I4 := I0.draw N k4
          have hB4 := I4.bd
          obtain ⟨es, hD4, le, _⟩ := id I4.du
          have I5 := I4.setB (z' := y) (l' := l) N I4.ml I4.nm
          have hD5 : (upd H4 B (.lst [.str y, .int l, .ref m])) D = some (.lst (es.map V.ref)) := Bar.lkNe N.bd.symm hD4
          walk_at "rd"
          intro d hd
          walk_at "rd"
          have I6 := I5.due (g := .name y) N hd hD5 rfl
          refine Bar.rAppend_ (Bar.lkNew hd hD5) (Bar.szLt (by rw [List.length_map]; omega)) ?_
          walk_at "rd"
          exact ⟨y, ⟨hy.len, hy.small⟩, by rw [g1_bad hy.no]; exact I6, (fun q => by rw [g1_bad hy.no] at q; cases q), rfl⟩
        · walk_at "rd"
          exact ⟨z, txName nz, by rw [g1_ok nz]; exact I0.le, (fun _ => by have : ¬ r1 = 0 := fun e => h1 (decide_eq_true e); omega), rfl⟩
    rintro σ H4 ⟨z1, oz1, I1, lo1, rfl⟩
    clear I0
    walk_at "rd"
    refine ⟨fun σ H' => ∃ l', SInv b B D sa H H' z1 l' m us0 (g2 z1 l') 2 ∧ (g2 z1 l' = none → 2 ≤ r1) ∧ σ = [some (.ref b), some (.str z), some (.int l), some (.ref m0), some (.ref B), some (.int r1), some (.int r2), some (.ref D), none, none, none], ?_, ?_⟩
    · have hBd := I1.bd
      obtain ⟨c4, n4, hb4⟩ := id I1.bx
      walk_at "rd"
      refine ite2 (fun h1 => ?_) (fun h1 => ?_)
      · walk_at "rd"
        intro tq htq
        walk_at "rd"
        have It := I1.new (u := .tup [.int 1, .int 2, .int (10 ^ Int.toNat 30)]) htq
        have nqb : tq ≠ b := fun e => by
          rw [e, hb4] at htq
          cases htq
        refine ⟨b, c4, sa, n4, 3, rfl, Bar.lkNew htq hb4, by decide, by decide, fun r3 H5 l3 u3 k5 => ?_⟩
        obtain ⟨v, hv, v0, v1⟩ := twoL_at l3 u3
        refine Bar.rIxT_ (SqT.of (k5.1 _ _ nqb upd_same)) hv ?_
        have I5 := It.draw N k5
        obtain ⟨c5, n5, hb5⟩ := id I5.bx
        walk_at "rd"
        refine ⟨b, c5, sa, n5, v, rfl, hb5, by omega, by omega, fun r4 H6 l4 u4 k6 => ?_⟩
        have I6 := I5.draw N k6
        have hB6 := I6.bd
        obtain ⟨es, hD6, le, _⟩ := id I6.du
        have I7 := I6.setB (z' := z1) (l' := 0 - r4) N I6.ml I6.nm
        have hD7 : (upd H6 B (.lst [.str z1, .int (0 - r4), .ref m])) D = some (.lst (es.map V.ref)) := Bar.lkNe N.bd.symm hD6
        walk_at "rd"
        intro d hd
        walk_at "rd"
        have I8 := I7.due (g := .value (0 - r4)) N hd hD7 rfl
        refine Bar.rAppend_ (Bar.lkNew hd hD7) (Bar.szLt (by rw [List.length_map]; omega)) ?_
        walk_at "rd"
        exact ⟨0 - r4, by rw [g2_bad (by omega)]; exact I8, (fun q => by rw [g2_bad (by omega)] at q; exact absurd q or_some), rfl⟩
      · walk_at "rd"
        refine ite2 (fun h2 => ?_) (fun h2 => ?_)
        · walk_at "rd"
          intro tq htq
          walk_at "rd"
          have It := I1.new (u := .tup [.int 1, .int 2, .int (10 ^ Int.toNat 30)]) htq
          have nqb : tq ≠ b := fun e => by
            rw [e, hb4] at htq
            cases htq
          refine ⟨b, c4, sa, n4, 3, rfl, Bar.lkNew htq hb4, by decide, by decide, fun r3 H5 l3 u3 k5 => ?_⟩
          obtain ⟨v, hv, v0, v1⟩ := twoL_at l3 u3
          refine Bar.rIxT_ (SqT.of (k5.1 _ _ nqb upd_same)) hv ?_
          have I5 := It.draw N k5
          obtain ⟨c5, n5, hb5⟩ := id I5.bx
          walk_at "rd"
          refine ⟨b, c5, sa, n5, v, rfl, hb5, by omega, by omega, fun r4 H6 l4 u4 k6 => ?_⟩
          have I6 := I5.draw N k6
          have hB6 := I6.bd
          obtain ⟨es, hD6, le, _⟩ := id I6.du
          have I7 := I6.setB (z' := z1) (l' := 0 - r4) N I6.ml I6.nm
          have hD7 : (upd H6 B (.lst [.str z1, .int (0 - r4), .ref m])) D = some (.lst (es.map V.ref)) := Bar.lkNe N.bd.symm hD6
          walk_at "rd"
          intro d hd
          walk_at "rd"
          have I8 := I7.due (g := .value (0 - r4)) N hd hD7 rfl
          refine Bar.rAppend_ (Bar.lkNew hd hD7) (Bar.szLt (by rw [List.length_map]; omega)) ?_
          walk_at "rd"
          exact ⟨0 - r4, by rw [g2_bad (by omega)]; exact I8, (fun q => by rw [g2_bad (by omega)] at q; exact absurd q or_some), rfl⟩
        · walk_at "rd"
          have e := g2_ok (z := z1) l1
          exact ⟨l, by rw [e]; exact I1.le, (fun q => by have := lo1 (e ▸ q); have : ¬ r1 = 1 := fun e => h1 (decide_eq_true e); omega), rfl⟩
    rintro σ H5 ⟨ls, I2, lo2, rfl⟩
    clear I1 lo1
    walk_at "rd"
    refine ⟨fun σ H' => ∃ m' us' x y w, SInv b B D sa H H' z1 ls m' us' (lfault z1 ls us') 3 ∧ us'.length ≤ 20 ∧ (∀ u ∈ us', TxOk u) ∧ lfault z1 ls us' ≠ none ∧ σ = [some (.ref b), some (.str z), some (.int l), some (.ref m0), some (.ref B), some (.int r1), some (.int r2), some (.ref D), x, y, w], ?_, ?_⟩
    · have hBd := I2.bd
      have hmk := mk I2.kp
      obtain ⟨c4, n4, hb4⟩ := id I2.bx
      walk_at "rd"
      refine ite2 (fun h1 => ?_) (fun h1 => ?_)
      · walk_at "rd"
        refine ⟨fun σ H' => ∃ m1 us1, SInv b B D sa H H' z1 ls m1 us1 (g2 z1 ls) 2 ∧ us1 ≠ [] ∧ us1.length ≤ 9 ∧ (∀ u ∈ us1, TxOk u) ∧ σ = [some (.ref b), some (.str z), some (.int l), some (.ref m0), some (.ref B), some (.int r1), some (.int r2), some (.ref D), none, none, none], ?_, ?_⟩
        · walk_at "rd"
          refine ite2 (fun h3 => ?_) (fun h3 => ?_)
          · walk_at "rd"
            intro ee hee
            walk_at "rd"
            refine ⟨b, ee, c4, sa, n4, [], rfl, Bar.lkNew hee hb4, upd_same, by decide, fun y H6 ny _ K6 ⟨c6, n6, hb6⟩ _ => ?_⟩
            have I6 := I2.draw2 N hee K6 ⟨_, _, hb6⟩
            have hB6 := I6.bd
            walk_at "rd"
            intro m1 hm1
            have I7 := I6.new (u := .lst [.str y]) hm1
            have nmb1 : m1 ≠ b := fun e => by
              rw [e, hb6] at hm1
              cases hm1
            have nmB1 : m1 ≠ B := fun e => by
              rw [e, hB6] at hm1
              cases hm1
            obtain ⟨es6, hD6, _, _⟩ := id I6.du
            have nmD1 : m1 ≠ D := fun e => by
              rw [e, hD6] at hm1
              cases hm1
            walk_at "rd"
            exact ⟨m1, [y], I7.setB (us' := [y]) N upd_same ⟨nmb1, nmB1, nmD1⟩, by simp, by show 1 ≤ 9; decide, (fun u hu => by rw [List.mem_singleton.mp hu]; exact txName ny), rfl⟩
          · have ne : us0 ≠ [] := fun q => by
              apply h3
              rw [q]
              rfl
            walk_at "rd"
            exact ⟨m, us0, I2, ne, by omega, ou0, rfl⟩
        rintro σ H6 ⟨m1, us1, I3, ne1, l9, ou1, rfl⟩
        obtain ⟨c6, n6, hb6⟩ := id I3.bx
        walk_at "rd"
        refine ⟨b, c6, sa, n6, 2, rfl, hb6, by decide, by decide, fun r5 H7 l5 u5 k7 => ?_⟩
        have I7 := I3.draw N k7
        walk_at "rd"
        refine Bar.forR (1 + r5).toNat rfl (fun i σ H' => ∃ m1 us1 x y w, SInv b B D sa H H' z1 ls m1 us1 (g2 z1 ls) 2 ∧ us1 ≠ [] ∧ us1.length ≤ 9 + i ∧ (∀ u ∈ us1, TxOk u) ∧ (1 ≤ i → ¬ us1.Nodup) ∧ σ = [some (.ref b), some (.str z), some (.int l), some (.ref m0), some (.ref B), some (.int r1), some (.int r2), some (.ref D), x, y, w]) (by omega) ⟨m1, us1, _, _, _, I7, ne1, by omega, ou1, (fun q => absurd q (by decide)), rfl⟩ ?_ ?_
        · rintro i σ H8 hi ⟨m2, us2, x, y, w, I8, ne2, l10, ou2, _, rfl⟩
          have hB8 := I8.bd
          have hm8 := I8.ml
          obtain ⟨c8, n8, hb8⟩ := id I8.bx
          have pos : 0 < us2.length := List.length_pos_iff.mpr ne2
          have len8 : us2.length ≤ 20 := by omega
          walk_at "rd"
          refine ⟨b, c8, sa, n8, us2.length, (by rw [List.length_map]; rfl), hb8, by omega, Int.le_trans (show _ ≤ 20 by omega) (by decide), fun r6 H9 l6 u6 k9 => ?_⟩
          have I9 := I8.draw N k9
          have hB9 := I9.bd
          have hm9 := I9.ml
          obtain ⟨c9, n9, hb9⟩ := id I9.bx
          obtain ⟨v, hv⟩ : ∃ v, us2[r6.toNat]? = some v := ⟨_, List.getElem?_eq_getElem (by omega)⟩
          have hvm := List.mem_of_getElem? hv
          have hvV : (us2.map V.str)[r6.toNat]? = some (.str v) := by rw [List.getElem?_map, hv]; rfl
          have av : atI (us2.map V.str) r6 = some (.str v) := by
            have := atI_nat hvV
            rwa [show ((r6.toNat : Nat) : Int) = r6 by omega] at this
          refine Bar.rIxL_ (SqL.of hm9) av ?_
          walk_at "rd"
          refine ⟨b, c9, sa, n9, us2.length + 1, (by rw [List.length_map]; rfl), hb9, by omega, Int.le_trans (show _ ≤ 21 by omega) (by decide), fun r7 H10 l7 u7 k10 => ?_⟩
          have I10 := I9.draw N k10
          have hB10 := I10.bd
          have hm10 := I10.ml
          obtain ⟨t, rfl⟩ : ∃ t : Nat, r7 = t := ⟨r7.toNat, by omega⟩
          walk_at "rd"
          refine Bar.rSlL_ (SqL.of hm10) fun p1 hp1 => ?_
          rw [cutV_to]
          have J1 := I10.new (u := .lst ((us2.map V.str).take t)) hp1
          have e1 : (upd H10 p1 (.lst ((us2.map V.str).take t))) p1 = some (.lst ((us2.map V.str).take t)) := upd_same
          have hB11 := J1.bd
          have hm11 := J1.ml
          generalize upd H10 p1 (.lst ((us2.map V.str).take t)) = H11 at J1 e1 hB11 hm11 ⊢
          walk_at "rd"
          intro p2 hp2
          have J2 := J1.new (u := .lst [.str v]) hp2
          walk_at "rd"
          refine Bar.rCat_ (Bar.lkNew hp2 e1) upd_same (szLe (by rw [List.length_take, List.length_map]; show _ + 1 ≤ 1000; omega)) fun p3 hp3 => ?_
          have J3 := J2.new (u := .lst ((us2.map V.str).take t ++ [.str v])) hp3
          have e3 : (upd (upd H11 p2 (.lst [.str v])) p3 (.lst ((us2.map V.str).take t ++ [.str v]))) p3 = some (.lst ((us2.map V.str).take t ++ [.str v])) := upd_same
          have hB12 := J3.bd
          have hm12 := J3.ml
          generalize upd (upd H11 p2 (.lst [.str v])) p3 (.lst ((us2.map V.str).take t ++ [.str v])) = H12 at J3 e3 hB12 hm12 ⊢
          walk_at "rd"
          refine Bar.rSlL_ (SqL.of hm12) fun p4 hp4 => ?_
          rw [cutV_from]
          have J4 := J3.new (u := .lst ((us2.map V.str).drop t)) hp4
          refine Bar.rCat_ (Bar.lkNew hp4 e3) upd_same (szLe (by rw [List.length_append, List.length_take, List.length_drop, List.length_map]; show _ + 1 + _ ≤ 1000; omega)) fun p5 hp5 => ?_
          have J5 := J4.new (u := .lst ((us2.map V.str).take t ++ [.str v] ++ (us2.map V.str).drop t)) hp5
          have e5 : (upd (upd H12 p4 (.lst ((us2.map V.str).drop t))) p5 (.lst ((us2.map V.str).take t ++ [.str v] ++ (us2.map V.str).drop t))) p5 = some (.lst ((us2.take t ++ [v] ++ us2.drop t).map V.str)) := by
            rw [upd_same, List.map_append, List.map_append, List.map_take, List.map_drop]
            rfl
          have hB14 := J5.bd
          obtain ⟨es, hD14, _, _⟩ := id J4.du
          have hB13 := J4.bd
          obtain ⟨cc, nn, hb13⟩ := id J4.bx
          have np5b : p5 ≠ b := fun e => by
            rw [e, hb13] at hp5
            cases hp5
          have np5B : p5 ≠ B := fun e => by
            rw [e, hB13] at hp5
            cases hp5
          have np5D : p5 ≠ D := fun e => by
            rw [e, hD14] at hp5
            cases hp5
          generalize upd (upd H12 p4 (.lst ((us2.map V.str).drop t))) p5 (.lst ((us2.map V.str).take t ++ [.str v] ++ (us2.map V.str).drop t)) = H14 at J5 e5 hB14 ⊢
          walk_at "rd"
          refine ⟨p5, us2.take t ++ [v] ++ us2.drop t, _, _, _, J5.setB N e5 ⟨np5b, np5B, np5D⟩, by simp, ?_, ?_, (fun _ => ins_bad hvm), rfl⟩
          · rw [List.length_append, List.length_append, List.length_take, List.length_drop]
            show _ + 1 + _ ≤ _
            omega
          · intro u hu
            rcases List.mem_append.mp hu with hu | hu
            · rcases List.mem_append.mp hu with hu | hu
              · exact ou2 u (List.mem_of_mem_take hu)
              · rw [List.mem_singleton.mp hu]
                exact ou2 v hvm
            · exact ou2 u (List.mem_of_mem_drop hu)
        rintro σ H8 ⟨m2, us2, x, y, w, I8, ne2, l10, ou2, bad, rfl⟩
        have nn := bad (by omega)
        obtain ⟨yy, hyy⟩ := twi_some nn
        have hB8 := I8.bd
        have hm8 := I8.ml
        obtain ⟨es, hD8, le, _⟩ := id I8.du
        walk_at "rd"
        refine ⟨m2, us2, rfl, hm8, by omega, ?_⟩
        rw [hyy]
        show _
        walk_at "rd"
        intro d hd
        walk_at "rd"
        have I9 := I8.due (g := .twice yy) N hd hD8 rfl
        refine Bar.rAppend_ (Bar.lkNew hd hD8) (Bar.szLt (by rw [List.length_map]; omega)) ?_
        walk_at "rd"
        have e9 : lfault z1 ls us2 = (g2 z1 ls).or (some (.twice yy)) := by
          rw [lfault_eq, hyy]
          rfl
        refine ⟨m2, us2, _, _, _, by rw [e9]; exact I9, by omega, ou2, ?_, rfl⟩
        rw [e9]
        exact or_some
      · walk_at "rd"
        refine ite2 (fun h2 => ?_) (fun h2 => ?_)
        · walk_at "rd"
          refine ⟨fun σ H' => ∃ m1 us1, SInv b B D sa H H' z1 ls m1 us1 (g2 z1 ls) 2 ∧ us1 ≠ [] ∧ us1.length ≤ 9 ∧ (∀ u ∈ us1, TxOk u) ∧ σ = [some (.ref b), some (.str z), some (.int l), some (.ref m0), some (.ref B), some (.int r1), some (.int r2), some (.ref D), none, none, none], ?_, ?_⟩
          · walk_at "rd"
            refine ite2 (fun h3 => ?_) (fun h3 => ?_)
            · walk_at "rd"
              intro ee hee
              walk_at "rd"
              refine ⟨b, ee, c4, sa, n4, [], rfl, Bar.lkNew hee hb4, upd_same, by decide, fun y H6 ny _ K6 ⟨c6, n6, hb6⟩ _ => ?_⟩
              have I6 := I2.draw2 N hee K6 ⟨_, _, hb6⟩
              have hB6 := I6.bd
              walk_at "rd"
              intro m1 hm1
              have I7 := I6.new (u := .lst [.str y]) hm1
              have nmb1 : m1 ≠ b := fun e => by
                rw [e, hb6] at hm1
                cases hm1
              have nmB1 : m1 ≠ B := fun e => by
                rw [e, hB6] at hm1
                cases hm1
              obtain ⟨es6, hD6, _, _⟩ := id I6.du
              have nmD1 : m1 ≠ D := fun e => by
                rw [e, hD6] at hm1
                cases hm1
              walk_at "rd"
              exact ⟨m1, [y], I7.setB (us' := [y]) N upd_same ⟨nmb1, nmB1, nmD1⟩, by simp, by show 1 ≤ 9; decide, (fun u hu => by rw [List.mem_singleton.mp hu]; exact txName ny), rfl⟩
            · have ne : us0 ≠ [] := fun q => by
                apply h3
                rw [q]
                rfl
              walk_at "rd"
              exact ⟨m, us0, I2, ne, by omega, ou0, rfl⟩
          rintro σ H6 ⟨m1, us1, I3, ne1, l9, ou1, rfl⟩
          obtain ⟨c6, n6, hb6⟩ := id I3.bx
          walk_at "rd"
          refine ⟨b, c6, sa, n6, 2, rfl, hb6, by decide, by decide, fun r5 H7 l5 u5 k7 => ?_⟩
          have I7 := I3.draw N k7
          walk_at "rd"
          refine Bar.forR (1 + r5).toNat rfl (fun i σ H' => ∃ m1 us1 x y w, SInv b B D sa H H' z1 ls m1 us1 (g2 z1 ls) 2 ∧ us1 ≠ [] ∧ us1.length ≤ 9 + i ∧ (∀ u ∈ us1, TxOk u) ∧ (1 ≤ i → ¬ us1.Nodup) ∧ σ = [some (.ref b), some (.str z), some (.int l), some (.ref m0), some (.ref B), some (.int r1), some (.int r2), some (.ref D), x, y, w]) (by omega) ⟨m1, us1, _, _, _, I7, ne1, by omega, ou1, (fun q => absurd q (by decide)), rfl⟩ ?_ ?_
          · rintro i σ H8 hi ⟨m2, us2, x, y, w, I8, ne2, l10, ou2, _, rfl⟩
            have hB8 := I8.bd
            have hm8 := I8.ml
            obtain ⟨c8, n8, hb8⟩ := id I8.bx
            have pos : 0 < us2.length := List.length_pos_iff.mpr ne2
            have len8 : us2.length ≤ 20 := by omega
            walk_at "rd"
            refine ⟨b, c8, sa, n8, us2.length, (by rw [List.length_map]; rfl), hb8, by omega, Int.le_trans (show _ ≤ 20 by omega) (by decide), fun r6 H9 l6 u6 k9 => ?_⟩
            have I9 := I8.draw N k9
            have hB9 := I9.bd
            have hm9 := I9.ml
            obtain ⟨c9, n9, hb9⟩ := id I9.bx
            obtain ⟨v, hv⟩ : ∃ v, us2[r6.toNat]? = some v := ⟨_, List.getElem?_eq_getElem (by omega)⟩
            have hvm := List.mem_of_getElem? hv
            have hvV : (us2.map V.str)[r6.toNat]? = some (.str v) := by rw [List.getElem?_map, hv]; rfl
            have av : atI (us2.map V.str) r6 = some (.str v) := by
              have := atI_nat hvV
              rwa [show ((r6.toNat : Nat) : Int) = r6 by omega] at this
            refine Bar.rIxL_ (SqL.of hm9) av ?_
            walk_at "rd"
            refine ⟨b, c9, sa, n9, us2.length + 1, (by rw [List.length_map]; rfl), hb9, by omega, Int.le_trans (show _ ≤ 21 by omega) (by decide), fun r7 H10 l7 u7 k10 => ?_⟩
            have I10 := I9.draw N k10
            have hB10 := I10.bd
            have hm10 := I10.ml
            obtain ⟨t, rfl⟩ : ∃ t : Nat, r7 = t := ⟨r7.toNat, by omega⟩
            walk_at "rd"
            refine Bar.rSlL_ (SqL.of hm10) fun p1 hp1 => ?_
            rw [cutV_to]
            have J1 := I10.new (u := .lst ((us2.map V.str).take t)) hp1
            have e1 : (upd H10 p1 (.lst ((us2.map V.str).take t))) p1 = some (.lst ((us2.map V.str).take t)) := upd_same
            have hB11 := J1.bd
            have hm11 := J1.ml
            generalize upd H10 p1 (.lst ((us2.map V.str).take t)) = H11 at J1 e1 hB11 hm11 ⊢
            walk_at "rd"
            intro p2 hp2
            have J2 := J1.new (u := .lst [.str v]) hp2
            walk_at "rd"
            refine Bar.rCat_ (Bar.lkNew hp2 e1) upd_same (szLe (by rw [List.length_take, List.length_map]; show _ + 1 ≤ 1000; omega)) fun p3 hp3 => ?_
            have J3 := J2.new (u := .lst ((us2.map V.str).take t ++ [.str v])) hp3
            have e3 : (upd (upd H11 p2 (.lst [.str v])) p3 (.lst ((us2.map V.str).take t ++ [.str v]))) p3 = some (.lst ((us2.map V.str).take t ++ [.str v])) := upd_same
            have hB12 := J3.bd
            have hm12 := J3.ml
            generalize upd (upd H11 p2 (.lst [.str v])) p3 (.lst ((us2.map V.str).take t ++ [.str v])) = H12 at J3 e3 hB12 hm12 ⊢
            walk_at "rd"
            refine Bar.rSlL_ (SqL.of hm12) fun p4 hp4 => ?_
            rw [cutV_from]
            have J4 := J3.new (u := .lst ((us2.map V.str).drop t)) hp4
            refine Bar.rCat_ (Bar.lkNew hp4 e3) upd_same (szLe (by rw [List.length_append, List.length_take, List.length_drop, List.length_map]; show _ + 1 + _ ≤ 1000; omega)) fun p5 hp5 => ?_
            have J5 := J4.new (u := .lst ((us2.map V.str).take t ++ [.str v] ++ (us2.map V.str).drop t)) hp5
            have e5 : (upd (upd H12 p4 (.lst ((us2.map V.str).drop t))) p5 (.lst ((us2.map V.str).take t ++ [.str v] ++ (us2.map V.str).drop t))) p5 = some (.lst ((us2.take t ++ [v] ++ us2.drop t).map V.str)) := by
              rw [upd_same, List.map_append, List.map_append, List.map_take, List.map_drop]
              rfl
            have hB14 := J5.bd
            obtain ⟨es, hD14, _, _⟩ := id J4.du
            have hB13 := J4.bd
            obtain ⟨cc, nn, hb13⟩ := id J4.bx
            have np5b : p5 ≠ b := fun e => by
              rw [e, hb13] at hp5
              cases hp5
            have np5B : p5 ≠ B := fun e => by
              rw [e, hB13] at hp5
              cases hp5
            have np5D : p5 ≠ D := fun e => by
              rw [e, hD14] at hp5
              cases hp5
            generalize upd (upd H12 p4 (.lst ((us2.map V.str).drop t))) p5 (.lst ((us2.map V.str).take t ++ [.str v] ++ (us2.map V.str).drop t)) = H14 at J5 e5 hB14 ⊢
            walk_at "rd"
            refine ⟨p5, us2.take t ++ [v] ++ us2.drop t, _, _, _, J5.setB N e5 ⟨np5b, np5B, np5D⟩, by simp, ?_, ?_, (fun _ => ins_bad hvm), rfl⟩
            · rw [List.length_append, List.length_append, List.length_take, List.length_drop]
              show _ + 1 + _ ≤ _
              omega
            · intro u hu
              rcases List.mem_append.mp hu with hu | hu
              · rcases List.mem_append.mp hu with hu | hu
                · exact ou2 u (List.mem_of_mem_take hu)
                · rw [List.mem_singleton.mp hu]
                  exact ou2 v hvm
              · exact ou2 u (List.mem_of_mem_drop hu)
          rintro σ H8 ⟨m2, us2, x, y, w, I8, ne2, l10, ou2, bad, rfl⟩
          have nn := bad (by omega)
          obtain ⟨yy, hyy⟩ := twi_some nn
          have hB8 := I8.bd
          have hm8 := I8.ml
          obtain ⟨es, hD8, le, _⟩ := id I8.du
          walk_at "rd"
          refine ⟨m2, us2, rfl, hm8, by omega, ?_⟩
          rw [hyy]
          show _
          walk_at "rd"
          intro d hd
          walk_at "rd"
          have I9 := I8.due (g := .twice yy) N hd hD8 rfl
          refine Bar.rAppend_ (Bar.lkNew hd hD8) (Bar.szLt (by rw [List.length_map]; omega)) ?_
          walk_at "rd"
          have e9 : lfault z1 ls us2 = (g2 z1 ls).or (some (.twice yy)) := by
            rw [lfault_eq, hyy]
            rfl
          refine ⟨m2, us2, _, _, _, by rw [e9]; exact I9, by omega, ou2, ?_, rfl⟩
          rw [e9]
          exact or_some
        · walk_at "rd"
          have e : lfault z1 ls us0 = g2 z1 ls := by
            rw [lfault_eq, twi_none nd0 fun _ _ q => by cases q]
            exact Option.or_none
          refine ⟨m, us0, _, _, _, by rw [e]; exact I2.le, by omega, ou0, ?_, rfl⟩
          rw [e]
          intro q
          have := lo2 q
          have : ¬ r1 = 2 := fun e => h1 (decide_eq_true e)
          omega
    rintro σ H7 ⟨m1, us1, x, y, w, I4, l20, ou1, nf, rfl⟩
    clear I2 lo2
    obtain ⟨ds, hDd, ld, fl⟩ := id I4.du
    have hBd := I4.bd
    have hml := I4.ml
    obtain ⟨c4, n4, hb4⟩ := id I4.bx
    rcases fl with ⟨q, _⟩ | ⟨ff, d, rs, ef, rfl, fa, _, _, _⟩
    · exact absurd q nf
    walk_at "rd"
    refine Bar.rIxL_ (SqL.of hDd) (atI_nat (j := 0) rfl) ?_
    walk_at "rd"
    intro R hR
    exact k R B d m1 z1 ls us1 ff _ ⟨I4.kp.trans (Kp.new hR), _, _, Bar.lkNew hR hb4⟩ upd_same (Bar.lkNew hR hBd) (Bar.lkNew hR hml) oz1 l20 ou1 ef (lfat.mpr (Bar.lkNew hR (lfat.mp fa)))
end

end Lw
namespace Lw
open PySem L2 Bar

/-! ### law -/
def spLaw (K : PySem.W.Frag) : Sp := fun vs H Q _ => ∃ (a : Addr) (ns : List Int), vs = [.ref a] ∧ SqL K H a (ns.map V.int) ∧ ns.length ≤ 63 ∧ ∀ H', Q (.bl true) H'
abbrev spLeadM (K : PySem.W.Frag) (C CBN CN CT : Addr) : Sp := fun vs H Q _ => spLeadX K C CBN CN CT vs H Q E0
theorem freshS {H : Hp} {x dx C : Addr} (hx : H x = none) (hdx : H dx = none) : Same H (upd (upd H dx (.own x)) x (.ins C dx [])) := fun _ _ e => Bar.lkNe (ne_of_none e hx) (Bar.lkNew hdx e)
theorem mkLead {K : PySem.W.Frag} {C CBN CN CT : Addr} {H : Hp} {x dx g t : Addr} {z : Str} {l : Int} {us : List Str} {Q : VK} {E : XK} (hx : H x = none) (hdx : H dx = none) (nz : nameB z = true) (l1 : 1 ≤ l) (nd : us.Nodup) (ou : ∀ u ∈ us, TxOk u) (lu : us.length ≤ 40) (ht : StrsAt K H t us)
    (k : ∀ t' H', Same H H' → H' x = some (.ins C dx (lf z g l t')) → TupS K H' t' us → Q .non H') : spLeadX K C CBN CN CT [.ref x, .str z, .ref g, .int l, .ref t] (upd (upd H dx (.own x)) x (.ins C dx [])) Q E := by
  refine ⟨x, dx, z, g, l, t, us, rfl, upd_same, txName nz, ht.same (freshS hx hdx), (by omega), ou, .inl ⟨?_, fun t' H' K1 e1 e2 => k t' H' (fun a b e => K1 a b (ne_of_none e hx) (freshS hx hdx _ _ e)) e1 e2⟩⟩
  unfold lfault
  rw [nz, if_neg (by decide), if_neg (by omega), twi_none nd fun _ _ q => by cases q]
  rfl
theorem sameFl {K : PySem.W.Frag} {H : Hp} {a b : Addr} {n : Nat} {xs : List V} (ha : H a = some (.lst xs)) (hb : H b = some (.lst xs)) (l : xs.length ≤ 1000) (f : ∀ x ∈ xs, flat x) : SameAt K H (n + 2) (.ref a) (.ref b) := by
  refine .inr (.inr ⟨a, b, _, _, rfl, rfl, .inl ⟨ha, hb⟩, l, rfl, fun i x y hx hy => ?_⟩)
  cases hx.symm.trans hy
  exact .inl ⟨rfl, f _ (List.mem_of_getElem? hx)⟩
theorem ltat_fl {H : Hp} {D : Addr} {fl : LFlt} (h : LTAt H D fl) : H D = some (.lst (lfV fl ++ [.bl true, .bl true, .bl false, .bl false])) := by cases fl <;> exact h
theorem lfV_len (fl : LFlt) : (lfV fl).length = 2 := by cases fl <;> rfl
theorem lfV_flat (fl : LFlt) : ∀ x ∈ lfV fl ++ [.bl true, .bl true, .bl false, .bl false], flat x := by
  intro x hx
  cases fl <;> (simp only [lfV, List.mem_append, List.mem_cons, List.not_mem_nil, or_false] at hx; rcases hx with (e | e) | e | e | e | e <;> (subst e; exact trivial))
theorem trV_flat (z : Str) (st off : Int) : ∀ x ∈ trV z st off, flat x := by
  intro x hx
  unfold trV at hx
  split at hx <;> (simp only [List.mem_cons, List.not_mem_nil, or_false] at hx; rcases hx with e | e | e | e | e <;> first | (subst e; exact trivial) | (rcases e with e | e <;> (subst e; exact trivial)))
theorem trV_len (z : Str) (st off : Int) : (trV z st off).length ≤ 1000 := by
  unfold trV
  split
  · show 6 ≤ 1000; decide
  · show 5 ≤ 1000; decide
theorem nodup_set : ∀ {us : List Str} {i : Nat} {y : Str}, us.Nodup → y ∉ us → (us.set i y).Nodup
  | [], _, _, h, _ => h
  | a :: r, 0, y, h, hy => List.nodup_cons.mpr ⟨fun q => hy (List.mem_cons_of_mem _ q), (List.nodup_cons.mp h).2⟩
  | a :: r, i + 1, y, h, hy => by
    obtain ⟨h1, h2⟩ := List.nodup_cons.mp h
    refine List.nodup_cons.mpr ⟨fun q => ?_, nodup_set h2 fun q => hy (List.mem_cons_of_mem _ q)⟩
    rcases List.mem_or_eq_of_mem_set q with q | q
    · exact h1 q
    · rw [q] at hy
      exact hy (List.mem_cons_self ..)
theorem dr3_at {r : Int} (h0 : 0 ≤ r) (h1 : r < 3) : ∃ v : Int, atI [V.int 12, V.int (10 ^ Int.toNat 30), V.int 12] r = some (.int v) ∧ 1 ≤ v ∧ v ≤ 10 ^ 30 := by
  have h : r = 0 ∨ r = 1 ∨ r = 2 := by omega
  rcases h with h | h | h <;> (subst h; exact ⟨_, rfl, by decide, by decide⟩)
/-- what the law keeps all through -/
structure St21 (K : PySem.W.Frag) (CG CL : Addr) (H : Hp) (m g ld ot : Addr) (z : Str) (st off l : Int) (us : List Str) : Prop where
  m : H m = some (.lst (us.map V.str))
  g : GridAt CG H g st off
  ld : LAt K CG CL H ld z st off l us
  ot : LAt K CG CL H ot z (st + 1) off (l + 1) us.reverse
section
variable {K : PySem.W.Frag} {CG CL : Addr} {H H' : Hp} {m g ld ot b : Addr} {z : Str} {st off l : Int} {us : List Str} {xs : List V}
theorem St21.same (S : Same H H') (h : St21 K CG CL H m g ld ot z st off l us) : St21 K CG CL H' m g ld ot z st off l us := ⟨S _ _ h.m, h.g.same S, h.ld.same S, h.ot.same S⟩
theorem St21.kp (k : Kp b H H') (hb : H b = some (.lst xs)) (nm : m ≠ b) (h : St21 K CG CL H m g ld ot z st off l us) : St21 K CG CL H' m g ld ot z st off l us := ⟨k _ _ nm h.m, h.g.kp k hb, h.ld.kp k hb, h.ot.kp k hb⟩
end
section
variable {P : Program} {w : World} {K : PySem.W.Frag} {mg : Str → Option Value} {base : Heap}
theorem ok_law {f C_Grid C_Clip C_Lead CBN CN CT el : Addr} {fd : FuncData} {mcL mcC : Value} {tL tC : Tok} (F : Fun K "law" "law" s_law f fd) (T : Txt mg) (g_Lead : mg "Lead" = some (.ref C_Lead)) (g_Clip : mg "Clip" = some (.ref C_Clip)) (crL : ClX.CRead K C_Lead mcL) (cvL : ClX.CVal K C_Lead mcL "PATIENCE" (.int 64) (.int 64 tL)) (crC : ClX.CRead K C_Clip mcC) (cvC : ClX.CVal K C_Clip mcC "ROUNDS" (.int 4) (.int 4 tC)) (hel : KEmp K el)
    (f_law_box : Fn P w K mg base "_law_box" P_law_box [] 1 (spBox K)) (f_law_draw : Fn P w K mg base "_law_draw" P_law_draw [] 1 spDrawA) (f_law_any_name : Fn P w K mg base "_law_any_name" P_law_any_name [] 2 spAnyName) (f_law_halts : Fn P w K mg base "_law_halts" P_law_halts [] 3 spHalts)
    (mk_Grid2 : Made P w K mg base "Grid" C_Grid P_Grid___init__ [] 1 (spInit C_Grid))
    (mkk_Lead_grid_length : MadeK P w K mg base CX0 "Lead" C_Lead P_Lead___init__ ["grid", "length"] 1 (gC el) 5 (spLeadM K C_Lead CBN CN CT))
    (mkk_Lead_grid_length_stops : MadeK P w K mg base CX0 "Lead" C_Lead P_Lead___init__ ["grid", "length", "stops"] 1 gD 5 (spLeadM K C_Lead CBN CN CT))
    (f_law_keeps : Fn P w K mg base "_law_keeps" P_law_keeps [] 5 (spKeeps K C_Grid C_Lead)) (f_law_spoilt : Fn P w K mg base "_law_spoilt" P_law_spoilt [] 3 spSpoilt) (f_law_refused : Fn P w K mg base "_law_refused" P_law_refused [] 7 spRefused) (f_law_same : Fn P w K mg base "_law_same" P_law_same [] 4 (spSame K 3))
    (f_law_other_name : Fn P w K mg base "_law_other_name" P_law_other_name [] 3 spOther) (f_law_allowed : Fn P w K mg base "_law_allowed" P_law_allowed [] 1 spAllowed) (f_law_tried : Fn P w K mg base "_law_tried" P_law_tried [] 7 (spTried C_Grid)) : FnOk P w K mg base CX0 8 f fd P_law (spLaw K) := by
  refine F.ok sc_law (fun vs H Q E h => ?_) (fun cdv A outer s H vs Q E hr h => ?_)
  · obtain ⟨a, ns, rfl, _⟩ := h
    rfl
  · obtain ⟨a, vs, rfl, ha, hl, k⟩ := h
    have big30 : (10 : Int) ^ 30 ≤ big := by decide
    refine ⟨_, (pss_cons (ps_if (pt_not (pt_val (pe_fn f_law_same (hr.mono (by omega)) rfl (pa_cons (pe_lst (pa_cons (ClX.pe_cval (pe_glob (v := .ref C_Lead) rfl g_Lead rfl)) (pa_cons (ClX.pe_cval (pe_glob (v := .ref C_Clip) rfl g_Clip rfl)) pa_nil))) (pa_cons (pe_lst (pa_cons pe_int (pa_cons pe_int pa_nil))) pa_nil))))) (pss_one (ps_ret pe_bl)) pss_nil)
    (pss_cons (ps_set (i := 1) sc_law.nd rfl (Or.inr rfl) (pe_fn f_law_box (hr.mono (by omega)) rfl (pa_cons (pv 0) (pa_cons pe_int pa_nil))))
    (pss_cons (ps_set (i := 2) sc_law.nd rfl (Or.inr rfl) (pe_fn f_law_any_name (hr.mono (by omega)) rfl (pa_cons (pv 1) pa_nil)))
    (pss_cons (ps_set (i := 3) sc_law.nd rfl (Or.inl rfl) (pe_op op_add pe_int (pe_fn f_law_draw (hr.mono (by omega)) rfl (pa_cons (pv 1) (pa_cons (pe_ix ix_tup (pe_tup (pa_cons pe_int (pa_cons (pe_op op_powW pe_int pe_int) (pa_cons pe_int pa_nil)))) (pe_fn f_law_draw (hr.mono (by omega)) rfl (pa_cons (pv 1) (pa_cons pe_int pa_nil))) (fun _ _ => rfl)) pa_nil)))))
    (pss_cons (ps_set (i := 4) sc_law.nd rfl (Or.inl rfl) (pe_fn f_law_draw (hr.mono (by omega)) rfl (pa_cons (pv 1) (pa_cons (pv 3) pa_nil))))
    (pss_cons (ps_set (i := 5) sc_law.nd rfl (Or.inl rfl) (pe_op op_add pe_int (pe_fn f_law_draw (hr.mono (by omega)) rfl (pa_cons (pv 1) (pa_cons (pe_ix ix_tup (pe_tup (pa_cons pe_int (pa_cons (pe_op op_powW pe_int pe_int) (pa_cons pe_int pa_nil)))) (pe_fn f_law_draw (hr.mono (by omega)) rfl (pa_cons (pv 1) (pa_cons pe_int pa_nil))) (fun _ _ => rfl)) pa_nil)))))
    (pss_cons (ps_set (i := 6) sc_law.nd rfl (Or.inl rfl) (pe_fn f_law_halts (hr.mono (by omega)) rfl (pa_cons (pv 1) pa_nil)))
    (pss_mid (ps_if (PW.pt (pw_and (pt_cmpR op_gt (pe_callB c_len rfl T.b_len PySem.boot_len (pa_cons (pv 6) pa_nil)) pe_int (nomark _)) (pw_and1 (pt_cmpR op_eq (pe_fn f_law_draw (hr.mono (by omega)) rfl (pa_cons (pe_fn f_law_box (hr.mono (by omega)) rfl (pa_cons (pv 0) (pa_cons pe_int pa_nil))) (pa_cons pe_int pa_nil))) pe_int (nomark _))))) (pss_one (ps_asg pe_str (pg_sub (pv 6) (pe_un un_neg pe_int) set_list))) pss_nil)
    (pss_cons (ps_set (i := 7) sc_law.nd rfl (Or.inl rfl) (pe_mk mk_Grid2 (hr.mono (by omega)) rfl (pa_cons (pv 3) (pa_cons (pv 4) pa_nil))))
    (pss_mid (ps_if (PW.pt (pw_and (pt_cmpR op_eq (pe_callB c_len rfl T.b_len PySem.boot_len (pa_cons (pv 6) pa_nil)) pe_int (nomark _)) (pw_and1 (pt_cmpR op_eq (pe_fn f_law_draw (hr.mono (by omega)) rfl (pa_cons (pv 1) (pa_cons pe_int pa_nil))) pe_int (nomark _))))) (pss_one (ps_set (i := 8) sc_law.nd rfl (Or.inl rfl) (pe_mkK mkk_Lead_grid_length (hr.mono (by omega)) rfl (pa_cons (pv 2) pa_nil) (pk_cons (pv 7) (pk_cons (pv 5) pk_nil))))) (pss_one (ps_set (i := 8) sc_law.nd rfl (Or.inl rfl) (pe_mkK mkk_Lead_grid_length_stops (hr.mono (by omega)) rfl (pa_cons (pv 2) pa_nil) (pk_cons (pv 7) (pk_cons (pv 5) (pk_cons (pe_callTy call_tuple_of rfl T.b_tuple (by decide +kernel) (pa_cons (pv 6) pa_nil)) pk_nil)))))))
    (pss_cons (ps_if (pt_not (pt_val (pe_fn f_law_keeps (hr.mono (by omega)) rfl (pa_cons (pv 8) (pa_cons (pv 2) (pa_cons (pv 3) (pa_cons (pv 4) (pa_cons (pv 5) (pa_cons (pv 6) pa_nil))))))))) (pss_one (ps_ret pe_bl)) pss_nil)
    (pss_cons (ps_set (i := 9) sc_law.nd rfl (Or.inl rfl) (pe_revL (pv 6)))
    (pss_cons (ps_set (i := 10) sc_law.nd rfl (Or.inl rfl) (pe_mkK mkk_Lead_grid_length_stops (hr.mono (by omega)) rfl (pa_cons (pv 2) pa_nil) (pk_cons (pe_mk mk_Grid2 (hr.mono (by omega)) rfl (pa_cons (pe_op op_add (pv 3) pe_int) (pa_cons (pv 4) pa_nil))) (pk_cons (pe_op op_add (pv 5) pe_int) (pk_cons (pv 9) pk_nil)))))
    (pss_cons (ps_expr (pe_bm PySem.F.plainAttrs_list PySem.F.slot_list_append PySem.F.type_list_append mt_append (pv 9) (pa_cons pe_str pa_nil)))
    (pss_cons (ps_set (i := 1) sc_law.nd rfl (Or.inr rfl) (pe_fn f_law_box (hr.mono (by omega)) rfl (pa_cons (pv 0) (pa_cons pe_int pa_nil))))
    (pss_cons (ps_for PassesOwn.never rfl  (pi_range1 rfl T.b_range (pa_cons pe_int pa_nil)) (pg_name (i := 11) sc_law.nd rfl (Or.inl rfl)) (pss_cons (ps_set (i := 12) sc_law.nd rfl (Or.inl rfl) (pe_fn f_law_spoilt (hr.mono (by omega)) rfl (pa_cons (pv 1) (pa_cons (pv 2) (pa_cons (pv 5) (pa_cons (pv 6) pa_nil))))))
    (pss_cons (ps_set (i := 13) sc_law.nd rfl (Or.inl rfl) (pe_fn f_law_refused (hr.mono (by omega)) rfl (pa_cons (pe_ix ix_list (pe_ix ix_list (pv 12) pe_int (fun _ _ => rfl)) pe_int (fun _ _ => rfl)) (pa_cons (pv 7) (pa_cons (pe_ix ix_list (pe_ix ix_list (pv 12) pe_int (fun _ _ => rfl)) pe_int (fun _ _ => rfl)) (pa_cons (pe_callTy call_tuple_of rfl T.b_tuple (by decide +kernel) (pa_cons (pe_ix ix_list (pe_ix ix_list (pv 12) pe_int (fun _ _ => rfl)) pe_int (fun _ _ => rfl)) pa_nil)) pa_nil))))))
    (pss_cons (ps_if (pt_not (pt_val (pe_fn f_law_same (hr.mono (by omega)) rfl (pa_cons (pv 13) (pa_cons (pe_op op_cat (pe_ix ix_list (pv 12) pe_int (fun _ _ => rfl)) (pe_lst (pa_cons pe_bl (pa_cons pe_bl (pa_cons pe_bl (pa_cons pe_bl pa_nil)))))) pa_nil))))) (pss_one (ps_ret pe_bl)) pss_nil)
    (pss_cons (ps_if (pt_not (pt_val (pe_fn f_law_keeps (hr.mono (by omega)) rfl (pa_cons (pv 8) (pa_cons (pv 2) (pa_cons (pv 3) (pa_cons (pv 4) (pa_cons (pv 5) (pa_cons (pv 6) pa_nil))))))))) (pss_one (ps_ret pe_bl)) pss_nil)
    (pss_one (ps_if (pt_not (pt_val (pe_fn f_law_keeps (hr.mono (by omega)) rfl (pa_cons (pv 10) (pa_cons (pv 2) (pa_cons (pe_op op_add (pv 3) pe_int) (pa_cons (pv 4) (pa_cons (pe_op op_add (pv 5) pe_int) (pa_cons (pe_revL (pv 6)) pa_nil))))))))) (pss_one (ps_ret pe_bl)) pss_nil)))))))
    (pss_cons (ps_for PassesOwn.never rfl  (pi_list (pe_op op_cat (pe_lst (pa_cons (pv 2) pa_nil)) (pe_lc (own := [("_law_turn", 11)]) (g := gName 11) rfl sc_law.nd (pi_range1 rfl T.b_range (pa_cons pe_int pa_nil)) (blkOk_by (own := [("_law_turn", 11)]) (N := N_law) (sc := defScope s_law) (by decide +kernel)) (fun _ _ _ _ _ => pg_name (i := 11) sc_law.nd rfl (Or.inl rfl)) (fun _ _ _ _ _ => pts_nil) (fun _ _ _ _ _ => (pe_fn f_law_other_name (hr.mono (by omega)) rfl (pa_cons (pv 1) (pa_cons (pv 2) pa_nil))))))) (pg_name (i := 14) sc_law.nd rfl (Or.inl rfl)) (pss_cons (ps_set (i := 15) sc_law.nd rfl (Or.inl rfl) (pe_lst (pa_cons pe_str (pa_cons (pv 14) (pa_cons pe_bl (pa_cons pe_bl (pa_cons pe_bl pa_nil)))))))
    (pss_mid (ps_if (pt_val (pe_fn f_law_allowed (hr.mono (by omega)) rfl (pa_cons (pv 14) pa_nil))) (pss_one (ps_set (i := 15) sc_law.nd rfl (Or.inl rfl) (pe_lst (pa_cons pe_str (pa_cons (pv 14) (pa_cons pe_bl (pa_cons pe_bl (pa_cons (pv 3) (pa_cons (pv 4) pa_nil))))))))) pss_nil)
    (pss_one (ps_for PassesOwn.never rfl  (pi_range1 rfl T.b_range (pa_cons pe_int pa_nil)) (pg_name (i := 16) sc_law.nd rfl (Or.inl rfl)) (pss_one (ps_if (pt_not (pt_val (pe_fn f_law_same (hr.mono (by omega)) rfl (pa_cons (pe_fn f_law_tried (hr.mono (by omega)) rfl (pa_cons (pv 14) (pa_cons (pv 7) (pa_cons (pv 16) pa_nil)))) (pa_cons (pv 15) pa_nil))))) (pss_one (ps_ret pe_bl)) pss_nil)))))))
    (pss_one (ps_ret pe_bl))))))))))))))))))), ?_⟩
    refine Bar.rStart (σ := [some (.ref a), none, none, none, none, none, none, none, none, none, none, none, none, none, none, none, none]) rfl ?_
    walk_at "rd"
    refine ⟨C_Lead, mcL, _, _, rfl, crL, cvL, ?_⟩
    walk_at "rd"
    refine ⟨C_Clip, mcC, _, _, rfl, crC, cvC, ?_⟩
    walk_at "rd"
    intro q1 hq1
    walk_at "rd"
    intro q2 hq2
    walk_at "rd"
    refine ⟨_, _, rfl, sameFl (Bar.lkNew hq2 upd_same) upd_same (by show 2 ≤ 1000; decide) (fun x hx => by simp only [List.mem_cons, List.not_mem_nil, or_false] at hx; rcases hx with e | e <;> (subst e; exact trivial)), ?_⟩
    have S00 : Same H (upd (upd H q1 (.lst [.int 64, .int 4])) q2 (.lst [.int 64, .int 4])) := fun _ _ e => Bar.lkNew hq2 (Bar.lkNew hq1 e)
    generalize (upd (upd H q1 (.lst [.int 64, .int 4])) q2 (.lst [.int 64, .int 4])) = H0 at S00 ⊢
    have ha0 := Bar.sqSame S00 ha
    clear hq1 hq2
    walk_at "rd"
    refine ⟨a, vs, 0, rfl, ha0, fun b H1 c1 sa S1 hb hb1 => ?_⟩
    walk_at "rd"
    refine ⟨b, c1, sa, 0, rfl, hb1, fun z H2 nz ⟨K2, c2, n2, hb2⟩ => ?_⟩
    have K02 : Kp b H0 H2 := (Kp.of_same S1).trans K2
    clear S1 hb1 K2
    walk_at "rd"
    intro tq htq
    walk_at "rd"
    have nqb : tq ≠ b := fun e => by
      rw [e, hb2] at htq
      cases htq
    refine ⟨b, c2, sa, n2, 3, rfl, Bar.lkNew htq hb2, by decide, by decide, fun r3 H3 l3 u3 ⟨K3, c3, n3, hb3⟩ => ?_⟩
    obtain ⟨v, hv, v0, v1⟩ := dr3_at l3 u3
    refine Bar.rIxT_ (SqT.of (K3 _ _ nqb upd_same)) hv ?_
    have K03 : Kp b H0 H3 := (K02.trans (Kp.new htq)).trans K3
    clear K02 K3 htq hb2 hv
    walk_at "rd"
    refine ⟨b, c3, sa, n3, v, rfl, hb3, by omega, by omega, fun r4 H4 l4 u4 ⟨K4, c4, n4, hb4⟩ => ?_⟩
    have K04 := K03.trans K4
    clear K03 K4 hb3
    have e1 : (1 : Int) + r4 = 1 + r4 := rfl
    walk_at "rd"
    refine ⟨b, c4, sa, n4, 1 + r4, rfl, hb4, by omega, by omega, fun off H5 l5 u5 ⟨K5, c5, n5, hb5⟩ => ?_⟩
    have K05 := K04.trans K5
    clear K04 K5 hb4 e1
    walk_at "rd"
    intro tq2 htq2
    walk_at "rd"
    have nqb2 : tq2 ≠ b := fun e => by
      rw [e, hb5] at htq2
      cases htq2
    refine ⟨b, c5, sa, n5, 3, rfl, Bar.lkNew htq2 hb5, by decide, by decide, fun r6 H6 l6 u6 ⟨K6, c6, n6, hb6⟩ => ?_⟩
    obtain ⟨v', hv', v0', v1'⟩ := dr3_at l6 u6
    refine Bar.rIxT_ (SqT.of (K6 _ _ nqb2 upd_same)) hv' ?_
    have K06 : Kp b H0 H6 := (K05.trans (Kp.new htq2)).trans K6
    clear K05 K6 htq2 hb5 hv'
    walk_at "rd"
    refine ⟨b, c6, sa, n6, v', rfl, hb6, by omega, by omega, fun r7 H7 l7 u7 ⟨K7, c7, n7, hb7⟩ => ?_⟩
    have K07 := K06.trans K7
    clear K06 K7 hb6
    walk_at "rd"
    refine ⟨b, c7, sa, n7, rfl, hb7, fun m us H8 ⟨K8, c8, n8, hb8⟩ hm hm8 nd l8 nu => ?_⟩
    have nmb : m ≠ b := fun e => by
      rw [e, hb7] at hm
      cases hm
    have K08 := K07.trans K8
    have m0 : H0 m = none := by
      cases e : H0 m with
      | none => rfl
      | some o' =>
        rw [K07 _ _ nmb e] at hm
        cases hm
    clear K07 K8 hb7 hm
    generalize hst : (1 : Int) + r4 = st at *
    generalize hsz : (1 : Int) + r7 = sz at *
    have st1 : 1 ≤ st := by omega
    have sz1 : 1 ≤ sz := by omega
    walk_at "rd"
    have nNot : nameB ("Not one" : Str) = false := by decide +kernel
    have oNot : TxOk ("Not one" : Str) := ⟨by decide +kernel, by decide +kernel⟩
    refine ⟨fun σ H' => Kp b H0 H' ∧ (∃ c n, H' b = some (box c sa n)) ∧ ∃ us : List Str, H' m = some (.lst (us.map V.str)) ∧ us.Nodup ∧ us.length ≤ 8 ∧ (∀ u ∈ us, TxOk u) ∧ σ = [some (.ref a), some (.ref b), some (.str z), some (.int st), some (.int off), some (.int sz), some (.ref m), none, none, none, none, none, none, none, none, none, none], ?_, ?_⟩
    · have ha8 : SqL K H8 a (vs.map V.int) := sqKf K08 hb ha0
      walk_at "rd"
      refine ite2 (fun h => ?_) (fun h => ?_)
      · have pos : 0 < us.length := by
          have := of_decide_eq_true h
          rw [List.length_map] at this
          omega
        walk_at "rd"
        refine ⟨a, vs, 2, rfl, ha8, fun b3 H9 c9 sc S9 hb3 hb9 => ?_⟩
        have nmb3 : m ≠ b3 := ne_of_none hm8 hb3
        have nbb3 : b ≠ b3 := ne_of_none hb8 hb3
        walk_at "rd"
        refine ⟨b3, c9, sc, 0, 3, rfl, hb9, by decide, by decide, fun r9 H10 l9 u9 ⟨K10, c10, n10, hb10⟩ => ?_⟩
        have hm10 := K10 _ _ nmb3 (S9 _ _ hm8)
        have hb10' := K10 _ _ nbb3 (S9 _ _ hb8)
        have K010 : Kp b H0 H10 := fun a' o' na e => K10 _ _ (ne_of_none (K08 _ _ na e) hb3) (S9 _ _ (K08 _ _ na e))
        walk_at "rd"
        refine ite2 (fun h2 => ?_) (fun h2 => ?_)
        · walk_at "rd"
          refine Bar.rSetL_ (j := us.length - 1) hm10 ?_ ?_
          · rw [List.length_map]
            unfold ixN
            rw [if_neg (by decide), if_pos (by omega)]
            congr 1
            omega
          walk_at "rd"
          refine ⟨fun a' o' na e => ?_, ⟨_, _, Bar.lkNe nmb.symm hb10'⟩, us.set (us.length - 1) ("Not one" : Str), by rw [upd_same, List.map_set], nodup_set nd (fun q => by have := nu _ q; rw [nNot] at this; cases this), by rw [List.length_set]; exact l8, fun u hu => ?_, rfl⟩
          · rw [upd_ne (ne_of_none e m0)]
            exact K010 _ _ na e
          · rcases List.mem_or_eq_of_mem_set hu with q | q
            · exact txName (nu u q)
            · rw [q]; exact oNot
        · walk_at "rd"
          exact ⟨K010, ⟨_, _, hb10'⟩, us, hm10, nd, l8, (fun u hu => txName (nu u hu)), rfl⟩
      · walk_at "rd"
        exact ⟨K08, ⟨_, _, hb8⟩, us, hm8, nd, l8, (fun u hu => txName (nu u hu)), rfl⟩
    rintro σ H9 ⟨K09, ⟨c9, n9, hb9⟩, us, hm9, nd, l8, ou, rfl⟩
    clear K08 hb8 hm8 nu
    walk_at "rd"
    refine mkG st1 fun g H10 hg S10 G10 => ?_
    rw [Int.emod_eq_of_lt l5 u5] at G10
    have hm10 := S10 _ _ hm9
    have hb10 := S10 _ _ hb9
    have K010 := K09.trans (Kp.of_same S10)
    clear K09 hm9 hb9 S10
    walk_at "rd"
    refine ⟨fun σ H' => Kp b H0 H' ∧ (∃ c n, H' b = some (box c sa n)) ∧ H' m = some (.lst (us.map V.str)) ∧ GridAt C_Grid H' g st off ∧ ∃ ld, LAt K C_Grid C_Lead H' ld z st off sz us ∧ σ = [some (.ref a), some (.ref b), some (.str z), some (.int st), some (.int off), some (.int sz), some (.ref m), some (.ref g), some (.ref ld), none, none, none, none, none, none, none, none], ?_, ?_⟩
    · have usual : True := trivial
      walk_at "rd"
      refine ite2 (fun h => ?_) (fun h => ?_)
      · have eq : us = [] := by
          have := of_decide_eq_true h
          rw [List.length_map] at this
          exact List.length_eq_zero_iff.mp (by omega)
        subst eq
        walk_at "rd"
        refine ⟨b, c9, sa, n9, 2, rfl, hb10, by decide, by decide, fun r11 H11 l11 u11 ⟨K11, c11, n11, hb11⟩ => ?_⟩
        have hm11 := K11 _ _ nmb hm10
        have G11 := G10.kp K11 hb10
        have K011 := K010.trans K11
        walk_at "rd"
        refine ite2 (fun h2 => ?_) (fun h2 => ?_)
        · walk_at "rd"
          refine ⟨rfl, rfl, fun x dx hx hdx _ => mkLead hx hdx nz sz1 nd ou (by show 0 ≤ 40; decide) (.inr (.inr ⟨rfl, hel⟩)) fun t1 H12 S12 e12 t12 => ⟨rfl, ?_⟩⟩
          walk_at "rd"
          exact ⟨K011.trans (Kp.of_same S12), ⟨_, _, S12 _ _ hb11⟩, S12 _ _ hm11, G11.same S12, x, ⟨_, g, t1, e12, G11.same S12, t12⟩, rfl⟩
        · walk_at "rd"
          refine ⟨m, _, rfl, .inl ⟨SqL.of hm11, fun u hu => ?_⟩⟩
          walk_at "rd"
          refine ⟨rfl, rfl, fun x dx hx hdx _ => mkLead hx hdx nz sz1 nd ou (by show 0 ≤ 40; decide) (.inr (.inl upd_same)) fun t1 H12 S12' e12 t12 => ⟨rfl, ?_⟩⟩
          have S12 : Same H11 H12 := fun _ _ e => S12' _ _ (Bar.lkNew hu e)
          walk_at "rd"
          exact ⟨K011.trans (Kp.of_same S12), ⟨_, _, S12 _ _ hb11⟩, S12 _ _ hm11, G11.same S12, x, ⟨_, g, t1, e12, G11.same S12, t12⟩, rfl⟩
      · walk_at "rd"
        refine ⟨m, _, rfl, .inl ⟨SqL.of hm10, fun u hu => ?_⟩⟩
        walk_at "rd"
        refine ⟨rfl, rfl, fun x dx hx hdx _ => mkLead hx hdx nz sz1 nd ou (by omega) (.inr (.inl upd_same)) fun t1 H12 S12' e12 t12 => ⟨rfl, ?_⟩⟩
        have S12 : Same H10 H12 := fun _ _ e => S12' _ _ (Bar.lkNew hu e)
        walk_at "rd"
        exact ⟨K010.trans (Kp.of_same S12), ⟨_, _, S12 _ _ hb10⟩, S12 _ _ hm10, G10.same S12, x, ⟨_, g, t1, e12, G10.same S12, t12⟩, rfl⟩
    rintro σ H11 ⟨K011, ⟨c11, n11, hb11⟩, hm11, G11, ld, L11, rfl⟩
    clear K010 hm10 hb10 G10
    walk_at "rd"
    refine ⟨ld, m, z, st, off, sz, us, rfl, L11, hm11, by omega, fun H12 S12 => ?_⟩
    have hm12 := S12 _ _ hm11
    have G12 := G11.same S12
    have L12 := L11.same S12
    have K012 := K011.trans (Kp.of_same S12)
    have S012 : Same H0 H12 := fun a' o' e => K012 a' o' (ne_of_none e hb) e
    clear K011 hm11 G11 L11 S12 hb11
    walk_at "rd"
    refine ⟨m, _, rfl, SqL.of hm12, fun U hU => ?_⟩
    rw [← List.map_reverse]
    have nmU : m ≠ U := ne_of_none hm12 hU
    have S13 : Same H12 (upd H12 U (.lst (us.reverse.map V.str))) := fun _ _ e => Bar.lkNew hU e
    have hU13 : (upd H12 U (.lst (us.reverse.map V.str))) U = some (.lst (us.reverse.map V.str)) := upd_same
    have hUf : ∀ {a' : Addr} {o' : HO}, H12 a' = some o' → a' ≠ U := fun e => ne_of_none e hU
    generalize (upd H12 U (.lst (us.reverse.map V.str))) = H13 at S13 hU13 ⊢
    walk_at "rd"
    refine mkG (by omega) fun g2 H14 hg2 S14 G14 => ?_
    rw [Int.emod_eq_of_lt l5 (by omega)] at G14
    have hU14 := S14 _ _ hU13
    walk_at "rd"
    refine ⟨rfl, rfl, fun x dx hx hdx _ => mkLead hx hdx nz (by omega) ((List.reverse_perm us).nodup_iff.mpr nd) (fun u hu => ou u (List.mem_reverse.mp hu)) (by rw [List.length_reverse]; omega) (.inl hU14) fun t1 H15 S15 e15 t15 => ⟨rfl, ?_⟩⟩
    have S25 : Same H12 H15 := fun _ _ e => S15 _ _ (S14 _ _ (S13 _ _ e))
    have I15 : St21 K C_Grid C_Lead H15 m g ld x z st off sz us := ⟨S25 _ _ hm12, G12.same S25, L12.same S25, ⟨_, g2, t1, e15, G14.same S15, t15⟩⟩
    have hU15 := S15 _ _ hU14
    have K015 := K012.trans (Kp.of_same S25)
    have hmU : H15 m ≠ none := fun e => by
      rw [I15.m] at e
      cases e
    clear K012 S13 hU13 S14 hU14 G14 hx hdx S15 e15 t15 S25 hm12 G12 L12
    walk_at "rd"
    refine Bar.rAppend_ hU15 (Bar.szLt (by rw [List.length_map, List.length_reverse]; omega)) ?_
    have I16 : St21 K C_Grid C_Lead (upd H15 U (.lst (us.reverse.map V.str ++ [.str "late"]))) m g ld x z st off sz us := I15.kp Kp.upd hU15 nmU
    have ha16 : SqL K (upd H15 U (.lst (us.reverse.map V.str ++ [.str "late"]))) a (vs.map V.int) := by
      refine Bar.sqSame (fun a' o' e => ?_) ha0
      rw [upd_ne (hUf (S012 _ _ e))]
      exact K015 a' o' (ne_of_none e hb) e
    clear I15 hU15 K015 S012 hUf hmU
    generalize (upd H15 U (.lst (us.reverse.map V.str ++ [.str "late"]))) = H16 at I16 ha16 ⊢
    walk_at "rd"
    refine ⟨a, vs, 1, rfl, ha16, fun b2 H17 c17 sb S17 hb2 hb17 => ?_⟩
    have nmb2 : m ≠ b2 := ne_of_none I16.m hb2
    have I17 := I16.same S17
    clear I16 ha16 S17 hb2
    walk_at "rd"
    refine Bar.forR 3 rfl (fun i σ H' => (∃ c n, H' b2 = some (box c sb n)) ∧ St21 K C_Grid C_Lead H' m g ld x z st off sz us ∧ ∃ y u w, σ = [some (.ref a), some (.ref b2), some (.str z), some (.int st), some (.int off), some (.int sz), some (.ref m), some (.ref g), some (.ref ld), some (.ref U), some (.ref x), y, u, w, none, none, none]) (by decide) ⟨⟨_, _, hb17⟩, I17, _, _, _, rfl⟩ ?_ ?_
    · rintro i σ H18 hi ⟨⟨c18, n18, hb18⟩, I18, y, u, w, rfl⟩
      walk_at "rd"
      refine ⟨b2, m, c18, sb, n18, z, sz, us, rfl, hb18, nz, sz1, I18.m, nd, l8, ou, nmb2, fun R B d m' z' l' us' fl H19 ⟨K19, c19, n19, hb19⟩ hR hB hm' oz l20 ou' hf fa => ?_⟩
      have I19 := I18.kp K19 hb18 nmb2
      have hd := lfat.mp fa
      clear I18 hb18 K19 fa
      walk_at "rd"
      refine ⟨m', _, rfl, .inl ⟨SqL.of hm', fun t ht => ?_⟩⟩
      have S20 : Same H19 (upd H19 t (.tup (us'.map V.str))) := fun _ _ e => Bar.lkNew ht e
      walk_at "rd"
      refine ⟨g, t, z', l', us', fl, rfl, oz, upd_same, by omega, ou', hf, fun D H21 S21 tD => ?_⟩
      have S31 : Same H19 H21 := fun _ _ e => S21 _ _ (S20 _ _ e)
      have I21 := I19.same S31
      have hb21 := S31 _ _ hb19
      have hR21 := S31 _ _ hR
      have hd21 := S31 _ _ hd
      have tD' := ltat_fl tD
      clear I19 hb19 hR hB hm' hd S20 S21 S31 tD ht
      walk_at "rd"
      intro Y hY
      walk_at "rd"
      refine Bar.rCat_ (Bar.lkNew hY hd21) upd_same (szLe (by rw [lfV_len]; show 6 ≤ 1000; decide)) fun Z hZ => ?_
      have S22 : Same H21 (upd (upd H21 Y (.lst [.bl true, .bl true, .bl false, .bl false])) Z (.lst (lfV fl ++ [.bl true, .bl true, .bl false, .bl false]))) := fun _ _ e => Bar.lkNew hZ (Bar.lkNew hY e)
      have eZ : (upd (upd H21 Y (.lst [.bl true, .bl true, .bl false, .bl false])) Z (.lst (lfV fl ++ [.bl true, .bl true, .bl false, .bl false]))) Z = some (.lst (lfV fl ++ [.bl true, .bl true, .bl false, .bl false])) := upd_same
      generalize (upd (upd H21 Y (.lst [.bl true, .bl true, .bl false, .bl false])) Z (.lst (lfV fl ++ [.bl true, .bl true, .bl false, .bl false]))) = H22 at S22 eZ ⊢
      have I22 := I21.same S22
      have hb22 := S22 _ _ hb21
      have sm : SameAt K H22 3 (.ref D) (.ref Z) := sameFl (S22 _ _ tD') eZ (by rw [List.length_append, lfV_len]; show 6 ≤ 1000; decide) (lfV_flat fl)
      clear I21 hb21 hR21 hd21 tD' S22 eZ hY hZ
      walk_at "rd"
      refine ⟨_, _, rfl, sm, ?_⟩
      walk_at "rd"
      refine ⟨ld, m, z, st, off, sz, us, rfl, I22.ld, I22.m, by omega, fun H23 S23 => ?_⟩
      have I23 := I22.same S23
      have hb23 := S23 _ _ hb22
      have hm23 := I23.m
      clear I22 hb22 S23 sm
      walk_at "rd"
      refine ⟨m, _, rfl, SqL.of hm23, fun W hW => ?_⟩
      rw [← List.map_reverse]
      have S24 : Same H23 (upd H23 W (.lst (us.reverse.map V.str))) := fun _ _ e => Bar.lkNew hW e
      walk_at "rd"
      refine ⟨x, W, z, st + 1, off, sz + 1, us.reverse, rfl, I23.ot.same S24, upd_same, by rw [List.length_reverse]; omega, fun H25 S25 => ?_⟩
      have S35 : Same H23 H25 := fun _ _ e => S25 _ _ (S24 _ _ e)
      walk_at "rd"
      exact ⟨⟨_, _, S35 _ _ hb23⟩, I23.same S35, _, _, _, rfl⟩
    rintro σ H18 ⟨⟨c18, n18, hb18⟩, I18, y, u, w, rfl⟩
    clear I17 hb17
    have G18 := I18.g
    clear I18
    walk_at "rd"
    intro N1 hN1
    have nNb : N1 ≠ b2 := fun e => by
      rw [e, hb18] at hN1
      cases hN1
    have G19 : GridAt C_Grid (upd H18 N1 (.lst [.str z])) g st off := G18.same fun _ _ e => Bar.lkNew hN1 e
    have hb19 := Bar.lkNew (o := .lst [.str z]) hN1 hb18
    have eN : (upd H18 N1 (.lst [.str z])) N1 = some (.lst [.str z]) := upd_same
    clear G18 hb18 hN1
    generalize (upd H18 N1 (.lst [.str z])) = H19 at G19 hb19 eN ⊢
    walk_at "rd"
    refine Bar.lcR (τ := [some (.ref a), some (.ref b2), some (.str z), some (.int st), some (.int off), some (.int sz), some (.ref m), some (.ref g), some (.ref ld), some (.ref U), some (.ref x), none, u, w, none, none, none]) 3 rfl rfl (by decide) fun D hD => ⟨fun i H' => (∃ c n, H' b2 = some (box c sb n)) ∧ GridAt C_Grid H' g st off ∧ H' N1 = some (.lst [.str z]) ∧ ∃ ts : List Str, ts.length = i ∧ H' D = some (.lst (ts.map V.str)) ∧ ∀ t ∈ ts, TxOk t, ⟨⟨_, _, Bar.lkNew hD hb19⟩, G19.same (fun _ _ e => Bar.lkNew hD e), Bar.lkNew hD eN, [], rfl, upd_same, fun t ht => by cases ht⟩, ?_, ?_⟩
    · rintro i H20 hi ⟨⟨c20, n20, hb20⟩, G20, eN20, ts, lts, hD20, ots⟩
      have nDb : D ≠ b2 := fun e => by
        rw [e, hb19] at hD
        cases hD
      have nDN : N1 ≠ D := ne_of_none eN hD
      walk_at "rd"
      refine ⟨rfl, ?_⟩
      walk_at "rd"
      refine ⟨b2, c20, sb, n20, z, rfl, hb20, nz, fun y' H21 sy ⟨K21, c21, n21, hb21⟩ => ?_⟩
      have G21 := G20.kp K21 hb20
      refine ⟨_, K21 _ _ nDb hD20, Bar.szLt (by rw [List.length_map]; omega), ⟨_, _, Bar.lkNe nDb.symm hb21⟩, ?_, Bar.lkNe nDN (K21 _ _ nNb eN20), ts ++ [y'], by rw [List.length_append, lts]; rfl, by rw [upd_same, List.map_append]; rfl, fun t ht => ?_⟩
      · exact G21.kp Kp.upd (K21 _ _ nDb hD20)
      · rcases List.mem_append.mp ht with ht | ht
        · exact ots t ht
        · rw [List.mem_singleton.mp ht]
          exact ⟨by have := sy.len; omega, fun c hc => Nat.lt_trans (sy.small c hc) (by decide)⟩
    rintro H20 ⟨⟨c20, n20, hb20⟩, G20, eN20, ts, lts, hD20, ots⟩
    clear G19 hb19 eN
    refine Bar.rCat_ eN20 hD20 (szLe (by rw [List.length_map]; show 1 + _ ≤ 1000; omega)) fun L hL => ?_
    have eL : (upd H20 L (.lst ([.str z] ++ ts.map V.str))) L = some (.lst ((z :: ts).map V.str)) := upd_same
    have G21 : GridAt C_Grid (upd H20 L (.lst ([.str z] ++ ts.map V.str))) g st off := G20.same fun _ _ e => Bar.lkNew hL e
    have oall : ∀ t ∈ z :: ts, TxOk t := fun t ht => by
      rcases List.mem_cons.mp ht with e | ht
      · rw [e]; exact txName nz
      · exact ots t ht
    clear hD20 eN20 G20 hL hb20
    generalize (upd H20 L (.lst ([.str z] ++ ts.map V.str))) = H21 at eL G21 ⊢
    walk_at "rd"
    refine Bar.forL (xs := (z :: ts).map V.str) (fun i σ H' => Same H21 H' ∧ ∃ x1 x2 x3, σ = [some (.ref a), some (.ref b2), some (.str z), some (.int st), some (.int off), some (.int sz), some (.ref m), some (.ref g), some (.ref ld), some (.ref U), some (.ref x), y, u, w, x1, x2, x3]) (SqL.of eL) ⟨fun _ _ e => e, _, _, _, rfl⟩ (fun i σ H' _ ⟨S, _⟩ => SqL.of (S _ _ eL)) ?_ ?_
    · rintro i v1 σ H22 hx ⟨S22, x1, x2, x3, rfl⟩
      obtain ⟨t, ht, rfl⟩ : ∃ t, t ∈ z :: ts ∧ v1 = .str t := by
        rw [List.getElem?_map] at hx
        cases e : (z :: ts)[i]? with
        | none => rw [e] at hx; cases hx
        | some t =>
          rw [e] at hx
          exact ⟨t, List.mem_of_getElem? e, (Option.some.inj hx).symm⟩
      have ot := oall t ht
      walk_at "rd"
      intro X hX
      have S23 : Same H21 (upd H22 X (.lst [.str "bad", .str t, .bl true, .bl true, .bl false])) := fun _ _ e => Bar.lkNew hX (S22 _ _ e)
      have eX : (upd H22 X (.lst [.str "bad", .str t, .bl true, .bl true, .bl false])) X = some (.lst [.str "bad", .str t, .bl true, .bl true, .bl false]) := upd_same
      generalize (upd H22 X (.lst [.str "bad", .str t, .bl true, .bl true, .bl false])) = H23 at S23 eX ⊢
      walk_at "rd"
      refine ⟨fun σ H' => Same H21 H' ∧ ∃ X, H' X = some (.lst (trV t st off)) ∧ σ = [some (.ref a), some (.ref b2), some (.str z), some (.int st), some (.int off), some (.int sz), some (.ref m), some (.ref g), some (.ref ld), some (.ref U), some (.ref x), y, u, w, some (.str t), some (.ref X), x3], ?_, ?_⟩
      · walk_at "rd"
        refine ⟨t, rfl, by have := ot.len; omega, ?_⟩
        cases hn : nameB t with
        | true =>
          walk_at "rd"
          intro X2 hX2
          walk_at "rd"
          refine ⟨fun _ _ e => Bar.lkNew hX2 (S23 _ _ e), X2, ?_, rfl⟩
          rw [upd_same]
          unfold trV
          rw [if_pos hn]
        | false =>
          walk_at "rd"
          refine ⟨S23, X, ?_, rfl⟩
          rw [eX]
          unfold trV
          rw [if_neg (by rw [hn]; decide)]
      rintro σ H24 ⟨S24, X2, eX2, rfl⟩
      walk_at "rd"
      refine Bar.forR 3 rfl (fun j σ H' => Same H21 H' ∧ H' X2 = some (.lst (trV t st off)) ∧ ∃ x3, σ = [some (.ref a), some (.ref b2), some (.str z), some (.int st), some (.int off), some (.int sz), some (.ref m), some (.ref g), some (.ref ld), some (.ref U), some (.ref x), y, u, w, some (.str t), some (.ref X2), x3]) (by decide) ⟨S24, eX2, _, rfl⟩ ?_ ?_
      · rintro j σ H25 hj ⟨S25, eX25, x4, rfl⟩
        walk_at "rd"
        refine ⟨g, t, j, st, off, rfl, by omega, by omega, ot, G21.same S25, fun D2 H26 S26 eD2 => ?_⟩
        have eX26 := S26 _ _ eX25
        walk_at "rd"
        refine ⟨_, _, rfl, sameFl eD2 eX26 (trV_len _ _ _) (trV_flat _ _ _), ?_⟩
        walk_at "rd"
        exact ⟨fun _ _ e => S26 _ _ (S25 _ _ e), eX26, _, rfl⟩
      · rintro σ H25 ⟨S25, _, x4, rfl⟩
        walk_at "rd"
        exact ⟨S25, _, _, _, rfl⟩
    · rintro σ H22 ⟨S22, x1, x2, x3, rfl⟩
      walk_at "rd"
      exact k _
end

end Lw
namespace Lw
open PySem L2 Bar
/-! ### the makings of a clip and a lead -/
section
variable {K : PySem.W.Frag} {f cda cc et : Addr} {fd : FuncData}
theorem kb_A (F : FunC K "__init__" "Clip.__init__" s_Clip___init__ [("rounds", .int 1), ("guards", .ref et)] f cda cc fd) : ∃ g, KBn K fd P_Clip___init__ 2 ["grid", "length"] g (gA et) := by
  obtain ⟨mv, h⟩ := F.kbinds (ps := P_Clip___init__) 2 ["grid", "length"] [("rounds", .int 1), ("guards", .ref et)] (fun us mv ws => us ++ ws ++ mv) (by simp) (fun q h => h) (fun r1 r2 r3 => (r1.append r3).append r2) fun D doc pm an ct us mv ws l1 l2 l3 => by
    match us, mv, ws, l1, l2, l3 with
    | [a, b], [c, d], [e, g], _, _, _ => exact ⟨_, _, _, _, _, _, rfl, rfl, _, _, _, _, _, _, rfl, rfl, rfl⟩
  exact ⟨_, h⟩
theorem kb_L (F : FunC K "__init__" "Lead.__init__" s_Lead___init__ [("stops", .ref et)] f cda cc fd) : ∃ g, KBn K fd P_Lead___init__ 2 ["grid", "length", "stops"] g gD := by
  obtain ⟨mv, h⟩ := F.kbinds (ps := P_Lead___init__) 2 ["grid", "length", "stops"] [] (fun us mv ws => us ++ ws) (by simp) (fun q h => by cases h) (fun r1 r2 r3 => r1.append r3) fun D doc pm an ct us mv ws l1 l2 l3 => by
    match us, mv, ws, l1, l2, l3 with
    | [a, b], [], [e, g, i], _, _, _ => rfl
  exact ⟨_, h⟩
theorem kb_L2 (F : FunC K "__init__" "Lead.__init__" s_Lead___init__ [("stops", .ref et)] f cda cc fd) : ∃ g, KBn K fd P_Lead___init__ 2 ["grid", "length"] g (gC et) := by
  obtain ⟨mv, h⟩ := F.kbinds (ps := P_Lead___init__) 2 ["grid", "length"] [("stops", .ref et)] (fun us mv ws => us ++ ws ++ mv) (by simp) (fun q h => h) (fun r1 r2 r3 => (r1.append r3).append r2) fun D doc pm an ct us mv ws l1 l2 l3 => by
    match us, mv, ws, l1, l2, l3 with
    | [a, b], [c], [e, g], _, _, _ => exact ⟨_, _, _, _, _, _, rfl, rfl, rfl⟩
  exact ⟨_, h⟩
end

end Lw


namespace Lw
open PySem L2 Bar

abbrev lawLevel : Nat := 8
theorem all_mk {l : PySem.W.OpenLaw} {w : World} {K : PySem.W.Frag} {h : Heap} {mg : Str → Option Value} {fa f_law f_law_box f_law_draw C_Grid f_Grid___init__ dT4 f_law_int f_law_same f_law_name f_law_signs f_law_any_name f_law_allowed f_law_sign f_law_bad_name f_law_other_name f_law_halts f_law_first_twice f_law_spoilt f_law_refused f_law_tried f_law_keeps C_BarclipsError C_BadName f_BadName___init__ C_BadNumber f_BadNumber___init__ C_Twice f_Twice___init__ f_is_name f_check_guards f_first_twice C_Clip C_Lead C_Sound f_Sound___init__ f_Clip___init__ cda_Clip___init__ cc_Clip___init__ kd33 et_Clip___init__ f_Lead___init__ cda_Lead___init__ cc_Lead___init__ kd34 et_Lead___init__ : Addr} (X : K.In h) (G : h.Ns mainGlobals mg) (hfa : mg "law" = some (.ref fa))
    {od1 an1 : Option Addr} {sl1 : Array (Option Value)} {oc1 kV1 dc1 pm1 cd1 ct1 : Value} {od2 an2 : Option Addr} {sl2 : Array (Option Value)} {oc2 kV2 dc2 pm2 cd2 ct2 : Value} {od3 an3 : Option Addr} {sl3 : Array (Option Value)} {oc3 kV3 dc3 pm3 cd3 ct3 : Value} {od4 an4 : Option Addr} {sl4 : Array (Option Value)} {oc4 kV4 dc4 pm4 cd4 ct4 : Value} {td4 : Option Addr} {ts4 : Array (Option Value)} {tc4 : Value} {tn4 : Nat} {tk4_0 : Tok} {od5 an5 : Option Addr} {sl5 : Array (Option Value)} {oc5 kV5 dc5 pm5 cd5 ct5 : Value} {od6 an6 : Option Addr} {sl6 : Array (Option Value)} {oc6 kV6 dc6 pm6 cd6 ct6 : Value} {od7 an7 : Option Addr} {sl7 : Array (Option Value)} {oc7 kV7 dc7 pm7 cd7 ct7 : Value} {od8 an8 : Option Addr} {sl8 : Array (Option Value)} {oc8 kV8 dc8 pm8 cd8 ct8 : Value} {od9 an9 : Option Addr} {sl9 : Array (Option Value)} {oc9 kV9 dc9 pm9 cd9 ct9 : Value} {od10 an10 : Option Addr} {sl10 : Array (Option Value)} {oc10 kV10 dc10 pm10 cd10 ct10 : Value} {od11 an11 : Option Addr} {sl11 : Array (Option Value)} {oc11 kV11 dc11 pm11 cd11 ct11 : Value} {od12 an12 : Option Addr} {sl12 : Array (Option Value)} {oc12 kV12 dc12 pm12 cd12 ct12 : Value} {od13 an13 : Option Addr} {sl13 : Array (Option Value)} {oc13 kV13 dc13 pm13 cd13 ct13 : Value} {od14 an14 : Option Addr} {sl14 : Array (Option Value)} {oc14 kV14 dc14 pm14 cd14 ct14 : Value} {od15 an15 : Option Addr} {sl15 : Array (Option Value)} {oc15 kV15 dc15 pm15 cd15 ct15 : Value} {od16 an16 : Option Addr} {sl16 : Array (Option Value)} {oc16 kV16 dc16 pm16 cd16 ct16 : Value} {od17 an17 : Option Addr} {sl17 : Array (Option Value)} {oc17 kV17 dc17 pm17 cd17 ct17 : Value} {od18 an18 : Option Addr} {sl18 : Array (Option Value)} {oc18 kV18 dc18 pm18 cd18 ct18 : Value} {od19 an19 : Option Addr} {sl19 : Array (Option Value)} {oc19 kV19 dc19 pm19 cd19 ct19 : Value} {xn20 xq20 : Str} {xN20 : Addr} {xb20 : List Value} {xs20 : List Str} {xu20 : List Value} {xa20 : Bool} {xc20 : Option Bool} {xd20 : Option Addr} {xk20a xk20b xk20c xk20d xk20e : Option Value} {od21 an21 : Option Addr} {sl21 : Array (Option Value)} {oc21 kV21 dc21 pm21 cd21 ct21 : Value} {xn22 xq22 : Str} {xN22 : Addr} {xb22 : List Value} {xs22 : List Str} {xu22 : List Value} {xa22 : Bool} {xc22 : Option Bool} {xd22 : Option Addr} {xk22a xk22b xk22c xk22d xk22e : Option Value} {od23 an23 : Option Addr} {sl23 : Array (Option Value)} {oc23 kV23 dc23 pm23 cd23 ct23 : Value} {xn24 xq24 : Str} {xN24 : Addr} {xb24 : List Value} {xs24 : List Str} {xu24 : List Value} {xa24 : Bool} {xc24 : Option Bool} {xd24 : Option Addr} {xk24a xk24b xk24c xk24d xk24e : Option Value} {od25 an25 : Option Addr} {sl25 : Array (Option Value)} {oc25 kV25 dc25 pm25 cd25 ct25 : Value} {od26 an26 : Option Addr} {sl26 : Array (Option Value)} {oc26 kV26 dc26 pm26 cd26 ct26 : Value} {od27 an27 : Option Addr} {sl27 : Array (Option Value)} {oc27 kV27 dc27 pm27 cd27 ct27 : Value} {od28 an28 : Option Addr} {sl28 : Array (Option Value)} {oc28 kV28 dc28 pm28 cd28 ct28 : Value} {tks29 : Tok} {tks30 : Tok} {tki31 : Tok} {od32 an32 : Option Addr} {sl32 : Array (Option Value)} {oc32 kV32 dc32 pm32 cd32 ct32 : Value} {od33 an33 oe33 of33 : Option Addr} {sl33 sm33 sn33 : Array (Option Value)} {oc33  dc33 pm33 ct33 cl33 cm33 : Value} {vs33 : Array Value} {fl33 : Str} {tf33 : Tok} {cdd33 : ClassData} {tk33 : Tok} {td33 : Option Addr} {ts33 : Array (Option Value)} {tn33 : Nat} {od34 an34 oe34 of34 : Option Addr} {sl34 sm34 sn34 : Array (Option Value)} {oc34  dc34 pm34 ct34 cl34 cm34 : Value} {vs34 : Array Value} {fl34 : Str} {tf34 : Tok} {cdd34 : ClassData} {td34 : Option Addr} {ts34 : Array (Option Value)} {tn34 : Nat} {tkv37 : Tok} {tkv38 : Tok}
    (a1 : PySem.W.nsIn K mainGlobals "law" = some (some (.ref f_law)))
    (l1 : K.lookup f_law = some ⟨oc1, od1, .func (PySem.W.fnOf "law" "law" (defArgs s_law) (defBody s_law) (defScope s_law) .none kV1 dc1 pm1 an1 cd1 ct1), sl1⟩)
    (c1 : PySem.W.codeIn K cd1 "law" = true)
    (k1 : PySem.W.keepIn K (.ref f_law) = true)
    (a2 : PySem.W.nsIn K mainGlobals "_law_box" = some (some (.ref f_law_box)))
    (l2 : K.lookup f_law_box = some ⟨oc2, od2, .func (PySem.W.fnOf "_law_box" "_law_box" (defArgs s_law_box) (defBody s_law_box) (defScope s_law_box) .none kV2 dc2 pm2 an2 cd2 ct2), sl2⟩)
    (c2 : PySem.W.codeIn K cd2 "_law_box" = true)
    (k2 : PySem.W.keepIn K (.ref f_law_box) = true)
    (a3 : PySem.W.nsIn K mainGlobals "_law_draw" = some (some (.ref f_law_draw)))
    (l3 : K.lookup f_law_draw = some ⟨oc3, od3, .func (PySem.W.fnOf "_law_draw" "_law_draw" (defArgs s_law_draw) (defBody s_law_draw) (defScope s_law_draw) .none kV3 dc3 pm3 an3 cd3 ct3), sl3⟩)
    (c3 : PySem.W.codeIn K cd3 "_law_draw" = true)
    (k3 : PySem.W.keepIn K (.ref f_law_draw) = true)
    (g_Grid : PySem.W.nsIn K mainGlobals "Grid" = some (some (.ref C_Grid)))
    (pg_Grid : PySem.W.plainGet K C_Grid Str.empty = true)
    (hd_Grid : PySem.W.hasDictIn K C_Grid = true)
    (po_Grid : PySem.W.plainOver K C_Grid = true)
    (sa_Grid : PySem.W.findIn K (.ref C_Grid) "__setattr__" = some (some (.builtin "object.__setattr__")))
    (mk_Grid : PySem.W.makesIn K C_Grid = true)
    (kp_Grid : PySem.W.keepIn K (.ref C_Grid) = true)
    (a4 : PySem.W.findIn K (.ref C_Grid) "__init__" = some (some (.ref f_Grid___init__)))
    (i4 : PySem.W.isFn K (.ref f_Grid___init__) = true)
    (l4 : K.lookup f_Grid___init__ = some ⟨oc4, od4, .func (PySem.W.fnOf "__init__" "Grid.__init__" (defArgs s_Grid___init__) (defBody s_Grid___init__) (defScope s_Grid___init__) (.ref dT4) kV4 dc4 pm4 an4 cd4 ct4), sl4⟩)
    (c4 : PySem.W.codeIn K cd4 "Grid.__init__" = true)
    (k4 : PySem.W.keepIn K (.ref f_Grid___init__) = true)
    (t4 : K.lookup dT4 = some ⟨tc4, td4, .seq (#[.int 0 tk4_0] : Array Value) tn4, ts4⟩)
    (no_Grid_step : PySem.W.findIn K (.ref C_Grid) "step" = some none)
    (no_Grid_offset : PySem.W.findIn K (.ref C_Grid) "offset" = some none)
    (z_len : PySem.W.nsIn K mainGlobals "len" = some none)
    (z_int : PySem.W.nsIn K mainGlobals "int" = some none)
    (z_abs : PySem.W.nsIn K mainGlobals "abs" = some none)
    (z_str : PySem.W.nsIn K mainGlobals "str" = some none)
    (z_range : PySem.W.nsIn K mainGlobals "range" = some none)
    (z_isinstance : PySem.W.nsIn K mainGlobals "isinstance" = some none)
    (z_bool : PySem.W.nsIn K mainGlobals "bool" = some none)
    (z_list : PySem.W.nsIn K mainGlobals "list" = some none)
    (z_tuple : PySem.W.nsIn K mainGlobals "tuple" = some none)
    (z_sum : PySem.W.nsIn K mainGlobals "sum" = some none)
    (z_min : PySem.W.nsIn K mainGlobals "min" = some none)
    (z_max : PySem.W.nsIn K mainGlobals "max" = some none)
    (z_any : PySem.W.nsIn K mainGlobals "any" = some none)
    (z_all : PySem.W.nsIn K mainGlobals "all" = some none)
    (z_sorted : PySem.W.nsIn K mainGlobals "sorted" = some none)
    (z_enumerate : PySem.W.nsIn K mainGlobals "enumerate" = some none)
    (z_ValueError : PySem.W.nsIn K mainGlobals "ValueError" = some none)
    (z_super : PySem.W.nsIn K mainGlobals "super" = some none)
    (z_set : PySem.W.nsIn K mainGlobals "set" = some none)
    (a5 : PySem.W.nsIn K mainGlobals "_law_int" = some (some (.ref f_law_int)))
    (l5 : K.lookup f_law_int = some ⟨oc5, od5, .func (PySem.W.fnOf "_law_int" "_law_int" (defArgs s_law_int) (defBody s_law_int) (defScope s_law_int) .none kV5 dc5 pm5 an5 cd5 ct5), sl5⟩)
    (c5 : PySem.W.codeIn K cd5 "_law_int" = true)
    (k5 : PySem.W.keepIn K (.ref f_law_int) = true)
    (a6 : PySem.W.nsIn K mainGlobals "_law_same" = some (some (.ref f_law_same)))
    (l6 : K.lookup f_law_same = some ⟨oc6, od6, .func (PySem.W.fnOf "_law_same" "_law_same" (defArgs s_law_same) (defBody s_law_same) (defScope s_law_same) .none kV6 dc6 pm6 an6 cd6 ct6), sl6⟩)
    (c6 : PySem.W.codeIn K cd6 "_law_same" = true)
    (k6 : PySem.W.keepIn K (.ref f_law_same) = true)
    (a7 : PySem.W.nsIn K mainGlobals "_law_name" = some (some (.ref f_law_name)))
    (l7 : K.lookup f_law_name = some ⟨oc7, od7, .func (PySem.W.fnOf "_law_name" "_law_name" (defArgs s_law_name) (defBody s_law_name) (defScope s_law_name) .none kV7 dc7 pm7 an7 cd7 ct7), sl7⟩)
    (c7 : PySem.W.codeIn K cd7 "_law_name" = true)
    (k7 : PySem.W.keepIn K (.ref f_law_name) = true)
    (a8 : PySem.W.nsIn K mainGlobals "_law_signs" = some (some (.ref f_law_signs)))
    (l8 : K.lookup f_law_signs = some ⟨oc8, od8, .func (PySem.W.fnOf "_law_signs" "_law_signs" (defArgs s_law_signs) (defBody s_law_signs) (defScope s_law_signs) .none kV8 dc8 pm8 an8 cd8 ct8), sl8⟩)
    (c8 : PySem.W.codeIn K cd8 "_law_signs" = true)
    (k8 : PySem.W.keepIn K (.ref f_law_signs) = true)
    (a9 : PySem.W.nsIn K mainGlobals "_law_any_name" = some (some (.ref f_law_any_name)))
    (l9 : K.lookup f_law_any_name = some ⟨oc9, od9, .func (PySem.W.fnOf "_law_any_name" "_law_any_name" (defArgs s_law_any_name) (defBody s_law_any_name) (defScope s_law_any_name) .none kV9 dc9 pm9 an9 cd9 ct9), sl9⟩)
    (c9 : PySem.W.codeIn K cd9 "_law_any_name" = true)
    (k9 : PySem.W.keepIn K (.ref f_law_any_name) = true)
    (a10 : PySem.W.nsIn K mainGlobals "_law_allowed" = some (some (.ref f_law_allowed)))
    (l10 : K.lookup f_law_allowed = some ⟨oc10, od10, .func (PySem.W.fnOf "_law_allowed" "_law_allowed" (defArgs s_law_allowed) (defBody s_law_allowed) (defScope s_law_allowed) .none kV10 dc10 pm10 an10 cd10 ct10), sl10⟩)
    (c10 : PySem.W.codeIn K cd10 "_law_allowed" = true)
    (k10 : PySem.W.keepIn K (.ref f_law_allowed) = true)
    (a11 : PySem.W.nsIn K mainGlobals "_law_sign" = some (some (.ref f_law_sign)))
    (l11 : K.lookup f_law_sign = some ⟨oc11, od11, .func (PySem.W.fnOf "_law_sign" "_law_sign" (defArgs s_law_sign) (defBody s_law_sign) (defScope s_law_sign) .none kV11 dc11 pm11 an11 cd11 ct11), sl11⟩)
    (c11 : PySem.W.codeIn K cd11 "_law_sign" = true)
    (k11 : PySem.W.keepIn K (.ref f_law_sign) = true)
    (a12 : PySem.W.nsIn K mainGlobals "_law_bad_name" = some (some (.ref f_law_bad_name)))
    (l12 : K.lookup f_law_bad_name = some ⟨oc12, od12, .func (PySem.W.fnOf "_law_bad_name" "_law_bad_name" (defArgs s_law_bad_name) (defBody s_law_bad_name) (defScope s_law_bad_name) .none kV12 dc12 pm12 an12 cd12 ct12), sl12⟩)
    (c12 : PySem.W.codeIn K cd12 "_law_bad_name" = true)
    (k12 : PySem.W.keepIn K (.ref f_law_bad_name) = true)
    (a13 : PySem.W.nsIn K mainGlobals "_law_other_name" = some (some (.ref f_law_other_name)))
    (l13 : K.lookup f_law_other_name = some ⟨oc13, od13, .func (PySem.W.fnOf "_law_other_name" "_law_other_name" (defArgs s_law_other_name) (defBody s_law_other_name) (defScope s_law_other_name) .none kV13 dc13 pm13 an13 cd13 ct13), sl13⟩)
    (c13 : PySem.W.codeIn K cd13 "_law_other_name" = true)
    (k13 : PySem.W.keepIn K (.ref f_law_other_name) = true)
    (a14 : PySem.W.nsIn K mainGlobals "_law_halts" = some (some (.ref f_law_halts)))
    (l14 : K.lookup f_law_halts = some ⟨oc14, od14, .func (PySem.W.fnOf "_law_halts" "_law_halts" (defArgs s_law_halts) (defBody s_law_halts) (defScope s_law_halts) .none kV14 dc14 pm14 an14 cd14 ct14), sl14⟩)
    (c14 : PySem.W.codeIn K cd14 "_law_halts" = true)
    (k14 : PySem.W.keepIn K (.ref f_law_halts) = true)
    (a15 : PySem.W.nsIn K mainGlobals "_law_first_twice" = some (some (.ref f_law_first_twice)))
    (l15 : K.lookup f_law_first_twice = some ⟨oc15, od15, .func (PySem.W.fnOf "_law_first_twice" "_law_first_twice" (defArgs s_law_first_twice) (defBody s_law_first_twice) (defScope s_law_first_twice) .none kV15 dc15 pm15 an15 cd15 ct15), sl15⟩)
    (c15 : PySem.W.codeIn K cd15 "_law_first_twice" = true)
    (k15 : PySem.W.keepIn K (.ref f_law_first_twice) = true)
    (a16 : PySem.W.nsIn K mainGlobals "_law_spoilt" = some (some (.ref f_law_spoilt)))
    (l16 : K.lookup f_law_spoilt = some ⟨oc16, od16, .func (PySem.W.fnOf "_law_spoilt" "_law_spoilt" (defArgs s_law_spoilt) (defBody s_law_spoilt) (defScope s_law_spoilt) .none kV16 dc16 pm16 an16 cd16 ct16), sl16⟩)
    (c16 : PySem.W.codeIn K cd16 "_law_spoilt" = true)
    (k16 : PySem.W.keepIn K (.ref f_law_spoilt) = true)
    (a17 : PySem.W.nsIn K mainGlobals "_law_refused" = some (some (.ref f_law_refused)))
    (l17 : K.lookup f_law_refused = some ⟨oc17, od17, .func (PySem.W.fnOf "_law_refused" "_law_refused" (defArgs s_law_refused) (defBody s_law_refused) (defScope s_law_refused) .none kV17 dc17 pm17 an17 cd17 ct17), sl17⟩)
    (c17 : PySem.W.codeIn K cd17 "_law_refused" = true)
    (k17 : PySem.W.keepIn K (.ref f_law_refused) = true)
    (a18 : PySem.W.nsIn K mainGlobals "_law_tried" = some (some (.ref f_law_tried)))
    (l18 : K.lookup f_law_tried = some ⟨oc18, od18, .func (PySem.W.fnOf "_law_tried" "_law_tried" (defArgs s_law_tried) (defBody s_law_tried) (defScope s_law_tried) .none kV18 dc18 pm18 an18 cd18 ct18), sl18⟩)
    (c18 : PySem.W.codeIn K cd18 "_law_tried" = true)
    (k18 : PySem.W.keepIn K (.ref f_law_tried) = true)
    (a19 : PySem.W.nsIn K mainGlobals "_law_keeps" = some (some (.ref f_law_keeps)))
    (l19 : K.lookup f_law_keeps = some ⟨oc19, od19, .func (PySem.W.fnOf "_law_keeps" "_law_keeps" (defArgs s_law_keeps) (defBody s_law_keeps) (defScope s_law_keeps) .none kV19 dc19 pm19 an19 cd19 ct19), sl19⟩)
    (c19 : PySem.W.codeIn K cd19 "_law_keeps" = true)
    (k19 : PySem.W.keepIn K (.ref f_law_keeps) = true)
    (g_BarclipsError : PySem.W.nsIn K mainGlobals "BarclipsError" = some (some (.ref C_BarclipsError)))
    (rd_BarclipsError : PySem.W.readsIn K C_BarclipsError (.type "type") = true)
    (sg_BarclipsError : PySem.W.specialIn K (.ref C_BarclipsError) "__getattribute__" = some (some (.builtin "type.__getattribute__")))
    (vi_BarclipsError : PySem.W.findCls K (.ref C_BarclipsError) (.type "type") "__init__" = some (.val (.builtin "ValueError.__init__")))
    (ic_BarclipsError : PySem.W.isClsIn K C_BarclipsError = true)
    (ty_BarclipsError : PySem.W.typeIn K (.ref C_BarclipsError) = some (.type "type"))
    (e_hn : PySem.W.specialIn K (.builtin "object.__class__") "__get__" = some (some (.builtin "getset_descriptor.__get__")))
    (e_tk : PySem.W.takesIn K (.builtin "object.__class__") = some true)
    (i_ha : PySem.W.findIn K (.ref C_Grid) "__class__" = some (some (.builtin "object.__class__")))
    (i_hm : PySem.W.mroIn K C_Grid (.type "object") = some true)
    (g_BadName : PySem.W.nsIn K mainGlobals "BadName" = some (some (.ref C_BadName)))
    (lk_BadName : K.lookup C_BadName = some (excClassObj xn20 xq20 C_BadName xN20 xb20 [.ref C_BarclipsError, .type "ValueError", .type "Exception", .type "BaseException", .type "object"] true xs20 xu20 xa20 xc20 xd20 xk20a xk20b xk20c xk20d xk20e "ValueError.__new__"))
    (sa_BadName : PySem.W.findIn K (.ref C_BadName) "__setattr__" = some (some (.builtin "object.__setattr__")))
    (xb_BadName : PySem.W.subIn K (.ref C_BadName) (.type "BaseException") = some true)
    (ty_BadName : PySem.W.typeIn K (.ref C_BadName) = some (.type "type"))
    (kp_BadName : PySem.W.keepIn K (.ref C_BadName) = true)
    (ga_BadName : PySem.W.findIn K (.ref C_BadName) "__getattribute__" = some (some (.builtin "BaseException.__getattribute__")))
    (gg_BadName : PySem.W.findIn K (.ref C_BadName) "__getattr__" = some none)
    (hd_BadName : PySem.W.hasDictIn K C_BadName = true)
    (ic_BadName : PySem.W.isClsIn K C_BadName = true)
    (ac_BadName : PySem.W.findIn K (.ref C_BadName) "__class__" = some (some (.builtin "object.__class__")))
    (mo_BadName : PySem.W.mroIn K C_BadName (.type "object") = some true)
    (ss_BadName : PySem.W.subIn K (.ref C_BadName) (.ref C_BadName) = some true)
    (a21 : PySem.W.findIn K (.ref C_BadName) "__init__" = some (some (.ref f_BadName___init__)))
    (t21 : PySem.W.typeIn K (.ref f_BadName___init__) = some (.type "function"))
    (l21 : K.lookup f_BadName___init__ = some ⟨oc21, od21, .func (PySem.W.fnOf "__init__" "BadName.__init__" (defArgs s_BadName___init__) (defBody s_BadName___init__) (defScope s_BadName___init__) .none kV21 dc21 pm21 an21 cd21 ct21), sl21⟩)
    (c21 : PySem.W.codeIn K cd21 "BadName.__init__" = true)
    (k21 : PySem.W.keepIn K (.ref f_BadName___init__) = true)
    (no_BadName_name : PySem.W.findIn K (.ref C_BadName) "name" = some none)
    (g_BadNumber : PySem.W.nsIn K mainGlobals "BadNumber" = some (some (.ref C_BadNumber)))
    (lk_BadNumber : K.lookup C_BadNumber = some (excClassObj xn22 xq22 C_BadNumber xN22 xb22 [.ref C_BarclipsError, .type "ValueError", .type "Exception", .type "BaseException", .type "object"] true xs22 xu22 xa22 xc22 xd22 xk22a xk22b xk22c xk22d xk22e "ValueError.__new__"))
    (sa_BadNumber : PySem.W.findIn K (.ref C_BadNumber) "__setattr__" = some (some (.builtin "object.__setattr__")))
    (xb_BadNumber : PySem.W.subIn K (.ref C_BadNumber) (.type "BaseException") = some true)
    (ty_BadNumber : PySem.W.typeIn K (.ref C_BadNumber) = some (.type "type"))
    (kp_BadNumber : PySem.W.keepIn K (.ref C_BadNumber) = true)
    (ga_BadNumber : PySem.W.findIn K (.ref C_BadNumber) "__getattribute__" = some (some (.builtin "BaseException.__getattribute__")))
    (gg_BadNumber : PySem.W.findIn K (.ref C_BadNumber) "__getattr__" = some none)
    (hd_BadNumber : PySem.W.hasDictIn K C_BadNumber = true)
    (ic_BadNumber : PySem.W.isClsIn K C_BadNumber = true)
    (ac_BadNumber : PySem.W.findIn K (.ref C_BadNumber) "__class__" = some (some (.builtin "object.__class__")))
    (mo_BadNumber : PySem.W.mroIn K C_BadNumber (.type "object") = some true)
    (ss_BadNumber : PySem.W.subIn K (.ref C_BadNumber) (.ref C_BadNumber) = some true)
    (a23 : PySem.W.findIn K (.ref C_BadNumber) "__init__" = some (some (.ref f_BadNumber___init__)))
    (t23 : PySem.W.typeIn K (.ref f_BadNumber___init__) = some (.type "function"))
    (l23 : K.lookup f_BadNumber___init__ = some ⟨oc23, od23, .func (PySem.W.fnOf "__init__" "BadNumber.__init__" (defArgs s_BadNumber___init__) (defBody s_BadNumber___init__) (defScope s_BadNumber___init__) .none kV23 dc23 pm23 an23 cd23 ct23), sl23⟩)
    (c23 : PySem.W.codeIn K cd23 "BadNumber.__init__" = true)
    (k23 : PySem.W.keepIn K (.ref f_BadNumber___init__) = true)
    (no_BadNumber_value : PySem.W.findIn K (.ref C_BadNumber) "value" = some none)
    (g_Twice : PySem.W.nsIn K mainGlobals "Twice" = some (some (.ref C_Twice)))
    (lk_Twice : K.lookup C_Twice = some (excClassObj xn24 xq24 C_Twice xN24 xb24 [.ref C_BarclipsError, .type "ValueError", .type "Exception", .type "BaseException", .type "object"] true xs24 xu24 xa24 xc24 xd24 xk24a xk24b xk24c xk24d xk24e "ValueError.__new__"))
    (sa_Twice : PySem.W.findIn K (.ref C_Twice) "__setattr__" = some (some (.builtin "object.__setattr__")))
    (xb_Twice : PySem.W.subIn K (.ref C_Twice) (.type "BaseException") = some true)
    (ty_Twice : PySem.W.typeIn K (.ref C_Twice) = some (.type "type"))
    (kp_Twice : PySem.W.keepIn K (.ref C_Twice) = true)
    (ga_Twice : PySem.W.findIn K (.ref C_Twice) "__getattribute__" = some (some (.builtin "BaseException.__getattribute__")))
    (gg_Twice : PySem.W.findIn K (.ref C_Twice) "__getattr__" = some none)
    (hd_Twice : PySem.W.hasDictIn K C_Twice = true)
    (ic_Twice : PySem.W.isClsIn K C_Twice = true)
    (ac_Twice : PySem.W.findIn K (.ref C_Twice) "__class__" = some (some (.builtin "object.__class__")))
    (mo_Twice : PySem.W.mroIn K C_Twice (.type "object") = some true)
    (ss_Twice : PySem.W.subIn K (.ref C_Twice) (.ref C_Twice) = some true)
    (a25 : PySem.W.findIn K (.ref C_Twice) "__init__" = some (some (.ref f_Twice___init__)))
    (t25 : PySem.W.typeIn K (.ref f_Twice___init__) = some (.type "function"))
    (l25 : K.lookup f_Twice___init__ = some ⟨oc25, od25, .func (PySem.W.fnOf "__init__" "Twice.__init__" (defArgs s_Twice___init__) (defBody s_Twice___init__) (defScope s_Twice___init__) .none kV25 dc25 pm25 an25 cd25 ct25), sl25⟩)
    (c25 : PySem.W.codeIn K cd25 "Twice.__init__" = true)
    (k25 : PySem.W.keepIn K (.ref f_Twice___init__) = true)
    (no_Twice_name : PySem.W.findIn K (.ref C_Twice) "name" = some none)
    (sb_BadName_BarclipsError : PySem.W.subIn K (.ref C_BadName) (.ref C_BarclipsError) = some true)
    (sb_BadName_ValueError : PySem.W.subIn K (.ref C_BadName) (.type "ValueError") = some true)
    (sb_BadName_BadNumber : PySem.W.subIn K (.ref C_BadName) (.ref C_BadNumber) = some false)
    (sb_BadName_Twice : PySem.W.subIn K (.ref C_BadName) (.ref C_Twice) = some false)
    (sb_BadNumber_BarclipsError : PySem.W.subIn K (.ref C_BadNumber) (.ref C_BarclipsError) = some true)
    (sb_BadNumber_ValueError : PySem.W.subIn K (.ref C_BadNumber) (.type "ValueError") = some true)
    (sb_BadNumber_BadName : PySem.W.subIn K (.ref C_BadNumber) (.ref C_BadName) = some false)
    (sb_BadNumber_Twice : PySem.W.subIn K (.ref C_BadNumber) (.ref C_Twice) = some false)
    (sb_Twice_BarclipsError : PySem.W.subIn K (.ref C_Twice) (.ref C_BarclipsError) = some true)
    (sb_Twice_ValueError : PySem.W.subIn K (.ref C_Twice) (.type "ValueError") = some true)
    (sb_Twice_BadName : PySem.W.subIn K (.ref C_Twice) (.ref C_BadName) = some false)
    (sb_Twice_BadNumber : PySem.W.subIn K (.ref C_Twice) (.ref C_BadNumber) = some false)
    (a26 : PySem.W.nsIn K mainGlobals "is_name" = some (some (.ref f_is_name)))
    (l26 : K.lookup f_is_name = some ⟨oc26, od26, .func (PySem.W.fnOf "is_name" "is_name" (defArgs s_is_name) (defBody s_is_name) (defScope s_is_name) .none kV26 dc26 pm26 an26 cd26 ct26), sl26⟩)
    (c26 : PySem.W.codeIn K cd26 "is_name" = true)
    (k26 : PySem.W.keepIn K (.ref f_is_name) = true)
    (a27 : PySem.W.nsIn K mainGlobals "check_guards" = some (some (.ref f_check_guards)))
    (l27 : K.lookup f_check_guards = some ⟨oc27, od27, .func (PySem.W.fnOf "check_guards" "check_guards" (defArgs s_check_guards) (defBody s_check_guards) (defScope s_check_guards) .none kV27 dc27 pm27 an27 cd27 ct27), sl27⟩)
    (c27 : PySem.W.codeIn K cd27 "check_guards" = true)
    (k27 : PySem.W.keepIn K (.ref f_check_guards) = true)
    (a28 : PySem.W.nsIn K mainGlobals "first_twice" = some (some (.ref f_first_twice)))
    (l28 : K.lookup f_first_twice = some ⟨oc28, od28, .func (PySem.W.fnOf "first_twice" "first_twice" (defArgs s_first_twice) (defBody s_first_twice) (defScope s_first_twice) .none kV28 dc28 pm28 an28 cd28 ct28), sl28⟩)
    (c28 : PySem.W.codeIn K cd28 "first_twice" = true)
    (k28 : PySem.W.keepIn K (.ref f_first_twice) = true)
    (gs_LETTERS : PySem.W.nsIn K mainGlobals "LETTERS" = some (some (.str "abcdefghijklmnopqrstuvwxyz" tks29)))
    (gs_CHARACTERS : PySem.W.nsIn K mainGlobals "CHARACTERS" = some (some (.str "abcdefghijklmnopqrstuvwxyz0123456789" tks30)))
    (gi_MOST_CHARACTERS : PySem.W.nsIn K mainGlobals "MOST_CHARACTERS" = some (some (.int 12 tki31)))
    (g_Clip : PySem.W.nsIn K mainGlobals "Clip" = some (some (.ref C_Clip)))
    (pg_Clip : PySem.W.plainGet K C_Clip Str.empty = true)
    (hd_Clip : PySem.W.hasDictIn K C_Clip = true)
    (po_Clip : PySem.W.plainOver K C_Clip = true)
    (sa_Clip : PySem.W.findIn K (.ref C_Clip) "__setattr__" = some (some (.builtin "object.__setattr__")))
    (mk_Clip : PySem.W.makesIn K C_Clip = true)
    (kp_Clip : PySem.W.keepIn K (.ref C_Clip) = true)
    (g_Lead : PySem.W.nsIn K mainGlobals "Lead" = some (some (.ref C_Lead)))
    (pg_Lead : PySem.W.plainGet K C_Lead Str.empty = true)
    (hd_Lead : PySem.W.hasDictIn K C_Lead = true)
    (po_Lead : PySem.W.plainOver K C_Lead = true)
    (sa_Lead : PySem.W.findIn K (.ref C_Lead) "__setattr__" = some (some (.builtin "object.__setattr__")))
    (mk_Lead : PySem.W.makesIn K C_Lead = true)
    (kp_Lead : PySem.W.keepIn K (.ref C_Lead) = true)
    (g_Sound : PySem.W.nsIn K mainGlobals "Sound" = some (some (.ref C_Sound)))
    (pg_Sound : PySem.W.plainGet K C_Sound Str.empty = true)
    (hd_Sound : PySem.W.hasDictIn K C_Sound = true)
    (po_Sound : PySem.W.plainOver K C_Sound = true)
    (sa_Sound : PySem.W.findIn K (.ref C_Sound) "__setattr__" = some (some (.builtin "object.__setattr__")))
    (mk_Sound : PySem.W.makesIn K C_Sound = true)
    (kp_Sound : PySem.W.keepIn K (.ref C_Sound) = true)
    (a32 : PySem.W.findIn K (.ref C_Sound) "__init__" = some (some (.ref f_Sound___init__)))
    (i32 : PySem.W.isFn K (.ref f_Sound___init__) = true)
    (l32 : K.lookup f_Sound___init__ = some ⟨oc32, od32, .func (PySem.W.fnOf "__init__" "Sound.__init__" (defArgs s_Sound___init__) (defBody s_Sound___init__) (defScope s_Sound___init__) .none kV32 dc32 pm32 an32 cd32 ct32), sl32⟩)
    (c32 : PySem.W.codeIn K cd32 "Sound.__init__" = true)
    (k32 : PySem.W.keepIn K (.ref f_Sound___init__) = true)
    (a33 : PySem.W.findIn K (.ref C_Clip) "__init__" = some (some (.ref f_Clip___init__)))
    (i33 : PySem.W.isFn K (.ref f_Clip___init__) = true)
    (l33 : K.lookup f_Clip___init__ = some ⟨oc33, od33, .func (PySem.W.fnX "__init__" "Clip.__init__" (defArgs s_Clip___init__) (defBody s_Clip___init__) (defScope s_Clip___init__) [("__class__", cc_Clip___init__)] .none (.ref kd33) dc33 pm33 an33 (.ref cda_Clip___init__) ct33), sl33⟩)
    (c33 : PySem.W.codeIn K (.ref cda_Clip___init__) "Clip.__init__" = true)
    (k33 : PySem.W.keepIn K (.ref f_Clip___init__) = true)
    (e33 : K.lookup cc_Clip___init__ = some ⟨cl33, oe33, .cell (some (.ref C_Clip)), sm33⟩)
    (d33 : K.lookup cda_Clip___init__ = some ⟨cm33, of33, .fields vs33, sn33⟩)
    (f33 : vs33[2]? = some (.str fl33 tf33))
    (g33 : ((l.prog.main.file : Str) == fl33) = true)
    (h33 : (l.prog.main.scope.names.lookup ("super" : Str)).isSome = false)
    (j33 : PySem.W.clsIn K C_Clip = some cdd33)
    (m33 : PySem.W.mroIn K C_Clip (.ref C_Clip) = some true)
    (p33 : PySem.W.nsIn K kd33 "rounds" = some (some (.int 1 tk33)))
    (n33 : PySem.W.nsIn K kd33 "guards" = some (some (.ref et_Clip___init__)))
    (o33 : K.lookup et_Clip___init__ = some ⟨.type "tuple", td33, .seq #[] tn33, ts33⟩)
    (a34 : PySem.W.findIn K (.ref C_Lead) "__init__" = some (some (.ref f_Lead___init__)))
    (i34 : PySem.W.isFn K (.ref f_Lead___init__) = true)
    (l34 : K.lookup f_Lead___init__ = some ⟨oc34, od34, .func (PySem.W.fnX "__init__" "Lead.__init__" (defArgs s_Lead___init__) (defBody s_Lead___init__) (defScope s_Lead___init__) [("__class__", cc_Lead___init__)] .none (.ref kd34) dc34 pm34 an34 (.ref cda_Lead___init__) ct34), sl34⟩)
    (c34 : PySem.W.codeIn K (.ref cda_Lead___init__) "Lead.__init__" = true)
    (k34 : PySem.W.keepIn K (.ref f_Lead___init__) = true)
    (e34 : K.lookup cc_Lead___init__ = some ⟨cl34, oe34, .cell (some (.ref C_Lead)), sm34⟩)
    (d34 : K.lookup cda_Lead___init__ = some ⟨cm34, of34, .fields vs34, sn34⟩)
    (f34 : vs34[2]? = some (.str fl34 tf34))
    (g34 : ((l.prog.main.file : Str) == fl34) = true)
    (h34 : (l.prog.main.scope.names.lookup ("super" : Str)).isSome = false)
    (j34 : PySem.W.clsIn K C_Lead = some cdd34)
    (m34 : PySem.W.mroIn K C_Lead (.ref C_Lead) = some true)
    (n34 : PySem.W.nsIn K kd34 "stops" = some (some (.ref et_Lead___init__)))
    (o34 : K.lookup et_Lead___init__ = some ⟨.type "tuple", td34, .seq #[] tn34, ts34⟩)
    (tpa : PySem.W.nsIn K cStatics "thirdparty.any" = some none)
    (u35 : PySem.W.ks_superIn K C_Clip C_Clip "__init__" = some (some (.ref f_Sound___init__)))
    (v35 : PySem.W.typeIn K (.ref f_Sound___init__) = some (.type "function"))
    (w35 : PySem.W.fnIn K f_Sound___init__ = true)
    (u36 : PySem.W.ks_superIn K C_Lead C_Lead "__init__" = some (some (.ref f_Sound___init__)))
    (v36 : PySem.W.typeIn K (.ref f_Sound___init__) = some (.type "function"))
    (w36 : PySem.W.fnIn K f_Sound___init__ = true)
    (rd_Clip : PySem.W.readsIn K C_Clip (.type "type") = true)
    (sg_Clip : PySem.W.specialIn K (.ref C_Clip) "__getattribute__" = some (some (.builtin "type.__getattribute__")))
    (cv_Clip_ROUNDS : PySem.W.findCls K (.ref C_Clip) (.type "type") "ROUNDS" = some (.val (.int 4 tkv37)))
    (rd_Lead : PySem.W.readsIn K C_Lead (.type "type") = true)
    (sg_Lead : PySem.W.specialIn K (.ref C_Lead) "__getattribute__" = some (some (.builtin "type.__getattribute__")))
    (cv_Lead_PATIENCE : PySem.W.findCls K (.ref C_Lead) (.type "type") "PATIENCE" = some (.val (.int 64 tkv38)))
    (no_Sound_name : PySem.W.findIn K (.ref C_Sound) "name" = some none)
    (no_Sound_grid : PySem.W.findIn K (.ref C_Sound) "grid" = some none)
    (no_Clip_name : PySem.W.findIn K (.ref C_Clip) "name" = some none)
    (no_Clip_grid : PySem.W.findIn K (.ref C_Clip) "grid" = some none)
    (no_Clip_length : PySem.W.findIn K (.ref C_Clip) "length" = some none)
    (no_Clip_rounds : PySem.W.findIn K (.ref C_Clip) "rounds" = some none)
    (no_Clip_guards : PySem.W.findIn K (.ref C_Clip) "guards" = some none)
    (no_Lead_name : PySem.W.findIn K (.ref C_Lead) "name" = some none)
    (no_Lead_grid : PySem.W.findIn K (.ref C_Lead) "grid" = some none)
    (no_Lead_length : PySem.W.findIn K (.ref C_Lead) "length" = some none)
    (no_Lead_stops : PySem.W.findIn K (.ref C_Lead) "stops" = some none)
    (c_ha : PySem.W.findIn K (.ref C_Clip) "__class__" = some (some (.builtin "object.__class__")))
    (c_hm : PySem.W.mroIn K C_Clip (.type "object") = some true)
    (l_ha : PySem.W.findIn K (.ref C_Lead) "__class__" = some (some (.builtin "object.__class__")))
    (l_hm : PySem.W.mroIn K C_Lead (.type "object") = some true)
    (s_ha : PySem.W.findIn K (.ref C_Sound) "__class__" = some (some (.builtin "object.__class__")))
    (s_hm : PySem.W.mroIn K C_Sound (.type "object") = some true)
    (ic_Sound : PySem.W.isClsIn K C_Sound = true)
    (ty_Sound : PySem.W.typeIn K (.ref C_Sound) = some (.type "type"))
    (sb_Clip_Sound : PySem.W.subIn K (.ref C_Clip) (.ref C_Sound) = some true)
    (sb_Lead_Sound : PySem.W.subIn K (.ref C_Lead) (.ref C_Sound) = some true) :
    ∃ fd : FuncData, (∀ (s : Shared) (v : Value), BindsTo s fd ⟨[v], []⟩ [("_law_script", v)]) ∧ ∀ base : Heap, K.In base → base.Ns mainGlobals mg → FnOk l.prog w K mg base CX0 lawLevel fa fd ["_law_script"] (spLaw K) := by
  have F_law := fun_mk (st := s_law) l1 c1 k1
  have g_law := PySem.W.mg_of X G a1
  have kp_law := k1
  have F_law_box := fun_mk (st := s_law_box) l2 c2 k2
  have b_law_box := F_law_box.binds (ps := P_law_box) fun _ _ _ _ _ _ us hl => match us, hl with | [_, _], _ => rfl
  have g_law_box := PySem.W.mg_of X G a2
  have kp_law_box := k2
  have F_law_draw := fun_mk (st := s_law_draw) l3 c3 k3
  have b_law_draw := F_law_draw.binds (ps := P_law_draw) fun _ _ _ _ _ _ us hl => match us, hl with | [_, _], _ => rfl
  have g_law_draw := PySem.W.mg_of X G a3
  have kp_law_draw := k3
  have cl_Grid : Cls K C_Grid := ⟨pg_Grid, hd_Grid, po_Grid, sa_Grid⟩
  have mg_Grid := PySem.W.mg_of X G g_Grid
  have F_Grid___init__ : FunD K "__init__" "Grid.__init__" (defArgs s_Grid___init__) (defBody s_Grid___init__) (defScope s_Grid___init__) [.int 0] [] f_Grid___init__ _ := ⟨⟨_, _, _, _, _, _, _, _, _, _, rfl, l4, c4, Or.inr ⟨by simp, _, _, _, _, rfl, t4, rfl, .cons ⟨_, rfl⟩ (.nil)⟩, Or.inl rfl⟩, k4⟩
  obtain ⟨ds_Grid___init___1, dr_Grid___init___1, b_Grid___init___1⟩ := F_Grid___init__.binds1 (ps := P_Grid___init__) 2 0 (by simp) rfl (fun T kV doc pm an cdv ct us its h1 h2 => match us, its, h1, h2 with | [_, _], [_], _, _ => ⟨_, rfl, rfl⟩)
  obtain ⟨ds_Grid___init___2, dr_Grid___init___2, b_Grid___init___2⟩ := F_Grid___init__.binds1 (ps := P_Grid___init__) 3 1 (by simp) rfl (fun T kV doc pm an cdv ct us its h1 h2 => match us, its, h1, h2 with | [_, _, _], [_], _, _ => ⟨_, rfl, rfl⟩)
  have mk_Grid___init__ : Mk K C_Grid f_Grid___init__ := ⟨mk_Grid, a4, i4, kp_Grid⟩
  have kp_Grid___init__ := k4
  have b_len := PySem.W.mg_none_of X G z_len
  have b_int := PySem.W.mg_none_of X G z_int
  have b_abs := PySem.W.mg_none_of X G z_abs
  have b_str := PySem.W.mg_none_of X G z_str
  have b_range := PySem.W.mg_none_of X G z_range
  have b_isinstance := PySem.W.mg_none_of X G z_isinstance
  have b_bool := PySem.W.mg_none_of X G z_bool
  have b_list := PySem.W.mg_none_of X G z_list
  have b_tuple := PySem.W.mg_none_of X G z_tuple
  have b_sum := PySem.W.mg_none_of X G z_sum
  have b_min := PySem.W.mg_none_of X G z_min
  have b_max := PySem.W.mg_none_of X G z_max
  have b_any := PySem.W.mg_none_of X G z_any
  have b_all := PySem.W.mg_none_of X G z_all
  have b_sorted := PySem.W.mg_none_of X G z_sorted
  have b_enumerate := PySem.W.mg_none_of X G z_enumerate
  have b_ValueError := PySem.W.mg_none_of X G z_ValueError
  have b_super := PySem.W.mg_none_of X G z_super
  have b_set := PySem.W.mg_none_of X G z_set
  have F_law_int := fun_mk (st := s_law_int) l5 c5 k5
  have b_law_int := F_law_int.binds (ps := P_law_int) fun _ _ _ _ _ _ us hl => match us, hl with | [_], _ => rfl
  have g_law_int := PySem.W.mg_of X G a5
  have kp_law_int := k5
  have F_law_same := fun_mk (st := s_law_same) l6 c6 k6
  have b_law_same := F_law_same.binds (ps := P_law_same) fun _ _ _ _ _ _ us hl => match us, hl with | [_, _], _ => rfl
  have g_law_same := PySem.W.mg_of X G a6
  have kp_law_same := k6
  have F_law_name := fun_mk (st := s_law_name) l7 c7 k7
  have b_law_name := F_law_name.binds (ps := P_law_name) fun _ _ _ _ _ _ us hl => match us, hl with | [_, _], _ => rfl
  have g_law_name := PySem.W.mg_of X G a7
  have kp_law_name := k7
  have F_law_signs := fun_mk (st := s_law_signs) l8 c8 k8
  have b_law_signs := F_law_signs.binds (ps := P_law_signs) fun _ _ _ _ _ _ us hl => match us, hl with | [], _ => rfl
  have g_law_signs := PySem.W.mg_of X G a8
  have kp_law_signs := k8
  have F_law_any_name := fun_mk (st := s_law_any_name) l9 c9 k9
  have b_law_any_name := F_law_any_name.binds (ps := P_law_any_name) fun _ _ _ _ _ _ us hl => match us, hl with | [_], _ => rfl
  have g_law_any_name := PySem.W.mg_of X G a9
  have kp_law_any_name := k9
  have F_law_allowed := fun_mk (st := s_law_allowed) l10 c10 k10
  have b_law_allowed := F_law_allowed.binds (ps := P_law_allowed) fun _ _ _ _ _ _ us hl => match us, hl with | [_], _ => rfl
  have g_law_allowed := PySem.W.mg_of X G a10
  have kp_law_allowed := k10
  have F_law_sign := fun_mk (st := s_law_sign) l11 c11 k11
  have b_law_sign := F_law_sign.binds (ps := P_law_sign) fun _ _ _ _ _ _ us hl => match us, hl with | [_], _ => rfl
  have g_law_sign := PySem.W.mg_of X G a11
  have kp_law_sign := k11
  have F_law_bad_name := fun_mk (st := s_law_bad_name) l12 c12 k12
  have b_law_bad_name := F_law_bad_name.binds (ps := P_law_bad_name) fun _ _ _ _ _ _ us hl => match us, hl with | [_, _], _ => rfl
  have g_law_bad_name := PySem.W.mg_of X G a12
  have kp_law_bad_name := k12
  have F_law_other_name := fun_mk (st := s_law_other_name) l13 c13 k13
  have b_law_other_name := F_law_other_name.binds (ps := P_law_other_name) fun _ _ _ _ _ _ us hl => match us, hl with | [_, _], _ => rfl
  have g_law_other_name := PySem.W.mg_of X G a13
  have kp_law_other_name := k13
  have F_law_halts := fun_mk (st := s_law_halts) l14 c14 k14
  have b_law_halts := F_law_halts.binds (ps := P_law_halts) fun _ _ _ _ _ _ us hl => match us, hl with | [_], _ => rfl
  have g_law_halts := PySem.W.mg_of X G a14
  have kp_law_halts := k14
  have F_law_first_twice := fun_mk (st := s_law_first_twice) l15 c15 k15
  have b_law_first_twice := F_law_first_twice.binds (ps := P_law_first_twice) fun _ _ _ _ _ _ us hl => match us, hl with | [_], _ => rfl
  have g_law_first_twice := PySem.W.mg_of X G a15
  have kp_law_first_twice := k15
  have F_law_spoilt := fun_mk (st := s_law_spoilt) l16 c16 k16
  have b_law_spoilt := F_law_spoilt.binds (ps := P_law_spoilt) fun _ _ _ _ _ _ us hl => match us, hl with | [_, _, _, _], _ => rfl
  have g_law_spoilt := PySem.W.mg_of X G a16
  have kp_law_spoilt := k16
  have F_law_refused := fun_mk (st := s_law_refused) l17 c17 k17
  have b_law_refused := F_law_refused.binds (ps := P_law_refused) fun _ _ _ _ _ _ us hl => match us, hl with | [_, _, _, _], _ => rfl
  have g_law_refused := PySem.W.mg_of X G a17
  have kp_law_refused := k17
  have F_law_tried := fun_mk (st := s_law_tried) l18 c18 k18
  have b_law_tried := F_law_tried.binds (ps := P_law_tried) fun _ _ _ _ _ _ us hl => match us, hl with | [_, _, _], _ => rfl
  have g_law_tried := PySem.W.mg_of X G a18
  have kp_law_tried := k18
  have F_law_keeps := fun_mk (st := s_law_keeps) l19 c19 k19
  have b_law_keeps := F_law_keeps.binds (ps := P_law_keeps) fun _ _ _ _ _ _ us hl => match us, hl with | [_, _, _, _, _, _], _ => rfl
  have g_law_keeps := PySem.W.mg_of X G a19
  have kp_law_keeps := k19
  have eb : EBase K mg "BarclipsError" C_BarclipsError := ⟨PySem.W.mg_of X G g_BarclipsError, ⟨rd_BarclipsError, sg_BarclipsError⟩, vi_BarclipsError⟩
  have mg_BarclipsError := PySem.W.mg_of X G g_BarclipsError
  have mg_BadName := PySem.W.mg_of X G g_BadName
  have oc_BadName : OexC K C_BadName := ⟨⟨_, _, _, _, _, _, _, _, _, _, _, _, _, _, _, lk_BadName, by first | rfl | decide⟩, sa_BadName, xb_BadName, ty_BadName, kp_BadName⟩
  have ee_BadName : ETxt K mg "BadName" C_BadName := ⟨mg_BadName, oc_BadName, ⟨⟨ga_BadName, gg_BadName, xb_BadName, hd_BadName⟩, ic_BadName, ac_BadName, e_hn, e_tk, mo_BadName⟩, exm_own xb_BadName ic_BadName ty_BadName ss_BadName⟩
  have F_BadName___init__ := fun_mk (st := s_BadName___init__) l21 c21 k21
  have b_BadName___init__ := F_BadName___init__.binds (ps := P_BadName___init__) fun _ _ _ _ _ _ us hl => match us, hl with | [_, _], _ => rfl
  have gi_BadName___init__ := a21
  have ti_BadName___init__ := t21
  have mg_BadNumber := PySem.W.mg_of X G g_BadNumber
  have oc_BadNumber : OexC K C_BadNumber := ⟨⟨_, _, _, _, _, _, _, _, _, _, _, _, _, _, _, lk_BadNumber, by first | rfl | decide⟩, sa_BadNumber, xb_BadNumber, ty_BadNumber, kp_BadNumber⟩
  have ee_BadNumber : ETxt K mg "BadNumber" C_BadNumber := ⟨mg_BadNumber, oc_BadNumber, ⟨⟨ga_BadNumber, gg_BadNumber, xb_BadNumber, hd_BadNumber⟩, ic_BadNumber, ac_BadNumber, e_hn, e_tk, mo_BadNumber⟩, exm_own xb_BadNumber ic_BadNumber ty_BadNumber ss_BadNumber⟩
  have F_BadNumber___init__ := fun_mk (st := s_BadNumber___init__) l23 c23 k23
  have b_BadNumber___init__ := F_BadNumber___init__.binds (ps := P_BadNumber___init__) fun _ _ _ _ _ _ us hl => match us, hl with | [_, _], _ => rfl
  have gi_BadNumber___init__ := a23
  have ti_BadNumber___init__ := t23
  have mg_Twice := PySem.W.mg_of X G g_Twice
  have oc_Twice : OexC K C_Twice := ⟨⟨_, _, _, _, _, _, _, _, _, _, _, _, _, _, _, lk_Twice, by first | rfl | decide⟩, sa_Twice, xb_Twice, ty_Twice, kp_Twice⟩
  have ee_Twice : ETxt K mg "Twice" C_Twice := ⟨mg_Twice, oc_Twice, ⟨⟨ga_Twice, gg_Twice, xb_Twice, hd_Twice⟩, ic_Twice, ac_Twice, e_hn, e_tk, mo_Twice⟩, exm_own xb_Twice ic_Twice ty_Twice ss_Twice⟩
  have F_Twice___init__ := fun_mk (st := s_Twice___init__) l25 c25 k25
  have b_Twice___init__ := F_Twice___init__.binds (ps := P_Twice___init__) fun _ _ _ _ _ _ us hl => match us, hl with | [_, _], _ => rfl
  have gi_Twice___init__ := a25
  have ti_Twice___init__ := t25
  have ki_BadName_BarclipsError := kit_xC ic_BarclipsError ty_BarclipsError sb_BadName_BarclipsError (fun _ => rfl)
  have ki_BadName_ValueError := kit_xT (C := C_BadName) sb_BadName_ValueError
  have ki_BadName_BadNumber := kit_xC ic_BadNumber ty_BadNumber sb_BadName_BadNumber (fun e => by rw [e, ss_BadNumber] at sb_BadName_BadNumber; cases sb_BadName_BadNumber)
  have ki_BadName_Twice := kit_xC ic_Twice ty_Twice sb_BadName_Twice (fun e => by rw [e, ss_Twice] at sb_BadName_Twice; cases sb_BadName_Twice)
  have ki_BadNumber_BarclipsError := kit_xC ic_BarclipsError ty_BarclipsError sb_BadNumber_BarclipsError (fun _ => rfl)
  have ki_BadNumber_ValueError := kit_xT (C := C_BadNumber) sb_BadNumber_ValueError
  have ki_BadNumber_BadName := kit_xC ic_BadName ty_BadName sb_BadNumber_BadName (fun e => by rw [e, ss_BadName] at sb_BadNumber_BadName; cases sb_BadNumber_BadName)
  have ki_BadNumber_Twice := kit_xC ic_Twice ty_Twice sb_BadNumber_Twice (fun e => by rw [e, ss_Twice] at sb_BadNumber_Twice; cases sb_BadNumber_Twice)
  have ki_Twice_BarclipsError := kit_xC ic_BarclipsError ty_BarclipsError sb_Twice_BarclipsError (fun _ => rfl)
  have ki_Twice_ValueError := kit_xT (C := C_Twice) sb_Twice_ValueError
  have ki_Twice_BadName := kit_xC ic_BadName ty_BadName sb_Twice_BadName (fun e => by rw [e, ss_BadName] at sb_Twice_BadName; cases sb_Twice_BadName)
  have ki_Twice_BadNumber := kit_xC ic_BadNumber ty_BadNumber sb_Twice_BadNumber (fun e => by rw [e, ss_BadNumber] at sb_Twice_BadNumber; cases sb_Twice_BadNumber)
  have F_is_name := fun_mk (st := s_is_name) l26 c26 k26
  have b_is_name := F_is_name.binds (ps := P_is_name) fun _ _ _ _ _ _ us hl => match us, hl with | [_], _ => rfl
  have g_is_name := PySem.W.mg_of X G a26
  have kp_is_name := k26
  have F_check_guards := fun_mk (st := s_check_guards) l27 c27 k27
  have b_check_guards := F_check_guards.binds (ps := P_check_guards) fun _ _ _ _ _ _ us hl => match us, hl with | [_, _], _ => rfl
  have g_check_guards := PySem.W.mg_of X G a27
  have kp_check_guards := k27
  have F_first_twice := fun_mk (st := s_first_twice) l28 c28 k28
  have b_first_twice := F_first_twice.binds (ps := P_first_twice) fun _ _ _ _ _ _ us hl => match us, hl with | [_], _ => rfl
  have g_first_twice := PySem.W.mg_of X G a28
  have kp_first_twice := k28
  have g_str_LETTERS := PySem.W.mg_of X G gs_LETTERS
  have g_str_CHARACTERS := PySem.W.mg_of X G gs_CHARACTERS
  have g_int_MOST_CHARACTERS := PySem.W.mg_of X G gi_MOST_CHARACTERS
  have cl_Clip : Cls K C_Clip := ⟨pg_Clip, hd_Clip, po_Clip, sa_Clip⟩
  have mg_Clip := PySem.W.mg_of X G g_Clip
  have cl_Lead : Cls K C_Lead := ⟨pg_Lead, hd_Lead, po_Lead, sa_Lead⟩
  have mg_Lead := PySem.W.mg_of X G g_Lead
  have cl_Sound : Cls K C_Sound := ⟨pg_Sound, hd_Sound, po_Sound, sa_Sound⟩
  have mg_Sound := PySem.W.mg_of X G g_Sound
  have F_Sound___init__ := fun_mk (st := s_Sound___init__) l32 c32 k32
  have b_Sound___init__ := F_Sound___init__.binds (ps := P_Sound___init__) fun _ _ _ _ _ _ us hl => match us, hl with | [_, _, _], _ => rfl
  have g_Sound___init__ := (⟨a32, i32, k32⟩ : Meth K C_Sound "__init__" f_Sound___init__)
  have mk_Sound___init__ : Mk K C_Sound f_Sound___init__ := ⟨mk_Sound, a32, i32, kp_Sound⟩
  have kp_Sound___init__ := k32
  have ke_Clip___init__ : ∃ (o : Obj) (its : Array Value) (n : Nat), K.lookup et_Clip___init__ = some o ∧ o.cls = .type "tuple" ∧ o.data = .seq its n ∧ its.size = 0 := ⟨_, _, _, o33, rfl, rfl, rfl⟩
  have kw_Clip___init__ : ∀ q ∈ ([("rounds", .int 1), ("guards", .ref et_Clip___init__)] : List (Str × V)), ∃ u, PySem.W.nsIn K kd33 q.1 = some (some u) ∧ RelV q.2 u := fun q hq => by
    simp only [List.mem_cons, List.not_mem_nil, or_false] at hq
    rcases hq with rfl | rfl <;> first | exact ⟨_, p33, ⟨_, rfl⟩⟩ | exact ⟨_, n33, rfl⟩
  have F_Clip___init__ : FunC K "__init__" "Clip.__init__" s_Clip___init__ [("rounds", .int 1), ("guards", .ref et_Clip___init__)] f_Clip___init__ cda_Clip___init__ cc_Clip___init__ _ := ⟨⟨_, _, _, _, _, _, _, _, rfl, l33, c33, Or.inr ⟨_, rfl, kw_Clip___init__⟩⟩, ⟨_, _, _, _, e33⟩, k33⟩
  have gm_Clip___init__ : Meth K C_Clip "__init__" f_Clip___init__ := ⟨a33, i33, k33⟩
  have mk_Clip___init__ : Mk K C_Clip f_Clip___init__ := ⟨mk_Clip, a33, i33, kp_Clip⟩
  have ke_Lead___init__ : ∃ (o : Obj) (its : Array Value) (n : Nat), K.lookup et_Lead___init__ = some o ∧ o.cls = .type "tuple" ∧ o.data = .seq its n ∧ its.size = 0 := ⟨_, _, _, o34, rfl, rfl, rfl⟩
  have kw_Lead___init__ : ∀ q ∈ ([("stops", .ref et_Lead___init__)] : List (Str × V)), ∃ u, PySem.W.nsIn K kd34 q.1 = some (some u) ∧ RelV q.2 u := fun q hq => by
    simp only [List.mem_cons, List.not_mem_nil, or_false] at hq
    rcases hq with rfl <;> first | exact ⟨_, n34, rfl⟩
  have F_Lead___init__ : FunC K "__init__" "Lead.__init__" s_Lead___init__ [("stops", .ref et_Lead___init__)] f_Lead___init__ cda_Lead___init__ cc_Lead___init__ _ := ⟨⟨_, _, _, _, _, _, _, _, rfl, l34, c34, Or.inr ⟨_, rfl, kw_Lead___init__⟩⟩, ⟨_, _, _, _, e34⟩, k34⟩
  have gm_Lead___init__ : Meth K C_Lead "__init__" f_Lead___init__ := ⟨a34, i34, k34⟩
  have mk_Lead___init__ : Mk K C_Lead f_Lead___init__ := ⟨mk_Lead, a34, i34, kp_Lead⟩
  have S_Clip___init_____init__ : Sup l.prog K mg f_Clip___init__ cda_Clip___init__ cc_Clip___init__ C_Clip "self" "__init__" f_Sound___init__ := ⟨⟨_, _, _, _, _, l33, rfl, rfl⟩, ⟨_, _, _, _, _, _, d33, f33, g33⟩, h33, ⟨_, _, _, _, _, e33, j33, m33, u35⟩, b_super, tpa, v35, w35, by decide⟩
  have S_Lead___init_____init__ : Sup l.prog K mg f_Lead___init__ cda_Lead___init__ cc_Lead___init__ C_Lead "self" "__init__" f_Sound___init__ := ⟨⟨_, _, _, _, _, l34, rfl, rfl⟩, ⟨_, _, _, _, _, _, d34, f34, g34⟩, h34, ⟨_, _, _, _, _, e34, j34, m34, u36⟩, b_super, tpa, v36, w36, by decide⟩
  have cr_Clip : ClX.CRead K C_Clip (.type "type") := ⟨rd_Clip, sg_Clip⟩
  have cr_Lead : ClX.CRead K C_Lead (.type "type") := ⟨rd_Lead, sg_Lead⟩
  have ki_Clip_Sound := kit_xC ic_Sound ty_Sound sb_Clip_Sound (fun _ => rfl)
  have ki_Lead_Sound := kit_xC ic_Sound ty_Sound sb_Lead_Sound (fun _ => rfl)
  cases hfa.symm.trans g_law
  have T : Txt mg := ⟨b_len, b_int, b_abs, b_str, b_range, b_isinstance, b_bool, b_list, b_tuple, b_sum, b_min, b_max, b_any, b_all, b_sorted, b_enumerate⟩
  have GT : GTxt K C_Grid := ⟨cl_Grid, no_Grid_step, no_Grid_offset⟩
  refine ⟨PySem.W.fnOf "law" "law" (defArgs s_law) (defBody s_law) (defScope s_law) .none kV1 dc1 pm1 an1 cd1 ct1, fun s v => .of_eq rfl, fun base _ _ => ?_⟩
  have fDraw : Fn l.prog w K mg base "_law_draw" P_law_draw [] 1 spDraw := ⟨_, _, _, g_law_draw, kp_law_draw, b_law_draw, .nil, ok_draw F_law_draw T⟩
  have fBox : Fn l.prog w K mg base "_law_box" P_law_box [] 1 (spBox K) := ⟨_, _, _, g_law_box, kp_law_box, b_law_box, .nil, ok_box F_law_box T⟩
  have mk2 : Made l.prog w K mg base "Grid" C_Grid P_Grid___init__ [] 1 (spInit C_Grid) := ⟨_, _, _, mg_Grid, mk_Grid___init__, b_Grid___init___2, dr_Grid___init___2, ok_init F_Grid___init__ GT⟩
  have mk1 : Made l.prog w K mg base "Grid" C_Grid P_Grid___init__ [.int 0] 1 (spInit C_Grid) := ⟨_, _, _, mg_Grid, mk_Grid___init__, b_Grid___init___1, dr_Grid___init___1, ok_init F_Grid___init__ GT⟩

  have fInt : Fn l.prog w K mg base "_law_int" P_law_int [] 1 spInt := ⟨_, _, _, g_law_int, kp_law_int, b_law_int, .nil, ok_int F_law_int T⟩
  have fSame := fn_same (P := l.prog) (w := w) (base := base) F_law_same T g_law_same b_law_same fInt
  have fName : Fn l.prog w K mg base "_law_name" P_law_name [] 2 spName := ⟨_, _, _, g_law_name, kp_law_name, b_law_name, .nil, ok_name F_law_name T (drawA fDraw)⟩
  have fSigns : Fn l.prog w K mg base "_law_signs" P_law_signs [] 1 spSigns := ⟨_, _, _, g_law_signs, kp_law_signs, b_law_signs, .nil, ok_signs F_law_signs⟩
  have fAny : Fn l.prog w K mg base "_law_any_name" P_law_any_name [] 2 spAnyName := ⟨_, _, _, g_law_any_name, kp_law_any_name, b_law_any_name, .nil, ok_anyName F_law_any_name T (drawA fDraw)⟩
  have fAllowed : Fn l.prog w K mg base "_law_allowed" P_law_allowed [] 1 spAllowed := ⟨_, _, _, g_law_allowed, kp_law_allowed, b_law_allowed, .nil, ok_allowed F_law_allowed T⟩
  have fSign : Fn l.prog w K mg base "_law_sign" P_law_sign [] 2 spSign := ⟨_, _, _, g_law_sign, kp_law_sign, b_law_sign, .nil, ok_sign F_law_sign T (drawA fDraw) fSigns⟩
  have fBad : Fn l.prog w K mg base "_law_bad_name" P_law_bad_name [] 2 spBadName := ⟨_, _, _, g_law_bad_name, kp_law_bad_name, b_law_bad_name, .nil, ok_badName F_law_bad_name T (drawA fDraw)⟩
  have fOther : Fn l.prog w K mg base "_law_other_name" P_law_other_name [] 3 spOther := ⟨_, _, _, g_law_other_name, kp_law_other_name, b_law_other_name, .nil, ok_other F_law_other_name T (drawA fDraw) fSigns fAny fSign⟩
  have fHalts : Fn l.prog w K mg base "_law_halts" P_law_halts [] 3 spHalts := ⟨_, _, _, g_law_halts, kp_law_halts, b_law_halts, .nil, ok_halts F_law_halts T (drawA fDraw) fName⟩
  have fFirst : Fn l.prog w K mg base "_law_first_twice" P_law_first_twice [] 1 spFirst := ⟨_, _, _, g_law_first_twice, kp_law_first_twice, b_law_first_twice, .nil, ok_first F_law_first_twice T⟩
  have fSpoilt : Fn l.prog w K mg base "_law_spoilt" P_law_spoilt [] 3 spSpoilt := ⟨_, _, _, g_law_spoilt, kp_law_spoilt, b_law_spoilt, .nil, ok_spoilt F_law_spoilt T (drawA fDraw) fBad fName fFirst⟩
  have GC : CTxt K C_Clip := ⟨cl_Clip, no_Clip_name, no_Clip_grid, no_Clip_length, no_Clip_rounds, no_Clip_guards⟩
  have GL : LTxt K C_Lead := ⟨cl_Lead, no_Lead_name, no_Lead_grid, no_Lead_length, no_Lead_stops⟩
  have eN : Err l.prog w K mg base "BadName" C_BadName P_BadName___init__ 1 (spErr1 C_BadName "name" (fun v => ∃ z : Str, v = .str z ∧ z.length ≤ 100 ∧ ∀ c ∈ z.cps.toList, c < 16 ^ 8)) := ⟨_, _, mg_BadName, oc_BadName, gi_BadName___init__, ti_BadName___init__, b_BadName___init__, ok_eName F_BadName___init__ eb oc_BadName no_BadName_name⟩
  have eV : Err l.prog w K mg base "BadNumber" C_BadNumber P_BadNumber___init__ 1 (spErr1 C_BadNumber "value" (fun _ => True)) := ⟨_, _, mg_BadNumber, oc_BadNumber, gi_BadNumber___init__, ti_BadNumber___init__, b_BadNumber___init__, ok_eBadNumber F_BadNumber___init__ eb oc_BadNumber no_BadNumber_value⟩
  have eT : Err l.prog w K mg base "Twice" C_Twice P_Twice___init__ 1 (spErr1 C_Twice "name" okText) := ⟨_, _, mg_Twice, oc_Twice, gi_Twice___init__, ti_Twice___init__, b_Twice___init__, ok_eTwice F_Twice___init__ eb oc_Twice no_Twice_name⟩
  have fIsName : Fn l.prog w K mg base "is_name" P_is_name [] 1 spIsName := ⟨_, _, _, g_is_name, kp_is_name, b_is_name, .nil, ok_isName F_is_name T g_int_MOST_CHARACTERS g_str_LETTERS g_str_CHARACTERS⟩
  have fGuards : FnX l.prog w K mg base "check_guards" P_check_guards [] 3 (spGuardsX K C_BadNumber) := ⟨_, _, _, g_check_guards, kp_check_guards, b_check_guards, .nil, ok_guardsX F_check_guards T eV⟩
  have fTwice : Fn l.prog w K mg base "first_twice" P_first_twice [] 1 (spTwice K) := ⟨_, _, _, g_first_twice, kp_first_twice, b_first_twice, .nil, ok_twice F_first_twice b_set⟩
  have okS := ok_soundX (P := l.prog) (w := w) (mg := mg) (base := base) F_Sound___init__ fIsName eN
  have su : SupFn l.prog w K mg base (L2.CX l.prog w) f_Clip___init__ cda_Clip___init__ cc_Clip___init__ C_Clip "self" "__init__" P_Sound___init__ [] 3 (spSoundX K C_BadName) := ⟨_, _, _, S_Clip___init_____init__, b_Sound___init__, .nil, okS⟩
  have suL : SupFn l.prog w K mg base (L2.CX l.prog w) f_Lead___init__ cda_Lead___init__ cc_Lead___init__ C_Lead "self" "__init__" P_Sound___init__ [] 3 (spSoundX K C_BadName) := ⟨_, _, _, S_Lead___init_____init__, b_Sound___init__, .nil, okS⟩
  have okC := ok_clipX (P := l.prog) (w := w) (mg := mg) (base := base) F_Clip___init__ T GC mg_Clip cr_Clip ⟨cv_Clip_ROUNDS, ⟨_, rfl⟩⟩ su fGuards eV
  have okL := ok_leadX (P := l.prog) (w := w) (mg := mg) (base := base) F_Lead___init__ T GL suL fTwice eV eT
  have gi : GIsi K mg C_Grid := ⟨mg_Grid, cl_Grid, i_ha, e_hn, e_tk, i_hm⟩
  have ci : CIsi K C_Clip C_Sound := ⟨cl_Clip, c_ha, e_hn, e_tk, c_hm, ki_Clip_Sound⟩
  have li : CIsi K C_Lead C_Sound := ⟨cl_Lead, l_ha, e_hn, e_tk, l_hm, ki_Lead_Sound⟩
  have si : CIsi K C_Sound C_Sound := ⟨cl_Sound, s_ha, e_hn, e_tk, s_hm, by
    unfold PySem.W.kitOne
    rw [if_pos (beq_self_eq_true _)]⟩
  obtain ⟨_, kA⟩ := kb_A F_Clip___init__
  obtain ⟨_, kL⟩ := kb_L F_Lead___init__
  obtain ⟨_, kL2⟩ := kb_L2 F_Lead___init__
  have mA : MadeK l.prog w K mg base (L2.CX l.prog w) "Clip" C_Clip P_Clip___init__ ["grid", "length"] 1 (gA et_Clip___init__) 5 (spClipX K C_Clip C_BadName C_BadNumber) := ⟨_, _, _, mg_Clip, mk_Clip___init__, kA, okC⟩
  have mL : MadeK l.prog w K mg base (L2.CX l.prog w) "Lead" C_Lead P_Lead___init__ ["grid", "length", "stops"] 1 gD 5 (spLeadX K C_Lead C_BadName C_BadNumber C_Twice) := ⟨_, _, _, mg_Lead, mk_Lead___init__, kL, okL⟩
  have mL2 : MadeK l.prog w K mg base (L2.CX l.prog w) "Lead" C_Lead P_Lead___init__ ["grid", "length"] 1 (gC et_Lead___init__) 5 (spLeadX K C_Lead C_BadName C_BadNumber C_Twice) := ⟨_, _, _, mg_Lead, mk_Lead___init__, kL2, okL⟩
  have mS : MadeX l.prog w K mg base "Sound" C_Sound P_Sound___init__ [] 3 (spSoundX K C_BadName) := ⟨_, _, _, mg_Sound, mk_Sound___init__, b_Sound___init__, .nil, okS⟩
  have fKeeps : Fn l.prog w K mg base "_law_keeps" P_law_keeps [] 5 (spKeeps K C_Grid C_Lead) := ⟨_, _, _, g_law_keeps, kp_law_keeps, b_law_keeps, .nil, ok_keeps F_law_keeps T GT GL gi li mg_Lead mg_Sound mg_Grid (fSame 3)⟩
  have fRefused : Fn l.prog w K mg base "_law_refused" P_law_refused [] 7 spRefused := ⟨_, _, _, g_law_refused, kp_law_refused, b_law_refused, .nil, ok_refused F_law_refused T mL ee_BadName eb ee_BadNumber ee_Twice no_BadName_name no_BadNumber_value no_Twice_name b_ValueError ⟨ki_BadName_BarclipsError, ki_BadName_ValueError, ki_BadName_BadNumber, ki_BadName_Twice⟩ ⟨ki_BadNumber_BarclipsError, ki_BadNumber_ValueError, ki_BadNumber_BadName, ki_BadNumber_Twice⟩ ⟨ki_Twice_BarclipsError, ki_Twice_ValueError, ki_Twice_BadName, ki_Twice_BadNumber⟩ (exm_own xb_BadName ic_BadName ty_BadName sb_BadNumber_BadName) (exm_own xb_BadName ic_BadName ty_BadName sb_Twice_BadName) (exm_own xb_BadNumber ic_BadNumber ty_BadNumber sb_Twice_BadNumber)⟩
  have fTried : Fn l.prog w K mg base "_law_tried" P_law_tried [] 7 (spTried C_Grid) := ⟨_, _, _, g_law_tried, kp_law_tried, b_law_tried, .nil, ok_tried F_law_tried T GT gi mg_Sound mg_Grid ke_Clip___init__ ke_Lead___init__ ⟨si, no_Sound_name, no_Sound_grid⟩ ⟨ci, no_Clip_name, no_Clip_grid⟩ ⟨li, no_Lead_name, no_Lead_grid⟩ mS mA mL2 ee_BadName eb ee_BadNumber no_BadName_name b_ValueError ki_BadName_BarclipsError ki_BadName_ValueError ki_BadName_BadNumber⟩
  exact ok_law F_law T mg_Lead mg_Clip cr_Lead ⟨cv_Lead_PATIENCE, ⟨_, rfl⟩⟩ cr_Clip ⟨cv_Clip_ROUNDS, ⟨_, rfl⟩⟩ ke_Lead___init__ fBox (drawA fDraw) fAny fHalts mk2 (MadeK0 mL2) (MadeK0 mL) fKeeps fSpoilt fRefused (fSame 3) fOther fAllowed fTried
theorem walk {l : PySem.W.OpenLaw} {q : Program} {loose : List Str} {XP : (Str → Option Value) → Heap → Prop} {YP : World → Heap → Prop} {d : DefRec} {K : Params → PySem.W.Frag} (hn : l.most = some 63) (hdf : d.params.defaults = [])
    (hY : ∀ (w : World) (h : Heap), YP w h → (K w.params).In h)
    (F : ∀ (w : World) (mg : Str → Option Value) (fa : Addr) (h : Heap), (K w.params).In h → h.Ns mainGlobals mg → mg d.name = some (.ref fa) →
      ∃ fd : FuncData, (∀ (s : Shared) (u : Value), BindsTo s fd ⟨[u], []⟩ [("_law_script", u)]) ∧ ∀ base : Heap, (K w.params).In base → base.Ns mainGlobals mg → FnOk l.prog w (K w.params) mg base CX0 lawLevel fa fd ["_law_script"] (spLaw (K w.params))) :
    PySem.W.WalkO q loose XP YP l.row.toRowW d [] (fun f vs => PySem.call f vs) :=
  L2.walk_of (n := 63) (k := lawLevel) (x := "_law_script") (CX := fun _ => CX0) (sp := fun w => spLaw (K w.params)) hn (by decide) hdf ⟨rfl, by decide, by decide⟩ hY F (fun _ _ a ns hl _ hS => ⟨a, ns, rfl, hS, hl, fun _ => rfl⟩) fun _ _ _ _ _ z => z
end Lw

open PySem PySem.W PyProof.Rows in
set_option maxRecDepth 100000 in
set_option maxHeartbeats 0 in
theorem PySem.Challenge.cw_barclips_k21_lead_parts_holds : PySem.Challenge.rw_barclips_k21_lead_parts.Holds := by
  w_on; o_law; k_head; (case hw => w_witness2)
  k_fill
  refine Lw.walk (l := PySem.Challenge.rw_barclips_k21_lead_parts) rfl rfl (fun w h Y => PySem.W.kIn_of Y) ?F
  case F =>
    intro w mg fa h KX G hmg
    refine' Lw.all_mk KX G hmg ?a1 ?l1 ?c1 ?k1 ?a2 ?l2 ?c2 ?k2 ?a3 ?l3 ?c3 ?k3 ?g_Grid ?pg_Grid ?hd_Grid ?po_Grid ?sa_Grid ?mk_Grid ?kp_Grid ?a4 ?i4 ?l4 ?c4 ?k4 ?t4 ?no_Grid_step ?no_Grid_offset ?z_len ?z_int ?z_abs ?z_str ?z_range ?z_isinstance ?z_bool ?z_list ?z_tuple ?z_sum ?z_min ?z_max ?z_any ?z_all ?z_sorted ?z_enumerate ?z_ValueError ?z_super ?z_set ?a5 ?l5 ?c5 ?k5 ?a6 ?l6 ?c6 ?k6 ?a7 ?l7 ?c7 ?k7 ?a8 ?l8 ?c8 ?k8 ?a9 ?l9 ?c9 ?k9 ?a10 ?l10 ?c10 ?k10 ?a11 ?l11 ?c11 ?k11 ?a12 ?l12 ?c12 ?k12 ?a13 ?l13 ?c13 ?k13 ?a14 ?l14 ?c14 ?k14 ?a15 ?l15 ?c15 ?k15 ?a16 ?l16 ?c16 ?k16 ?a17 ?l17 ?c17 ?k17 ?a18 ?l18 ?c18 ?k18 ?a19 ?l19 ?c19 ?k19 ?g_BarclipsError ?rd_BarclipsError ?sg_BarclipsError ?vi_BarclipsError ?ic_BarclipsError ?ty_BarclipsError ?e_hn ?e_tk ?i_ha ?i_hm ?g_BadName ?lk_BadName ?sa_BadName ?xb_BadName ?ty_BadName ?kp_BadName ?ga_BadName ?gg_BadName ?hd_BadName ?ic_BadName ?ac_BadName ?mo_BadName ?ss_BadName ?a21 ?t21 ?l21 ?c21 ?k21 ?no_BadName_name ?g_BadNumber ?lk_BadNumber ?sa_BadNumber ?xb_BadNumber ?ty_BadNumber ?kp_BadNumber ?ga_BadNumber ?gg_BadNumber ?hd_BadNumber ?ic_BadNumber ?ac_BadNumber ?mo_BadNumber ?ss_BadNumber ?a23 ?t23 ?l23 ?c23 ?k23 ?no_BadNumber_value ?g_Twice ?lk_Twice ?sa_Twice ?xb_Twice ?ty_Twice ?kp_Twice ?ga_Twice ?gg_Twice ?hd_Twice ?ic_Twice ?ac_Twice ?mo_Twice ?ss_Twice ?a25 ?t25 ?l25 ?c25 ?k25 ?no_Twice_name ?sb_BadName_BarclipsError ?sb_BadName_ValueError ?sb_BadName_BadNumber ?sb_BadName_Twice ?sb_BadNumber_BarclipsError ?sb_BadNumber_ValueError ?sb_BadNumber_BadName ?sb_BadNumber_Twice ?sb_Twice_BarclipsError ?sb_Twice_ValueError ?sb_Twice_BadName ?sb_Twice_BadNumber ?a26 ?l26 ?c26 ?k26 ?a27 ?l27 ?c27 ?k27 ?a28 ?l28 ?c28 ?k28 ?gs_LETTERS ?gs_CHARACTERS ?gi_MOST_CHARACTERS ?g_Clip ?pg_Clip ?hd_Clip ?po_Clip ?sa_Clip ?mk_Clip ?kp_Clip ?g_Lead ?pg_Lead ?hd_Lead ?po_Lead ?sa_Lead ?mk_Lead ?kp_Lead ?g_Sound ?pg_Sound ?hd_Sound ?po_Sound ?sa_Sound ?mk_Sound ?kp_Sound ?a32 ?i32 ?l32 ?c32 ?k32 ?a33 ?i33 ?l33 ?c33 ?k33 ?e33 ?d33 ?f33 ?g33 ?h33 ?j33 ?m33 ?p33 ?n33 ?o33 ?a34 ?i34 ?l34 ?c34 ?k34 ?e34 ?d34 ?f34 ?g34 ?h34 ?j34 ?m34 ?n34 ?o34 ?tpa ?u35 ?v35 ?w35 ?u36 ?v36 ?w36 ?rd_Clip ?sg_Clip ?cv_Clip_ROUNDS ?rd_Lead ?sg_Lead ?cv_Lead_PATIENCE ?no_Sound_name ?no_Sound_grid ?no_Clip_name ?no_Clip_grid ?no_Clip_length ?no_Clip_rounds ?no_Clip_guards ?no_Lead_name ?no_Lead_grid ?no_Lead_length ?no_Lead_stops ?c_ha ?c_hm ?l_ha ?l_hm ?s_ha ?s_hm ?ic_Sound ?ty_Sound ?sb_Clip_Sound ?sb_Lead_Sound
    (case a1 => k_is)
    (case l1 => k_is)
    (case c1 => k_is)
    (case k1 => k_is)
    (case a2 => k_is)
    (case l2 => k_is)
    (case c2 => k_is)
    (case k2 => k_is)
    (case a3 => k_is)
    (case l3 => k_is)
    (case c3 => k_is)
    (case k3 => k_is)
    (case g_Grid => k_is)
    (case pg_Grid => k_is)
    (case hd_Grid => k_is)
    (case po_Grid => k_is)
    (case sa_Grid => k_is)
    (case mk_Grid => k_is)
    (case kp_Grid => k_is)
    (case a4 => k_is)
    (case i4 => k_is)
    (case l4 => k_is)
    (case c4 => k_is)
    (case k4 => k_is)
    (case t4 => k_is)
    (case no_Grid_step => k_is)
    (case no_Grid_offset => k_is)
    (case z_len => k_is)
    (case z_int => k_is)
    (case z_abs => k_is)
    (case z_str => k_is)
    (case z_range => k_is)
    (case z_isinstance => k_is)
    (case z_bool => k_is)
    (case z_list => k_is)
    (case z_tuple => k_is)
    (case z_sum => k_is)
    (case z_min => k_is)
    (case z_max => k_is)
    (case z_any => k_is)
    (case z_all => k_is)
    (case z_sorted => k_is)
    (case z_enumerate => k_is)
    (case z_ValueError => k_is)
    (case z_super => k_is)
    (case z_set => k_is)
    (case a5 => k_is)
    (case l5 => k_is)
    (case c5 => k_is)
    (case k5 => k_is)
    (case a6 => k_is)
    (case l6 => k_is)
    (case c6 => k_is)
    (case k6 => k_is)
    (case a7 => k_is)
    (case l7 => k_is)
    (case c7 => k_is)
    (case k7 => k_is)
    (case a8 => k_is)
    (case l8 => k_is)
    (case c8 => k_is)
    (case k8 => k_is)
    (case a9 => k_is)
    (case l9 => k_is)
    (case c9 => k_is)
    (case k9 => k_is)
    (case a10 => k_is)
    (case l10 => k_is)
    (case c10 => k_is)
    (case k10 => k_is)
    (case a11 => k_is)
    (case l11 => k_is)
    (case c11 => k_is)
    (case k11 => k_is)
    (case a12 => k_is)
    (case l12 => k_is)
    (case c12 => k_is)
    (case k12 => k_is)
    (case a13 => k_is)
    (case l13 => k_is)
    (case c13 => k_is)
    (case k13 => k_is)
    (case a14 => k_is)
    (case l14 => k_is)
    (case c14 => k_is)
    (case k14 => k_is)
    (case a15 => k_is)
    (case l15 => k_is)
    (case c15 => k_is)
    (case k15 => k_is)
    (case a16 => k_is)
    (case l16 => k_is)
    (case c16 => k_is)
    (case k16 => k_is)
    (case a17 => k_is)
    (case l17 => k_is)
    (case c17 => k_is)
    (case k17 => k_is)
    (case a18 => k_is)
    (case l18 => k_is)
    (case c18 => k_is)
    (case k18 => k_is)
    (case a19 => k_is)
    (case l19 => k_is)
    (case c19 => k_is)
    (case k19 => k_is)
    (case g_BarclipsError => k_is)
    (case rd_BarclipsError => k_is)
    (case sg_BarclipsError => k_is)
    (case vi_BarclipsError => k_is)
    (case ic_BarclipsError => k_is)
    (case ty_BarclipsError => k_is)
    (case e_hn => k_is)
    (case e_tk => k_is)
    (case i_ha => k_is)
    (case i_hm => k_is)
    (case g_BadName => k_is)
    (case lk_BadName => k_is)
    (case sa_BadName => k_is)
    (case xb_BadName => k_is)
    (case ty_BadName => k_is)
    (case kp_BadName => k_is)
    (case ga_BadName => k_is)
    (case gg_BadName => k_is)
    (case hd_BadName => k_is)
    (case ic_BadName => k_is)
    (case ac_BadName => k_is)
    (case mo_BadName => k_is)
    (case ss_BadName => k_is)
    (case a21 => k_is)
    (case t21 => k_is)
    (case l21 => k_is)
    (case c21 => k_is)
    (case k21 => k_is)
    (case no_BadName_name => k_is)
    (case g_BadNumber => k_is)
    (case lk_BadNumber => k_is)
    (case sa_BadNumber => k_is)
    (case xb_BadNumber => k_is)
    (case ty_BadNumber => k_is)
    (case kp_BadNumber => k_is)
    (case ga_BadNumber => k_is)
    (case gg_BadNumber => k_is)
    (case hd_BadNumber => k_is)
    (case ic_BadNumber => k_is)
    (case ac_BadNumber => k_is)
    (case mo_BadNumber => k_is)
    (case ss_BadNumber => k_is)
    (case a23 => k_is)
    (case t23 => k_is)
    (case l23 => k_is)
    (case c23 => k_is)
    (case k23 => k_is)
    (case no_BadNumber_value => k_is)
    (case g_Twice => k_is)
    (case lk_Twice => k_is)
    (case sa_Twice => k_is)
    (case xb_Twice => k_is)
    (case ty_Twice => k_is)
    (case kp_Twice => k_is)
    (case ga_Twice => k_is)
    (case gg_Twice => k_is)
    (case hd_Twice => k_is)
    (case ic_Twice => k_is)
    (case ac_Twice => k_is)
    (case mo_Twice => k_is)
    (case ss_Twice => k_is)
    (case a25 => k_is)
    (case t25 => k_is)
    (case l25 => k_is)
    (case c25 => k_is)
    (case k25 => k_is)
    (case no_Twice_name => k_is)
    (case sb_BadName_BarclipsError => k_is)
    (case sb_BadName_ValueError => k_is)
    (case sb_BadName_BadNumber => k_is)
    (case sb_BadName_Twice => k_is)
    (case sb_BadNumber_BarclipsError => k_is)
    (case sb_BadNumber_ValueError => k_is)
    (case sb_BadNumber_BadName => k_is)
    (case sb_BadNumber_Twice => k_is)
    (case sb_Twice_BarclipsError => k_is)
    (case sb_Twice_ValueError => k_is)
    (case sb_Twice_BadName => k_is)
    (case sb_Twice_BadNumber => k_is)
    (case a26 => k_is)
    (case l26 => k_is)
    (case c26 => k_is)
    (case k26 => k_is)
    (case a27 => k_is)
    (case l27 => k_is)
    (case c27 => k_is)
    (case k27 => k_is)
    (case a28 => k_is)
    (case l28 => k_is)
    (case c28 => k_is)
    (case k28 => k_is)
    (case gs_LETTERS => k_is)
    (case gs_CHARACTERS => k_is)
    (case gi_MOST_CHARACTERS => k_is)
    (case g_Clip => k_is)
    (case pg_Clip => k_is)
    (case hd_Clip => k_is)
    (case po_Clip => k_is)
    (case sa_Clip => k_is)
    (case mk_Clip => k_is)
    (case kp_Clip => k_is)
    (case g_Lead => k_is)
    (case pg_Lead => k_is)
    (case hd_Lead => k_is)
    (case po_Lead => k_is)
    (case sa_Lead => k_is)
    (case mk_Lead => k_is)
    (case kp_Lead => k_is)
    (case g_Sound => k_is)
    (case pg_Sound => k_is)
    (case hd_Sound => k_is)
    (case po_Sound => k_is)
    (case sa_Sound => k_is)
    (case mk_Sound => k_is)
    (case kp_Sound => k_is)
    (case a32 => k_is)
    (case i32 => k_is)
    (case l32 => k_is)
    (case c32 => k_is)
    (case k32 => k_is)
    (case a33 => k_is)
    (case i33 => k_is)
    (case l33 => k_is)
    (case c33 => k_is)
    (case k33 => k_is)
    (case e33 => k_is)
    (case d33 => k_is)
    (case f33 => first | rfl | decide +kernel)
    (case g33 => first | rfl | decide +kernel)
    (case h33 => first | rfl | decide +kernel)
    (case j33 => k_is)
    (case m33 => k_is)
    (case p33 => k_is)
    (case n33 => k_is)
    (case o33 => k_is)
    (case a34 => k_is)
    (case i34 => k_is)
    (case l34 => k_is)
    (case c34 => k_is)
    (case k34 => k_is)
    (case e34 => k_is)
    (case d34 => k_is)
    (case f34 => first | rfl | decide +kernel)
    (case g34 => first | rfl | decide +kernel)
    (case h34 => first | rfl | decide +kernel)
    (case j34 => k_is)
    (case m34 => k_is)
    (case n34 => k_is)
    (case o34 => k_is)
    (case tpa => k_is)
    (case u35 => ks_is)
    (case v35 => k_is)
    (case w35 => k_is)
    (case u36 => ks_is)
    (case v36 => k_is)
    (case w36 => k_is)
    (case rd_Clip => k_is)
    (case sg_Clip => k_is)
    (case cv_Clip_ROUNDS => k_is)
    (case rd_Lead => k_is)
    (case sg_Lead => k_is)
    (case cv_Lead_PATIENCE => k_is)
    (case no_Sound_name => k_is)
    (case no_Sound_grid => k_is)
    (case no_Clip_name => k_is)
    (case no_Clip_grid => k_is)
    (case no_Clip_length => k_is)
    (case no_Clip_rounds => k_is)
    (case no_Clip_guards => k_is)
    (case no_Lead_name => k_is)
    (case no_Lead_grid => k_is)
    (case no_Lead_length => k_is)
    (case no_Lead_stops => k_is)
    (case c_ha => k_is)
    (case c_hm => k_is)
    (case l_ha => k_is)
    (case l_hm => k_is)
    (case s_ha => k_is)
    (case s_hm => k_is)
    (case ic_Sound => k_is)
    (case ty_Sound => k_is)
    (case sb_Clip_Sound => k_is)
    (case sb_Lead_Sound => k_is)


