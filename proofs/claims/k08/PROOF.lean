import PyProof.Rows.All
import Wide.All
import OpenK.AllK
import Wide.FinOn
import HandS.ForMost
import HandS.Wide
import HandS.Gcd
import HandS.OwnEq
import HandS.IsInst
import HandS.Defaults
import HandS.Exc
import HandS.ExcInit
import HandS.ExcField
import HandS.ExcOwn
import HandS.ClsMeth
import HandS.WordsExc
import HandS.FStr
import HandS.MakeKw
import KE.KExcIs
import PySem.Challenge.RW_barclips_k08_common_ticks
set_option Elab.async false
set_option linter.all false
set_option maxRecDepth 100000
set_option maxHeartbeats 4000000
set_option exponentiation.threshold 2000
set_option Elab.async false
set_option linter.all false
set_option maxRecDepth 100000
set_option maxHeartbeats 4000000
namespace Bar
open PySem L2

/-! ### one step of a reading -/
section
variable {D : Ends} {σ σ' : L2.St} {H : Hp} {Q : VK} {t u : TS} {te ta tb tc : TE} {tt tu : TT} {g : TG} {v x y : V} {i j : Int} {n : Nat}
theorem rSeq (h : t ⟨u D, D.rt, D.bk, D.ct⟩ σ H) : tSeq t u D σ H := h
theorem rNext (h : D.nx σ H) : tNext D σ H := h
theorem rNx {f : L2.St → Hp → Prop} {r : VK} {b c : L2.St → Hp → Prop} (h : f σ H) : Ends.nx ⟨f, r, b, c⟩ σ H := h
theorem rCt {f : L2.St → Hp → Prop} {r : VK} {b c : L2.St → Hp → Prop} (h : c σ H) : Ends.ct ⟨f, r, b, c⟩ σ H := h
theorem rBk {f : L2.St → Hp → Prop} {r : VK} {b c : L2.St → Hp → Prop} (h : b σ H) : Ends.bk ⟨f, r, b, c⟩ σ H := h
theorem rRt {f : L2.St → Hp → Prop} {r : VK} {b c : L2.St → Hp → Prop} (h : r v H) : Ends.rt ⟨f, r, b, c⟩ v H := h
theorem rBreak (h : D.bk σ H) : tBreak D σ H := h
theorem rCont (h : D.ct σ H) : tCont D σ H := h
theorem rAsg (h : te σ H fun x H1 => g x σ H1 D.nx) : tAsg te g D σ H := h
theorem rDrop (h : te σ H fun _ H1 => D.nx σ H1) : tDrop te D σ H := h
theorem rRet (h : te σ H D.rt) : tRet te D σ H := h
theorem rRetN (h : D.rt .non H) : tRetN D σ H := h
theorem rIfS (h : tt σ H fun b H1 => if b = true then t D σ H1 else u D σ H1) : tIfS tt t u D σ H := h
theorem rVar (e : σ[n]? = some (some v)) (h : Q v H) : tVar n σ H Q := ⟨v, e, h⟩
theorem rC (h : Q v H) : tC v σ H Q := h
theorem rOp {r : R2} (h : ta σ H fun x H1 => tb σ H1 fun y H2 => r x y H2 Q) : tOp r ta tb σ H Q := h
theorem rUn {r : V → Hp → VK → Prop} (h : ta σ H fun x H1 => r x H1 Q) : tUn r ta σ H Q := h
theorem rI0_ {f : Int → Int → V} (h : Q (f i j) H) : rI0 f (.int i) (.int j) H Q := ⟨i, j, rfl, rfl, h⟩
theorem rI_ {C : Int → Int → Prop} {f : Int → Int → V} (c : C i j) (h : Q (f i j) H) : rI C f (.int i) (.int j) H Q := ⟨i, j, rfl, rfl, c, h⟩
theorem rU_ {f : Int → V} (h : Q (f i) H) : rU f (.int i) H Q := ⟨i, rfl, h⟩
theorem rEq_ (e : scal x y = true) (h : Q (.bl (decide (x = y))) H) : rEq x y H Q := ⟨e, h⟩
theorem rNe_ (e : scal x y = true) (h : Q (.bl (!decide (x = y))) H) : rNe x y H Q := ⟨e, h⟩
theorem rEqI (h : Q (.bl (decide (i = j))) H) : rEq (.int i) (.int j) H Q := ⟨rfl, by
  have e : decide (V.int i = V.int j) = decide (i = j) := by
    by_cases q : i = j
    · subst q; rw [decide_eq_true rfl, decide_eq_true rfl]
    · rw [decide_eq_false q, decide_eq_false (fun z => q (V.int.inj z))]
  rw [e]
  exact h⟩
theorem rNeI (h : Q (.bl (!decide (i = j))) H) : rNe (.int i) (.int j) H Q := ⟨rfl, by
  have e : decide (V.int i = V.int j) = decide (i = j) := by
    by_cases q : i = j
    · subst q; rw [decide_eq_true rfl, decide_eq_true rfl]
    · rw [decide_eq_false q, decide_eq_false (fun z => q (V.int.inj z))]
  rw [e]
  exact h⟩
theorem dBl (a b : Bool) : decide (V.bl a = V.bl b) = (a == b) := by
  cases a <;> cases b <;> decide
theorem rEqBl {a b : Bool} (h : Q (.bl (a == b)) H) : rEq (.bl a) (.bl b) H Q := ⟨rfl, by
  rw [dBl]
  exact h⟩
theorem rNeBl {a b : Bool} (h : Q (.bl (!(a == b))) H) : rNe (.bl a) (.bl b) H Q := ⟨rfl, by
  rw [dBl]
  exact h⟩
theorem rTest {Q : Bool → Hp → Prop} (h : te σ H fun x H' => ∃ k, x = .bl k ∧ Q k H') : tTest te σ H Q := h
theorem rB {Q : Bool → Hp → Prop} (h : te σ H fun x H' => ∃ k, x = .bl k ∧ Q k H') : tB te σ H Q := h
theorem rBl {b : Bool} {P : Bool → Prop} (h : P b) : ∃ k, V.bl b = .bl k ∧ P k := ⟨b, rfl, h⟩
theorem rNot {Q : Bool → Hp → Prop} (h : tt σ H fun c H1 => Q (!c) H1) : tNot tt σ H Q := h
theorem rAnd {Q : Bool → Hp → Prop} (h : tt σ H fun c H1 => if c = true then tu σ H1 Q else Q false H1) : tAnd tt tu σ H Q := h
theorem rOr {Q : Bool → Hp → Prop} (h : tt σ H fun c H1 => if c = true then Q true H1 else tu σ H1 Q) : tOr tt tu σ H Q := h
theorem rAndV (h : ta σ H fun x H1 => ∃ c, x = .bl c ∧ if c = true then tb σ H1 Q else Q (.bl false) H1) : tAndV ta tb σ H Q := h
theorem rOrV (h : ta σ H fun x H1 => ∃ c, x = .bl c ∧ if c = true then Q (.bl true) H1 else tb σ H1 Q) : tOrV ta tb σ H Q := h
theorem rNotV (h : ta σ H fun x H1 => ∃ c, x = .bl c ∧ Q (.bl (!c)) H1) : tNotV ta σ H Q := h
theorem rIfE (h : tt σ H fun c H1 => if c = true then ta σ H1 Q else tb σ H1 Q) : tIf tt ta tb σ H Q := h
theorem rCB {r : List V → Hp → VK → Prop} {t : TA} (h : t σ H fun vs H1 => r vs H1 Q) : tCB r t σ H Q := h
theorem rNil {Q : List V → Hp → Prop} (h : Q [] H) : tNil σ H Q := h
theorem rCons {t : TA} {Q : List V → Hp → Prop} (h : te σ H fun x H1 => t σ H1 fun xs H2 => Q (x :: xs) H2) : tCons te t σ H Q := h
theorem rTup {t : TA} (h : t σ H fun xs H1 => xs.length ≤ sizeLine ∧ ∀ p, H1 p = none → Q (.ref p) (upd H1 p (.tup xs))) : tTup t σ H Q := h
theorem rLst {t : TA} (h : t σ H fun xs H1 => xs.length ≤ sizeLine ∧ ∀ p, H1 p = none → Q (.ref p) (upd H1 p (.lst xs))) : tLst t σ H Q := h
theorem rNew {xs : List V} {R : Addr → Prop} (l : xs.length ≤ sizeLine) (h : ∀ p, H p = none → R p) : xs.length ≤ sizeLine ∧ ∀ p, H p = none → R p := ⟨l, h⟩
theorem rCall {sp : Sp} {dvs : List V} {E : XK} {t : TA} (h : t σ H fun vs H1 => sp (vs ++ dvs) H1 Q E) : tCall sp dvs E t σ H Q := h
theorem rMake {C : Addr} {sp : Sp} {dvs : List V} {E : XK} {t : TA} (h : t σ H fun vs H1 => ∀ x dx, H1 x = none → H1 dx = none → dx ≠ x → sp (.ref x :: (vs ++ dvs)) (upd (upd H1 dx (.own x)) x (.ins C dx [])) (fun v H2 => v = .non ∧ Q (.ref x) H2) E) : tMake C sp dvs E t σ H Q := h
theorem rIxL_ {K : PySem.W.Frag} {a : Addr} {xs : List V} (h1 : SqL K H a xs) (h2 : atI xs i = some v) (h : Q v H) : rIxL K (.ref a) (.int i) H Q := ⟨a, xs, i, v, rfl, rfl, h1, h2, h⟩
theorem rIxT_ {K : PySem.W.Frag} {a : Addr} {xs : List V} (h1 : SqT K H a xs) (h2 : atI xs i = some v) (h : Q v H) : rIxT K (.ref a) (.int i) H Q := ⟨a, xs, i, v, rfl, rfl, h1, h2, h⟩
theorem rFldS {K : PySem.W.Frag} {ta tv : TE} {f : Str} (h : tv σ H fun y H1 => ta σ H1 fun x H2 => ∃ a C dx fs, x = .ref a ∧ H2 a = some (.ins C dx fs) ∧ Cls K C ∧ NoAttr K C f ∧ fs.length < 1000 ∧ D.nx σ (upd H2 a (.ins C dx (putF f y fs)))) : sFld K ta tv f D σ H := h
theorem rFld_ {K : PySem.W.Frag} {f : Str} (h : te σ H fun x H1 => ∃ a C dx fs v, x = .ref a ∧ H1 a = some (.ins C dx fs) ∧ Cls K C ∧ NoAttr K C f ∧ fs.lookup f = some v ∧ Q v H1) : tFld K te f σ H Q := h
theorem rFldV {K : PySem.W.Frag} {f : Str} {a C dx : Addr} {fs : List (Str × V)} {R : V → Prop} (h1 : H a = some (.ins C dx fs)) (c : Cls K C) (nA : NoAttr K C f) (l : fs.lookup f = some v) (h : R v) :
    ∃ a' C dx fs v, V.ref a = .ref a' ∧ H a' = some (.ins C dx fs) ∧ Cls K C ∧ NoAttr K C f ∧ fs.lookup f = some v ∧ R v := ⟨a, C, dx, fs, v, rfl, h1, c, nA, l, h⟩
theorem gN {i : Nat} {Q : L2.St → Hp → Prop} (e : σ.set i (some v) = σ') (h : Q σ' H) : gName i v σ H Q := by
  subst e
  exact h
theorem gN0 {a : Option V} {Q : L2.St → Hp → Prop} (h : Q (some v :: σ) H) : gName 0 v (a :: σ) H Q := h
theorem gN1 {a b : Option V} {Q : L2.St → Hp → Prop} (h : Q (a :: some v :: σ) H) : gName 1 v (a :: b :: σ) H Q := h
theorem gN2 {a b c : Option V} {Q : L2.St → Hp → Prop} (h : Q (a :: b :: some v :: σ) H) : gName 2 v (a :: b :: c :: σ) H Q := h
theorem gN3 {a b c d : Option V} {Q : L2.St → Hp → Prop} (h : Q (a :: b :: c :: some v :: σ) H) : gName 3 v (a :: b :: c :: d :: σ) H Q := h
theorem gN4 {a b c d e : Option V} {Q : L2.St → Hp → Prop} (h : Q (a :: b :: c :: d :: some v :: σ) H) : gName 4 v (a :: b :: c :: d :: e :: σ) H Q := h
theorem gN5 {a b c d e f : Option V} {Q : L2.St → Hp → Prop} (h : Q (a :: b :: c :: d :: e :: some v :: σ) H) : gName 5 v (a :: b :: c :: d :: e :: f :: σ) H Q := h
theorem gN6 {a b c d e f k : Option V} {Q : L2.St → Hp → Prop} (h : Q (a :: b :: c :: d :: e :: f :: some v :: σ) H) : gName 6 v (a :: b :: c :: d :: e :: f :: k :: σ) H Q := h
theorem gN7 {a b c d e f k l : Option V} {Q : L2.St → Hp → Prop} (h : Q (a :: b :: c :: d :: e :: f :: k :: some v :: σ) H) : gName 7 v (a :: b :: c :: d :: e :: f :: k :: l :: σ) H Q := h
theorem gN8 {a b c d e f k l m : Option V} {Q : L2.St → Hp → Prop} (h : Q (a :: b :: c :: d :: e :: f :: k :: l :: some v :: σ) H) : gName 8 v (a :: b :: c :: d :: e :: f :: k :: l :: m :: σ) H Q := h
theorem gN9 {a b c d e f k l m o : Option V} {Q : L2.St → Hp → Prop} (h : Q (a :: b :: c :: d :: e :: f :: k :: l :: m :: some v :: σ) H) : gName 9 v (a :: b :: c :: d :: e :: f :: k :: l :: m :: o :: σ) H Q := h
theorem gN10 {a b c d e f k l m o p : Option V} {Q : L2.St → Hp → Prop} (h : Q (a :: b :: c :: d :: e :: f :: k :: l :: m :: o :: some v :: σ) H) : gName 10 v (a :: b :: c :: d :: e :: f :: k :: l :: m :: o :: p :: σ) H Q := h
theorem gN11 {a b c d e f k l m o p q : Option V} {Q : L2.St → Hp → Prop} (h : Q (a :: b :: c :: d :: e :: f :: k :: l :: m :: o :: p :: some v :: σ) H) : gName 11 v (a :: b :: c :: d :: e :: f :: k :: l :: m :: o :: p :: q :: σ) H Q := h
theorem rStart {N : List Str} {vs : List V} (e : start N vs = σ) (h : t D σ H) : t D (start N vs) H := by
  rw [e]
  exact h
theorem iteBT {A B : Prop} {b : Bool} (e : b = true) (h : A) : if b = true then A else B := by
  rw [if_pos e]
  exact h
theorem iteBF {A B : Prop} {b : Bool} (e : b = false) (h : B) : if b = true then A else B := by
  rw [e, if_neg Bool.false_ne_true]
  exact h
end

/-! ### a def that is called by its name -/
structure Fn (P : Program) (w : World) (K : PySem.W.Frag) (mg : Str → Option Value) (base : Heap) (x : Str) (ps : List Str) (dvs : List V) (k : Nat) (sp : Sp) : Prop where
  ex : ∃ (f : Addr) (fd : FuncData) (ds : List Value), mg x = some (.ref f) ∧ PySem.W.keepIn K (.ref f) = true ∧ Binds K fd ps ds ∧ Vals dvs ds ∧ FnOk P w K mg base CX0 k f fd ps sp
section
variable {X : Cx} {k : Nat} {sp : Sp} {ps : List Str} {dvs : List V} {x : Str} {p pos : Pos} {e : Expr} {es : List Expr} {t : TA}
theorem pe_fn (F : Fn X.prog X.w X.K X.mg X.base x ps dvs k sp) (hr : Room k X.A) (hg : Gl X x) (ha : PA X (e :: es) t) (hdb : (x == ("__debug__" : Str)) = false := by decide)
    (he : starEach (e :: es) X.env = (false, eval e X.env) :: starEach es X.env := by rfl) (hpl : (backTo pos (starEach es X.env)).any (·.1) = false := by rfl) : PE X (.Call (.Name x p) (e :: es) [] pos) (tCall sp dvs E0 t) := by
  obtain ⟨f, fd, ds, hm, hk, hb, hd, ok⟩ := F.ex
  exact pe_call ok hr hg hm hk hb hd pass0 ha hdb he hpl
end

/-! ### what is kept beside b -/
def Kp (b : Addr) (H H' : Hp) : Prop := ∀ a o, a ≠ b → H a = some o → H' a = some o
theorem Kp.refl {b : Addr} {H : Hp} : Kp b H H := fun _ _ _ h => h
theorem Kp.trans {b : Addr} {H H1 H2 : Hp} (h : Kp b H H1) (k : Kp b H1 H2) : Kp b H H2 := fun a o n e => k a o n (h a o n e)
theorem Kp.upd {b : Addr} {H : Hp} {o : HO} : Kp b H (upd H b o) := fun a u n e => by
  rw [upd_ne n]
  exact e
theorem Kp.new {b p : Addr} {H : Hp} {o : HO} (hp : H p = none) : Kp b H (L2.upd H p o) := fun a u n e => by
  rw [upd_ne (ne_of_none e hp)]
  exact e
theorem Kp.of_same {b : Addr} {H H' : Hp} (h : Same H H') : Kp b H H' := fun a u _ e => h a u e
theorem Kp.free {b p : Addr} {H H' : Hp} (k : Kp b H H') {o u : HO} (hb : H b = some o) (hb' : H' b = some u) (hp : H' p = none) : H p = none := by
  cases q : H p with
  | none => rfl
  | some z =>
    have n : p ≠ b := fun e => by rw [e, hb'] at hp; cases hp
    rw [k p z n q] at hp
    cases hp
theorem lkKp {b a : Addr} {H H' : Hp} {o u : HO} (k : Kp b H H') (h : H a = some o) (hb : H b = some u) (d : o ≠ u) : H' a = some o := k a o (ne_of h hb d) h
theorem lkKn {b a : Addr} {H H' : Hp} {o : HO} (k : Kp b H H') (n : a ≠ b) (h : H a = some o) : H' a = some o := k a o n h
theorem lkSm {a : Addr} {H H' : Hp} {o : HO} (k : Same H H') (h : H a = some o) : H' a = some o := k a o h
theorem sqSame {K : PySem.W.Frag} {a : Addr} {xs : List V} {H H' : Hp} (k : Same H H') (h : SqL K H a xs) : SqL K H' a xs := k.seq h
theorem Kp.trans' {b : Addr} {H H1 H2 : Hp} (h : Same H H1) (k : Kp b H1 H2) : Kp b H H2 := fun a o n e => k a o n (h a o e)
theorem sqKf {K : PySem.W.Frag} {b a : Addr} {xs : List V} {H H' : Hp} (k : Kp b H H') (hb : H b = none) (h : SqL K H a xs) : SqL K H' a xs := by
  rcases h with (h | ⟨o, h⟩) | h
  · exact .inl (.inl (k a _ (ne_of_none h hb) h))
  · exact .inl (.inr ⟨o, k a _ (ne_of_none h hb) h⟩)
  · exact .inr h
theorem Kp.sqT {K : PySem.W.Frag} {b t : Addr} {xs ys : List V} {H H' : Hp} (k : Kp b H H') (hb : H b = some (.lst ys)) (h : SqT K H t xs) : SqT K H' t xs := by
  rcases h with (h | ⟨o, h⟩) | h
  · exact .inl (.inl (k t _ (ne_of h hb (by intro z; cases z)) h))
  · exact .inl (.inr ⟨o, k t _ (ne_of h hb (by intro z; cases z)) h⟩)
  · exact .inr h
theorem Kp.sqL {K : PySem.W.Frag} {b t : Addr} {xs : List V} {H H' : Hp} (k : Kp b H H') (n : t ≠ b) (h : SqL K H t xs) : SqL K H' t xs := by
  rcases h with (h | ⟨o, h⟩) | h
  · exact .inl (.inl (k t _ n h))
  · exact .inl (.inr ⟨o, k t _ n h⟩)
  · exact .inr h
theorem szLe {n : Nat} (h : n ≤ 1000) : n ≤ sizeLine := Nat.le_trans h (by decide)
theorem szLt {n : Nat} (h : n < 1000) : n < sizeLine := Nat.lt_of_lt_of_le h (by decide)
def Kp2 (b l : Addr) (H H' : Hp) : Prop := ∀ a o, a ≠ b → a ≠ l → H a = some o → H' a = some o
theorem Kp2.refl {b l : Addr} {H : Hp} : Kp2 b l H H := fun _ _ _ _ h => h
theorem Kp2.kp {b l : Addr} {H H1 H2 : Hp} (k : Kp2 b l H H1) (h : Kp b H1 H2) : Kp2 b l H H2 := fun a o n m e => h a o n (k a o n m e)
theorem Kp2.set {b l : Addr} {H H1 : Hp} {u : HO} (k : Kp2 b l H H1) : Kp2 b l H (L2.upd H1 l u) := fun a o n m e => by
  rw [upd_ne m]
  exact k a o n m e
theorem freeNew {p q : Addr} {H : Hp} {o : HO} (h : L2.upd H q o p = none) : H p = none := by
  by_cases e : p = q
  · subst e
    rw [upd_same] at h
    cases h
  · rwa [upd_ne e] at h
theorem lkNew {p a : Addr} {H : Hp} {o u : HO} (hp : H p = none) (h : H a = some u) : L2.upd H p o a = some u := by
  rw [upd_ne (ne_of_none h hp)]
  exact h
theorem lkNe {p a : Addr} {H : Hp} {o u : HO} (n : a ≠ p) (h : H a = some u) : L2.upd H p o a = some u := by
  rw [upd_ne n]
  exact h

/-! ### powers of great ints -/
def CPowW (i j : Int) : Prop := 0 ≤ j ∧ (Builtin.Int.intBits i : Int) * j ≤ 2 ^ 27
theorem op_powW {X : Cx} : OpR X (binaryOp .Pow) (rI CPowW fun i j => .int (i ^ j.toNat)) := opI fun _ _ _ _ _ _ _ hc q => PyProof.Rows.pow_int hc.1 hc.2 q
theorem powW_ok {i j : Int} (n : Nat) (h0 : 0 ≤ j) (h : i.natAbs < 2 ^ n) (hb : (n : Int) * j ≤ 2 ^ 27) : CPowW i j := by
  refine ⟨h0, Int.le_trans (Int.mul_le_mul_of_nonneg_right ?_ h0) hb⟩
  have := PyProof.Rows.intBits_le h
  omega

/-! ### own operators -/
structure Own (K : PySem.W.Frag) (C : Addr) (m : Str) (f : Addr) : Prop where
  find : PySem.W.findIn K (.ref C) m = some (some (.ref f))
  fn : PySem.W.isFn K (.ref f) = true
/-- x in o, by an own __contains__ that gives a truth value -/
def rOwnIn (C : Addr) (sp : Sp) : R2 := fun x y H Q => ∃ a dx fs, y = .ref a ∧ H a = some (.ins C dx fs) ∧ sp [y, x] H (fun v H' => ∃ c, v = .bl c ∧ Q (.bl c) H') E0
section
variable {X : Cx} {C f : Addr} {fd : FuncData} {ps : List Str} {k : Nat} {sp : Sp}
theorem op_in_own (O : Own X.K C "__contains__" f) (F : FnOk X.prog X.w X.K X.mg X.base CX0 k f fd ps sp) (hr : Room k X.A) (hb : Binds X.K fd ps []) : OpR X (compareOp .In) (rOwnIn C sp) := by
  intro pins s σ H x y v u Q I rx ry h
  obtain ⟨a, dx, fs, rfl, ea, q⟩ := h
  obtain rfl : u = Value.ref a := ry
  obtain ⟨mA, O', _⟩ := ins_get I.hok ea
  obtain ⟨od, J, _⟩ := O'.look
  obtain ⟨m, Fr⟩ := I.fr
  refine PySem.W.in_K Fr I.mod.kin J O.find O.fn ?_
  refine thn (run_fn (us := [.ref a, v]) (vs := [.ref a, x]) F hr hb .nil pass0 I (.cons rfl (.cons rx .nil)) q) fun u' s' hq => ?_
  obtain ⟨v', H', I', rv, hv⟩ := hq
  obtain ⟨b, hb, q'⟩ := hv
  subst hb
  obtain rfl : u' = Value.bool b := rv
  exact wpAny_truthy_bool ⟨.bl b, H', I', rfl, q'⟩
end

/-! ### an own class that is called, a method that is called -/
structure Made (P : Program) (w : World) (K : PySem.W.Frag) (mg : Str → Option Value) (base : Heap) (x : Str) (C : Addr) (ps : List Str) (dvs : List V) (k : Nat) (sp : Sp) : Prop where
  ex : ∃ (f : Addr) (fd : FuncData) (ds : List Value), mg x = some (.ref C) ∧ Mk K C f ∧ Binds K fd ps ds ∧ Vals dvs ds ∧ FnOk P w K mg base CX0 k f fd ps sp
structure Mth (P : Program) (w : World) (K : PySem.W.Frag) (mg : Str → Option Value) (base : Heap) (C : Addr) (m : Str) (ps : List Str) (dvs : List V) (k : Nat) (sp : Sp) : Prop where
  cl : Cls K C
  ex : ∃ (f : Addr) (fd : FuncData) (ds : List Value), Meth K C m f ∧ Binds K fd ps ds ∧ Vals dvs ds ∧ FnOk P w K mg base CX0 k f fd ps sp
structure Opr (P : Program) (w : World) (K : PySem.W.Frag) (mg : Str → Option Value) (base : Heap) (C : Addr) (m : Str) (ps : List Str) (k : Nat) (sp : Sp) : Prop where
  ex : ∃ (f : Addr) (fd : FuncData), Own K C m f ∧ Binds K fd ps [] ∧ FnOk P w K mg base CX0 k f fd ps sp
section
variable {X : Cx} {k : Nat} {sp : Sp} {ps : List Str} {dvs : List V} {C : Addr} {x m : Str} {p pos apos : Pos} {e o : Expr} {es : List Expr} {t : TA} {ta : TE}
theorem pe_mk (F : Made X.prog X.w X.K X.mg X.base x C ps dvs k sp) (hr : Room (k + 1) X.A) (hg : Gl X x) (ha : PA X (e :: es) t) (hdb : (x == ("__debug__" : Str)) = false := by decide)
    (he : starEach (e :: es) X.env = (false, eval e X.env) :: starEach es X.env := by rfl) (hpl : (backTo pos (starEach es X.env)).any (·.1) = false := by rfl) : PE X (.Call (.Name x p) (e :: es) [] pos) (tMake C sp dvs E0 t) := by
  obtain ⟨f, fd, ds, hm, hk, hb, hd, ok⟩ := F.ex
  exact pe_make hk ok hr hg hm hb hd pass0 ha hdb he hpl
theorem pe_mth {pl : Sem Bool} (F : Mth X.prog X.w X.K X.mg X.base C m ps dvs k sp) (he : PE X o ta) (hr : Room k X.A) (ha : PA X (e :: es) t)
    (hst : starEach (e :: es) X.env = (false, eval e X.env) :: starEach es X.env := by rfl) (hpl : (backTo pos (starEach es X.env)).any (·.1) = false := by rfl)
    (ht : eval (.Call (.Attribute o m apos) (e :: es) [] pos) X.env = (do
      let ov ← eval o X.env
      standAt apos.atName
      let (f, first) ← holding [ov] (getMethod ov m pl)
      callWith pos f first (backTo pos (starEach (e :: es) X.env)) (backToKw pos (keywordEach [] X.env))) := by rfl) :
    PE X (.Call (.Attribute o m apos) (e :: es) [] pos) (tMeth C m sp dvs E0 ta t) := by
  obtain ⟨f, fd, ds, hm, hb, hd, ok⟩ := F.ex
  exact pe_meth he F.cl hm ok hr hb hd pass0 ha hst hpl ht
theorem op_in (F : Opr X.prog X.w X.K X.mg X.base C "__contains__" ps k sp) (hr : Room k X.A) : OpR X (compareOp .In) (rOwnIn C sp) := by
  obtain ⟨f, fd, O, hb, ok⟩ := F.ex
  exact op_in_own O ok hr hb
end
theorem rMeth {C : Addr} {m : Str} {sp : Sp} {dvs : List V} {E : XK} {ta : TE} {t : TA} {σ : L2.St} {H : Hp} {Q : VK} (h : ta σ H fun x H1 => ∃ a dx fs, x = .ref a ∧ H1 a = some (.ins C dx fs) ∧ fs.lookup m = none ∧ t σ H1 fun vs H2 => sp (x :: (vs ++ dvs)) H2 Q E) :
  tMeth C m sp dvs E ta t σ H Q := h
theorem lkMut {p a : Addr} {H : Hp} {o u o' : HO} (h : H a = some u) (hp : H p = some o') (d : u ≠ o') : L2.upd H p o a = some u := lkNe (ne_of h hp d) h
def rInt : List V → Hp → VK → Prop := fun xs H Q => (∃ i, xs = [.int i] ∧ Q (.int i) H) ∨ ∃ k : Bool, xs = [.bl k] ∧ Q (.int (if k then 1 else 0)) H
theorem c_int {X : Cx} : CallR X (.type "int") rInt := call_int1
theorem rInt_ {i : Int} {H : Hp} {Q : VK} (h : Q (.int i) H) : rInt [.int i] H Q := Or.inl ⟨i, rfl, h⟩
def rAbs : List V → Hp → VK → Prop := fun xs H Q => ∃ i, xs = [.int i] ∧ Q (.int (if i < 0 then -i else i)) H
theorem c_abs {X : Cx} : CallR X (.builtin "abs") rAbs := call_abs
theorem rAbs_ {i : Int} {H : Hp} {Q : VK} (h : Q (.int (if i < 0 then -i else i)) H) : rAbs [.int i] H Q := ⟨i, rfl, h⟩
def rStr : List V → Hp → VK → Prop := fun xs H Q => ∃ i : Int, xs = [.int i] ∧ i.natAbs.log2 < 1920 ∧ Q (.str (toString i)) H
theorem c_str {X : Cx} : CallR X (.type "str") rStr := call_str_int
theorem rStr_ {i : Int} {H : Hp} {Q : VK} (l : i.natAbs.log2 < 1920) (h : Q (.str (toString i)) H) : rStr [.int i] H Q := ⟨i, rfl, l, h⟩
def rLenStr : List V → Hp → VK → Prop := fun xs H Q => ∃ z : Str, xs = [.str z] ∧ z.length ≤ sizeLine ∧ Q (.int z.length) H
theorem c_lenStr {X : Cx} : CallR X (.builtin "len") rLenStr := call_len_str
theorem rLenStr_ {z : Str} {H : Hp} {Q : VK} (l : z.length ≤ sizeLine) (h : Q (.int z.length) H) : rLenStr [.str z] H Q := ⟨z, rfl, l, h⟩
def rLen (K : PySem.W.Frag) : List V → Hp → VK → Prop := fun xs H Q => ∃ p ys, xs = [.ref p] ∧ (SqL K H p ys ∨ SqT K H p ys) ∧ Q (.int ys.length) H
theorem c_len {X : Cx} : CallR X (.builtin "len") (rLen X.K) := call_len_seq
theorem rLenL {K : PySem.W.Frag} {a : Addr} {ys : List V} {H : Hp} {Q : VK} (h1 : SqL K H a ys) (h : Q (.int ys.length) H) : rLen K [.ref a] H Q := ⟨a, ys, rfl, Or.inl h1, h⟩
theorem rLenT {K : PySem.W.Frag} {a : Addr} {ys : List V} {H : Hp} {Q : VK} (h1 : SqT K H a ys) (h : Q (.int ys.length) H) : rLen K [.ref a] H Q := ⟨a, ys, rfl, Or.inr h1, h⟩
theorem rSub {to ti : TE} {t : TSet} {v : V} {σ : L2.St} {H : Hp} {Q : L2.St → Hp → Prop} (h : to σ H fun o H1 => ti σ H1 fun i H2 => t o i v H2 fun H3 => Q σ H3) : gSub to ti t v σ H Q := h
theorem rSetL_ {a : Addr} {xs : List V} {k : Int} {j : Nat} {v : V} {H : Hp} {Q : Hp → Prop} (h1 : H a = some (.lst xs)) (h2 : ixN xs.length k = some j) (h : Q (upd H a (.lst (xs.set j v)))) : rSetL (.ref a) (.int k) v H Q := ⟨a, xs, k, j, rfl, rfl, h1, h2, h⟩
theorem rAppend_ {a : Addr} {xs : List V} {y : V} {H : Hp} {Q : VK} (h1 : H a = some (.lst xs)) (l : xs.length < sizeLine) (h : Q .non (upd H a (.lst (xs ++ [y])))) : rAppend (.ref a) [y] H Q := ⟨a, xs, y, rfl, rfl, h1, l, h⟩
theorem rBM {K : PySem.W.Frag} {T : String} {r : V → List V → Hp → VK → Prop} {to : TE} {t : TA} {σ : L2.St} {H : Hp} {Q : VK} (h : to σ H fun x H1 => tyV K T x H1 ∧ t σ H1 fun xs H2 => r x xs H2 Q) : tBM K T r to t σ H Q := h
theorem tyL {K : PySem.W.Frag} {a : Addr} {xs : List V} {H : Hp} {R : Prop} (h1 : SqL K H a xs) (h : R) : tyV K "list" (.ref a) H ∧ R := ⟨Or.inl ⟨rfl, _, h1⟩, h⟩
theorem sqW (x : Int) {m : Int} (h0 : 0 < m) (h : m ≤ 2147483647) : CMulW (x % m) (x % m) := by
  have h1 := Int.emod_nonneg x (Int.ne_of_gt h0)
  have h2 := Int.emod_lt_of_pos x h0
  have h3 : (x % m).natAbs < 2 ^ 31 := by omega
  exact wide_mul h3 h3 (by decide) (by decide) (by decide)
theorem rSl {r : V → Option Int → Option Int → Hp → VK → Prop} {te : TE} {tl th : TO} {σ : L2.St} {H : Hp} {Q : VK} (h : te σ H fun x H1 => tl σ H1 fun l H2 => th σ H2 fun u H3 => r x l u H3 Q) : tSl r te tl th σ H Q := h
theorem rNoPart {σ : L2.St} {H : Hp} {Q : Option Int → Hp → Prop} (h : Q none H) : tNoPart σ H Q := h
theorem rPart {t : TE} {σ : L2.St} {H : Hp} {Q : Option Int → Hp → Prop} (h : t σ H fun x H1 => ∃ i, x = .int i ∧ Q (some i) H1) : tPart t σ H Q := h
theorem rInI {i : Int} {R : Int → Prop} (h : R i) : ∃ j, V.int i = .int j ∧ R j := ⟨i, rfl, h⟩
theorem rSlL_ {K : PySem.W.Frag} {a : Addr} {xs : List V} {lo hi : Option Int} {H : Hp} {Q : VK} (h1 : SqL K H a xs) (h : ∀ p, H p = none → Q (.ref p) (upd H p (.lst (cutV xs lo hi)))) : rSlL K (.ref a) lo hi H Q := ⟨a, xs, rfl, h1, h⟩
theorem cut_mem {xs : List V} {lo hi : Option Int} {v : V} (h : v ∈ cutV xs lo hi) : v ∈ xs := List.mem_of_mem_drop (List.mem_of_mem_take h)
theorem cut_int {ns : List Int} {lo hi : Option Int} {i : Nat} {v : V} (h : (cutV (ns.map V.int) lo hi)[i]? = some v) : ∃ u, v = .int u := by
  have h1 := cut_mem (List.mem_of_getElem? h)
  obtain ⟨u, _, e⟩ := List.mem_map.mp h1
  exact ⟨u, e.symm⟩
theorem at_map {ns : List Int} {j : Nat} (h : j < ns.length) : atI (ns.map V.int) (j : Int) = some (.int ns[j]) := atI_nat (by
  rw [List.getElem?_map, List.getElem?_eq_getElem h]
  rfl)
/-! ### loops -/
section
variable {σ : L2.St} {H : Hp} {D : Ends} {g : TG} {tb : TS} {K : PySem.W.Frag}
theorem rFor {wi : TI} (h : wi σ H fun J H1 => ∃ W : Nat → Nat → L2.St → Hp → Prop, (∃ m, W 0 m σ H1) ∧ ∀ i m σ H, W i m σ H →
  (J.stop i H ∧ D.nx σ H) ∨ (J.go i H ∧ ∃ N : L2.St → Hp → Prop, (∀ σ' H', N σ' H' → ∃ m', m' < m ∧ W (i + 1) m' σ' H') ∧ ∀ x H', J.yld i H x H' → g x σ H' fun σ2 H2 => tb { D with nx := N, ct := N, bk := D.nx } σ2 H2)) : tFor wi g tb D σ H := h
theorem rRng1 {ta : TA} {R : It → Hp → Prop} (h : ta σ H fun vs H1 => ∃ j : Int, vs = [.int j] ∧ -(2 ^ 62) ≤ j ∧ j < 2 ^ 62 ∧ R (Itr 0 j.toNat) H1) : iRng1 ta σ H R := h
theorem rRng2 {ta : TA} {R : It → Hp → Prop} (h : ta σ H fun vs H1 => ∃ i j : Int, vs = [.int i, .int j] ∧ (-(2 ^ 62) ≤ i ∧ i < 2 ^ 62 ∧ -(2 ^ 62) ≤ j ∧ j < 2 ^ 62) ∧ R (Itr i (j - i).toNat) H1) : iRng2 ta σ H R := h
theorem rLst1 {tl : TE} {R : It → Hp → Prop} (h : tl σ H fun x H1 => ∃ a, x = .ref a ∧ (∃ xs, SqL K H1 a xs) ∧ R (Itl K a) H1) : iList K tl σ H R := h
theorem rTup1 {tl : TE} {R : It → Hp → Prop} (h : tl σ H fun x H1 => ∃ a, x = .ref a ∧ (∃ xs, SqT K H1 a xs) ∧ R (Itt K a) H1) : iTup K tl σ H R := h
/-- a loop over range(j), the turn's number an int -/
theorem forR {j : Int} (n : Nat) (e : j.toNat = n) (Pv : Nat → L2.St → Hp → Prop) (b : -(2 ^ 62) ≤ j ∧ j < 2 ^ 62) (h0 : Pv 0 σ H)
    (hs : ∀ i σ H, i < n → Pv i σ H → g (.int (i : Int)) σ H fun σ2 H2 => tb ⟨Pv (i + 1), D.rt, D.nx, Pv (i + 1)⟩ σ2 H2) (hd : ∀ σ H, Pv n σ H → D.nx σ H) :
    ∃ j', [V.int j] = [V.int j'] ∧ -(2 ^ 62) ≤ j' ∧ j' < 2 ^ 62 ∧ ∃ W : Nat → Nat → L2.St → Hp → Prop, (∃ m, W 0 m σ H) ∧ ∀ i m σ H, W i m σ H →
      ((Itr 0 j'.toNat).stop i H ∧ D.nx σ H) ∨ ((Itr 0 j'.toNat).go i H ∧ ∃ N : L2.St → Hp → Prop, (∀ σ' H', N σ' H' → ∃ m', m' < m ∧ W (i + 1) m' σ' H') ∧ ∀ x H', (Itr 0 j'.toNat).yld i H x H' → g x σ H' fun σ2 H2 => tb { D with nx := N, ct := N, bk := D.nx } σ2 H2) := by
  subst e
  refine ⟨j, rfl, b.1, b.2, for_range (lo := 0) (n := j.toNat) Pv h0 (fun i σ H hi p => ?_) hd⟩
  have e : (0 : Int) + (i : Int) = (i : Int) := Int.zero_add _
  rw [e]
  exact hs i σ H hi p
/-- a loop over a list that stands still -/
theorem forL {a : Addr} {xs : List V} (Pv : Nat → L2.St → Hp → Prop) (hx : SqL K H a xs) (h0 : Pv 0 σ H) (hl : ∀ i σ H, i ≤ xs.length → Pv i σ H → SqL K H a xs)
    (hs : ∀ i x σ H, xs[i]? = some x → Pv i σ H → g x σ H fun σ2 H2 => tb ⟨Pv (i + 1), D.rt, D.nx, Pv (i + 1)⟩ σ2 H2) (hd : ∀ σ H, Pv xs.length σ H → D.nx σ H) :
    ∃ a', V.ref a = V.ref a' ∧ (∃ xs, SqL K H a' xs) ∧ ∃ W : Nat → Nat → L2.St → Hp → Prop, (∃ m, W 0 m σ H) ∧ ∀ i m σ H, W i m σ H →
      ((Itl K a').stop i H ∧ D.nx σ H) ∨ ((Itl K a').go i H ∧ ∃ N : L2.St → Hp → Prop, (∀ σ' H', N σ' H' → ∃ m', m' < m ∧ W (i + 1) m' σ' H') ∧ ∀ x H', (Itl K a').yld i H x H' → g x σ H' fun σ2 H2 => tb { D with nx := N, ct := N, bk := D.nx } σ2 H2) :=
  ⟨a, rfl, ⟨xs, hx⟩, for_list Pv h0 hl hs hd⟩
theorem forT {a : Addr} {xs : List V} (Pv : Nat → L2.St → Hp → Prop) (hx : SqT K H a xs) (h0 : Pv 0 σ H) (hl : ∀ i σ H, i ≤ xs.length → Pv i σ H → SqT K H a xs)
    (hs : ∀ i x σ H, xs[i]? = some x → Pv i σ H → g x σ H fun σ2 H2 => tb ⟨Pv (i + 1), D.rt, D.nx, Pv (i + 1)⟩ σ2 H2) (hd : ∀ σ H, Pv xs.length σ H → D.nx σ H) :
    ∃ a', V.ref a = V.ref a' ∧ (∃ xs, SqT K H a' xs) ∧ ∃ W : Nat → Nat → L2.St → Hp → Prop, (∃ m, W 0 m σ H) ∧ ∀ i m σ H, W i m σ H →
      ((Itt K a').stop i H ∧ D.nx σ H) ∨ ((Itt K a').go i H ∧ ∃ N : L2.St → Hp → Prop, (∀ σ' H', N σ' H' → ∃ m', m' < m ∧ W (i + 1) m' σ' H') ∧ ∀ x H', (Itt K a').yld i H x H' → g x σ H' fun σ2 H2 => tb { D with nx := N, ct := N, bk := D.nx } σ2 H2) :=
  ⟨a, rfl, ⟨xs, hx⟩, for_tup Pv h0 hl hs hd⟩
end
/-! ### isinstance, is None -/
theorem kit_int_int : kitB "int" "int" = some true := by decide +kernel
theorem kit_int_bool : kitB "int" "bool" = some false := by decide +kernel
theorem kit_int_str : kitB "int" "str" = some false := by decide +kernel
theorem kit_int_list : kitB "int" "list" = some false := by decide +kernel
theorem kit_int_tuple : kitB "int" "tuple" = some false := by decide +kernel
theorem kit_bool_int : kitB "bool" "int" = some true := by decide +kernel
theorem kit_bool_bool : kitB "bool" "bool" = some true := by decide +kernel
theorem kit_bool_str : kitB "bool" "str" = some false := by decide +kernel
theorem kit_bool_list : kitB "bool" "list" = some false := by decide +kernel
theorem kit_bool_tuple : kitB "bool" "tuple" = some false := by decide +kernel
theorem kit_str_int : kitB "str" "int" = some false := by decide +kernel
theorem kit_str_bool : kitB "str" "bool" = some false := by decide +kernel
theorem kit_str_str : kitB "str" "str" = some true := by decide +kernel
theorem kit_str_list : kitB "str" "list" = some false := by decide +kernel
theorem kit_str_tuple : kitB "str" "tuple" = some false := by decide +kernel
theorem kit_list_int : kitB "list" "int" = some false := by decide +kernel
theorem kit_list_bool : kitB "list" "bool" = some false := by decide +kernel
theorem kit_list_str : kitB "list" "str" = some false := by decide +kernel
theorem kit_list_list : kitB "list" "list" = some true := by decide +kernel
theorem kit_list_tuple : kitB "list" "tuple" = some false := by decide +kernel
theorem kit_tuple_int : kitB "tuple" "int" = some false := by decide +kernel
theorem kit_tuple_bool : kitB "tuple" "bool" = some false := by decide +kernel
theorem kit_tuple_str : kitB "tuple" "str" = some false := by decide +kernel
theorem kit_tuple_list : kitB "tuple" "list" = some false := by decide +kernel
theorem kit_tuple_tuple : kitB "tuple" "tuple" = some true := by decide +kernel
theorem kit_NoneType_int : kitB "NoneType" "int" = some false := by decide +kernel
theorem kit_NoneType_bool : kitB "NoneType" "bool" = some false := by decide +kernel
theorem kit_NoneType_str : kitB "NoneType" "str" = some false := by decide +kernel
theorem kit_NoneType_list : kitB "NoneType" "list" = some false := by decide +kernel
theorem kit_NoneType_tuple : kitB "NoneType" "tuple" = some false := by decide +kernel
section
variable {X : Cx} {K : PySem.W.Frag} {H : Hp} {Q : VK} {b : String} {r : Bool} {σ : L2.St}
theorem isiTy {x : V} {a : String} (t : TyX K H x (.type a)) (h : kitB a b = some r) (q : Q (.bl r) H) : rIsi K [x, .ty b] H Q := ⟨x, .ty b, _, _, r, rfl, .ty b, t, kit_ty h, q⟩
theorem isiI {i : Int} (h : kitB "int" b = some r) (q : Q (.bl r) H) : rIsi K [.int i, .ty b] H Q := isiTy (.base (.int i)) h q
theorem isiB {i : Bool} (h : kitB "bool" b = some r) (q : Q (.bl r) H) : rIsi K [.bl i, .ty b] H Q := isiTy (.base (.bl i)) h q
theorem isiS {i : Str} (h : kitB "str" b = some r) (q : Q (.bl r) H) : rIsi K [.str i, .ty b] H Q := isiTy (.base (.str i)) h q
theorem isiN (h : kitB "NoneType" b = some r) (q : Q (.bl r) H) : rIsi K [.non, .ty b] H Q := isiTy (.base .non) h q
theorem isiL {a : Addr} {xs : List V} (e : H a = some (.lst xs)) (h : kitB "list" b = some r) (q : Q (.bl r) H) : rIsi K [.ref a, .ty b] H Q := isiTy (.base (.lst e)) h q
theorem isiT {a : Addr} {xs : List V} (e : H a = some (.tup xs)) (h : kitB "tuple" b = some r) (q : Q (.bl r) H) : rIsi K [.ref a, .ty b] H Q := isiTy (.base (.tup e)) h q
def rIsNone : R2 := fun x y H Q => y = .non ∧ Q (.bl (decide (x = .non))) H
def rNotNone : R2 := fun x y H Q => y = .non ∧ Q (.bl (!decide (x = .non))) H
theorem o_isN : OpR X (compareOp .Is) rIsNone := op_isN
theorem o_notN : OpR X (compareOp .IsNot) rNotNone := op_notN
theorem rIsN_n (q : Q (.bl true) H) : rIsNone .non .non H Q := ⟨rfl, q⟩
theorem rIsN_i {i : Int} (q : Q (.bl false) H) : rIsNone (.int i) .non H Q := ⟨rfl, q⟩
theorem rIsN_b {i : Bool} (q : Q (.bl false) H) : rIsNone (.bl i) .non H Q := ⟨rfl, q⟩
theorem rIsN_s {i : Str} (q : Q (.bl false) H) : rIsNone (.str i) .non H Q := ⟨rfl, q⟩
theorem rIsN_r {i : Addr} (q : Q (.bl false) H) : rIsNone (.ref i) .non H Q := ⟨rfl, q⟩
theorem rNoN_n (q : Q (.bl false) H) : rNotNone .non .non H Q := ⟨rfl, q⟩
theorem rNoN_i {i : Int} (q : Q (.bl true) H) : rNotNone (.int i) .non H Q := ⟨rfl, q⟩
theorem rNoN_b {i : Bool} (q : Q (.bl true) H) : rNotNone (.bl i) .non H Q := ⟨rfl, q⟩
theorem rNoN_s {i : Str} (q : Q (.bl true) H) : rNotNone (.str i) .non H Q := ⟨rfl, q⟩
theorem rNoN_r {i : Addr} (q : Q (.bl true) H) : rNotNone (.ref i) .non H Q := ⟨rfl, q⟩
theorem rIxSL {a : Addr} {xs : List V} {i : Int} {v : V} (h1 : H a = some (.lst xs)) (h2 : atI xs i = some v) (h : Q v H) : rIx K (.ref a) (.int i) H Q := .inl ⟨a, xs, i, v, rfl, rfl, SqL.of h1, h2, h⟩
theorem rIxST {a : Addr} {xs : List V} {i : Int} {v : V} (h1 : H a = some (.tup xs)) (h2 : atI xs i = some v) (h : Q v H) : rIx K (.ref a) (.int i) H Q := .inr (.inl ⟨a, xs, i, v, rfl, rfl, SqT.of h1, h2, h⟩)
theorem rEqS {s : Str} (q : Q (.bl true) H) : rEq (.str s) (.str s) H Q := ⟨rfl, by
  rw [decide_eq_true rfl]
  exact q⟩
theorem fn_false {P : Program} {w : World} {mg : Str → Option Value} {base : Heap} {k : Nat} {f : Addr} {fd : FuncData} {ps : List Str} {sp : Sp} (h : ∀ vs H Q E, ¬ sp vs H Q E) : FnOk P w K mg base CX0 k f fd ps sp :=
  ⟨fun _ _ _ _ q => (h _ _ _ _ q).elim, fun _ _ _ _ _ _ _ _ _ _ _ _ _ q => (h _ _ _ _ q).elim⟩
end
/-! ### the steps that ask nothing, found by their form -/
class Rd (p : Prop) (q : outParam Prop) : Prop where
  imp : q → p
theorem rd {p q : Prop} [h : Rd p q] (x : q) : p := h.imp x
/-- what stands in a slot -/
class At (σ : L2.St) (i : Nat) (v : outParam V) : Prop where
  eq : σ[i]? = some (some v)
instance {v : V} {σ : L2.St} : At (some v :: σ) 0 v := ⟨rfl⟩
instance {v : V} {a : Option V} {σ : L2.St} {i : Nat} [h : At σ i v] : At (a :: σ) (i + 1) v := ⟨h.eq⟩
class Put (σ : L2.St) (i : Nat) (v : V) (τ : outParam L2.St) : Prop where
  eq : σ.set i (some v) = τ
instance {v : V} {a : Option V} {σ : L2.St} : Put (a :: σ) 0 v (some v :: σ) := ⟨rfl⟩
instance {v : V} {a : Option V} {σ τ : L2.St} {i : Nat} [h : Put σ i v τ] : Put (a :: σ) (i + 1) v (a :: τ) := ⟨congrArg (List.cons a) h.eq⟩
section
variable {D : Ends} {σ τ : L2.St} {H : Hp} {Q : VK} {QB : Bool → Hp → Prop} {QL : List V → Hp → Prop} {QS : L2.St → Hp → Prop} {QI : It → Hp → Prop} {QO : Option Int → Hp → Prop} {t u : TS} {te ta tb tc : TE} {tt tu : TT} {g : TG} {v x y : V} {i j : Int} {n : Nat} {K : PySem.W.Frag}
instance : Rd (tSeq t u D σ H) (t ⟨u D, D.rt, D.bk, D.ct⟩ σ H) := ⟨fun h => h⟩
instance : Rd (tNext D σ H) (D.nx σ H) := ⟨fun h => h⟩
instance : Rd (tBreak D σ H) (D.bk σ H) := ⟨fun h => h⟩
instance : Rd (tCont D σ H) (D.ct σ H) := ⟨fun h => h⟩
instance {f b c : L2.St → Hp → Prop} {r : VK} : Rd (Ends.nx ⟨f, r, b, c⟩ σ H) (f σ H) := ⟨fun h => h⟩
instance {f b c : L2.St → Hp → Prop} {r : VK} : Rd (Ends.ct ⟨f, r, b, c⟩ σ H) (c σ H) := ⟨fun h => h⟩
instance {f b c : L2.St → Hp → Prop} {r : VK} : Rd (Ends.bk ⟨f, r, b, c⟩ σ H) (b σ H) := ⟨fun h => h⟩
instance {f b c : L2.St → Hp → Prop} {r : VK} : Rd (Ends.rt ⟨f, r, b, c⟩ v H) (r v H) := ⟨fun h => h⟩
instance : Rd (tAsg te g D σ H) (te σ H fun x H1 => g x σ H1 D.nx) := ⟨fun h => h⟩
instance : Rd (tDrop te D σ H) (te σ H fun _ H1 => D.nx σ H1) := ⟨fun h => h⟩
instance : Rd (tRet te D σ H) (te σ H D.rt) := ⟨fun h => h⟩
instance : Rd (tRetN D σ H) (D.rt .non H) := ⟨fun h => h⟩
instance : Rd (tIfS tt t u D σ H) (tt σ H fun b H1 => if b = true then t D σ H1 else u D σ H1) := ⟨fun h => h⟩
instance [h : At σ n v] : Rd (tVar n σ H Q) (Q v H) := ⟨fun q => ⟨v, h.eq, q⟩⟩
instance [h : Put σ n v τ] : Rd (gName n v σ H QS) (QS τ H) := ⟨fun q => by rw [← h.eq] at q; exact q⟩
instance : Rd (tC v σ H Q) (Q v H) := ⟨fun h => h⟩
instance {r : R2} : Rd (tOp r ta tb σ H Q) (ta σ H fun x H1 => tb σ H1 fun y H2 => r x y H2 Q) := ⟨fun h => h⟩
instance {r : V → Hp → VK → Prop} : Rd (tUn r ta σ H Q) (ta σ H fun x H1 => r x H1 Q) := ⟨fun h => h⟩
instance {f : Int → Int → V} : Rd (rI0 f (.int i) (.int j) H Q) (Q (f i j) H) := ⟨rI0_⟩
instance {f : Int → V} : Rd (rU f (.int i) H Q) (Q (f i) H) := ⟨rU_⟩
instance : Rd (rEq (.int i) (.int j) H Q) (Q (.bl (decide (i = j))) H) := ⟨rEqI⟩
instance : Rd (rNe (.int i) (.int j) H Q) (Q (.bl (!decide (i = j))) H) := ⟨rNeI⟩
instance {a b : Bool} : Rd (rEq (.bl a) (.bl b) H Q) (Q (.bl (a == b)) H) := ⟨rEqBl⟩
instance {a b : Bool} : Rd (rNe (.bl a) (.bl b) H Q) (Q (.bl (!(a == b))) H) := ⟨rNeBl⟩
instance {s : Str} : Rd (rEq (.str s) (.str s) H Q) (Q (.bl true) H) := ⟨rEqS⟩
instance : Rd (tTest te σ H QB) (te σ H fun x H' => ∃ k, x = .bl k ∧ QB k H') := ⟨fun h => h⟩
instance : Rd (tB te σ H QB) (te σ H fun x H' => ∃ k, x = .bl k ∧ QB k H') := ⟨fun h => h⟩
instance {b : Bool} {P : Bool → Prop} : Rd (∃ k, V.bl b = .bl k ∧ P k) (P b) := ⟨rBl⟩
instance {P : Int → Prop} : Rd (∃ k, V.int i = .int k ∧ P k) (P i) := ⟨rInI⟩
instance : Rd (tNot tt σ H QB) (tt σ H fun c H1 => QB (!c) H1) := ⟨fun h => h⟩
instance : Rd (tAnd tt tu σ H QB) (tt σ H fun c H1 => if c = true then tu σ H1 QB else QB false H1) := ⟨fun h => h⟩
instance : Rd (tOr tt tu σ H QB) (tt σ H fun c H1 => if c = true then QB true H1 else tu σ H1 QB) := ⟨fun h => h⟩
instance : Rd (tAndV ta tb σ H Q) (ta σ H fun x H1 => ∃ c, x = .bl c ∧ if c = true then tb σ H1 Q else Q (.bl false) H1) := ⟨fun h => h⟩
instance : Rd (tOrV ta tb σ H Q) (ta σ H fun x H1 => ∃ c, x = .bl c ∧ if c = true then Q (.bl true) H1 else tb σ H1 Q) := ⟨fun h => h⟩
instance : Rd (tNotV ta σ H Q) (ta σ H fun x H1 => ∃ c, x = .bl c ∧ Q (.bl (!c)) H1) := ⟨fun h => h⟩
instance : Rd (tIf tt ta tb σ H Q) (tt σ H fun c H1 => if c = true then ta σ H1 Q else tb σ H1 Q) := ⟨fun h => h⟩
instance {r : List V → Hp → VK → Prop} {t : TA} : Rd (tCB r t σ H Q) (t σ H fun vs H1 => r vs H1 Q) := ⟨fun h => h⟩
instance : Rd (tNil σ H QL) (QL [] H) := ⟨fun h => h⟩
instance {t : TA} : Rd (tCons te t σ H QL) (te σ H fun x H1 => t σ H1 fun xs H2 => QL (x :: xs) H2) := ⟨fun h => h⟩
instance {t : TA} : Rd (tTup t σ H Q) (t σ H fun xs H1 => xs.length ≤ sizeLine ∧ ∀ p, H1 p = none → Q (.ref p) (upd H1 p (.tup xs))) := ⟨fun h => h⟩
instance {t : TA} : Rd (tLst t σ H Q) (t σ H fun xs H1 => xs.length ≤ sizeLine ∧ ∀ p, H1 p = none → Q (.ref p) (upd H1 p (.lst xs))) := ⟨fun h => h⟩
instance {sp : Sp} {dvs : List V} {E : XK} {t : TA} : Rd (tCall sp dvs E t σ H Q) (t σ H fun vs H1 => sp (vs ++ dvs) H1 Q E) := ⟨fun h => h⟩
instance {C : Addr} {sp : Sp} {dvs : List V} {E : XK} {t : TA} : Rd (tMake C sp dvs E t σ H Q) (t σ H fun vs H1 => ∀ x dx, H1 x = none → H1 dx = none → dx ≠ x → sp (.ref x :: (vs ++ dvs)) (upd (upd H1 dx (.own x)) x (.ins C dx [])) (fun v H2 => v = .non ∧ Q (.ref x) H2) E) := ⟨fun h => h⟩
instance {C : Addr} {m : Str} {sp : Sp} {dvs : List V} {E : XK} {t : TA} : Rd (tMeth C m sp dvs E ta t σ H Q) (ta σ H fun x H1 => ∃ a dx fs, x = .ref a ∧ H1 a = some (.ins C dx fs) ∧ fs.lookup m = none ∧ t σ H1 fun vs H2 => sp (x :: (vs ++ dvs)) H2 Q E) := ⟨fun h => h⟩
instance {f : Str} : Rd (tFld K te f σ H Q) (te σ H fun x H1 => ∃ a C dx fs v, x = .ref a ∧ H1 a = some (.ins C dx fs) ∧ Cls K C ∧ NoAttr K C f ∧ fs.lookup f = some v ∧ Q v H1) := ⟨fun h => h⟩
instance {f : Str} : Rd (sFld K ta te f D σ H) (te σ H fun y H1 => ta σ H1 fun x H2 => ∃ a C dx fs, x = .ref a ∧ H2 a = some (.ins C dx fs) ∧ Cls K C ∧ NoAttr K C f ∧ fs.length < 1000 ∧ D.nx σ (upd H2 a (.ins C dx (putF f y fs)))) := ⟨fun h => h⟩
instance {r r' : R2} : Rd (tChain r r' ta tb tc σ H Q) (ta σ H fun x H1 => tb σ H1 fun y H2 => r x y H2 fun z H3 => ∃ k, z = .bl k ∧ (if k = true then tc σ H3 fun w' H4 => r' y w' H4 Q else Q (.bl false) H3)) := ⟨fun h => h⟩
instance : Rd (rInt [.int i] H Q) (Q (.int i) H) := ⟨rInt_⟩
instance : Rd (rAbs [.int i] H Q) (Q (.int (if i < 0 then -i else i)) H) := ⟨rAbs_⟩
instance {to ti : TE} {t : TSet} : Rd (gSub to ti t v σ H QS) (to σ H fun o H1 => ti σ H1 fun i H2 => t o i v H2 fun H3 => QS σ H3) := ⟨fun h => h⟩
instance {T : String} {r : V → List V → Hp → VK → Prop} {to : TE} {t : TA} : Rd (tBM K T r to t σ H Q) (to σ H fun x H1 => tyV K T x H1 ∧ t σ H1 fun xs H2 => r x xs H2 Q) := ⟨fun h => h⟩
instance {T : String} {r : V → List V → Hp → VK → Prop} {to : TE} : Rd (tBM0 K T r to σ H Q) (to σ H fun x H1 => tyV K T x H1 ∧ r x [] H1 Q) := ⟨fun h => h⟩
instance {r : V → Option Int → Option Int → Hp → VK → Prop} {tl th : TO} : Rd (tSl r te tl th σ H Q) (te σ H fun x H1 => tl σ H1 fun l H2 => th σ H2 fun u H3 => r x l u H3 Q) := ⟨fun h => h⟩
instance : Rd (tNoPart σ H QO) (QO none H) := ⟨fun h => h⟩
instance : Rd (tPart te σ H QO) (te σ H fun x H1 => ∃ i, x = .int i ∧ QO (some i) H1) := ⟨fun h => h⟩
instance {wi : TI} : Rd (tFor wi g t D σ H) (wi σ H fun J H1 => ∃ W : Nat → Nat → L2.St → Hp → Prop, (∃ m, W 0 m σ H1) ∧ ∀ i m σ H, W i m σ H →
  (J.stop i H ∧ D.nx σ H) ∨ (J.go i H ∧ ∃ N : L2.St → Hp → Prop, (∀ σ' H', N σ' H' → ∃ m', m' < m ∧ W (i + 1) m' σ' H') ∧ ∀ x H', J.yld i H x H' → g x σ H' fun σ2 H2 => t { D with nx := N, ct := N, bk := D.nx } σ2 H2)) := ⟨fun h => h⟩
instance {ta : TA} : Rd (iRng1 ta σ H QI) (ta σ H fun vs H1 => ∃ j : Int, vs = [.int j] ∧ -(2 ^ 62) ≤ j ∧ j < 2 ^ 62 ∧ QI (Itr 0 j.toNat) H1) := ⟨fun h => h⟩
instance {ta : TA} : Rd (iRng2 ta σ H QI) (ta σ H fun vs H1 => ∃ i j : Int, vs = [.int i, .int j] ∧ (-(2 ^ 62) ≤ i ∧ i < 2 ^ 62 ∧ -(2 ^ 62) ≤ j ∧ j < 2 ^ 62) ∧ QI (Itr i (j - i).toNat) H1) := ⟨fun h => h⟩
instance : Rd (iList K te σ H QI) (te σ H fun x H1 => ∃ a, x = .ref a ∧ (∃ xs, SqL K H1 a xs) ∧ QI (Itl K a) H1) := ⟨fun h => h⟩
instance : Rd (iTup K te σ H QI) (te σ H fun x H1 => ∃ a, x = .ref a ∧ (∃ xs, SqT K H1 a xs) ∧ QI (Itt K a) H1) := ⟨fun h => h⟩
instance : Rd (rIsNone .non .non H Q) (Q (.bl true) H) := ⟨rIsN_n⟩
instance : Rd (rIsNone (.int i) .non H Q) (Q (.bl false) H) := ⟨rIsN_i⟩
instance {b : Bool} : Rd (rIsNone (.bl b) .non H Q) (Q (.bl false) H) := ⟨rIsN_b⟩
instance {b : Str} : Rd (rIsNone (.str b) .non H Q) (Q (.bl false) H) := ⟨rIsN_s⟩
instance {b : Addr} : Rd (rIsNone (.ref b) .non H Q) (Q (.bl false) H) := ⟨rIsN_r⟩
instance : Rd (rNotNone .non .non H Q) (Q (.bl false) H) := ⟨rNoN_n⟩
instance : Rd (rNotNone (.int i) .non H Q) (Q (.bl true) H) := ⟨rNoN_i⟩
instance {b : Bool} : Rd (rNotNone (.bl b) .non H Q) (Q (.bl true) H) := ⟨rNoN_b⟩
instance {b : Str} : Rd (rNotNone (.str b) .non H Q) (Q (.bl true) H) := ⟨rNoN_s⟩
instance {b : Addr} : Rd (rNotNone (.ref b) .non H Q) (Q (.bl true) H) := ⟨rNoN_r⟩
instance : Rd (rIsi K [.int i, .ty "int"] H Q) (Q (.bl true) H) := ⟨isiI kit_int_int⟩
instance : Rd (rIsi K [.int i, .ty "bool"] H Q) (Q (.bl false) H) := ⟨isiI kit_int_bool⟩
instance : Rd (rIsi K [.int i, .ty "str"] H Q) (Q (.bl false) H) := ⟨isiI kit_int_str⟩
instance : Rd (rIsi K [.int i, .ty "list"] H Q) (Q (.bl false) H) := ⟨isiI kit_int_list⟩
instance : Rd (rIsi K [.int i, .ty "tuple"] H Q) (Q (.bl false) H) := ⟨isiI kit_int_tuple⟩
instance {bb : Bool} : Rd (rIsi K [.bl bb, .ty "int"] H Q) (Q (.bl true) H) := ⟨isiB kit_bool_int⟩
instance {bb : Bool} : Rd (rIsi K [.bl bb, .ty "bool"] H Q) (Q (.bl true) H) := ⟨isiB kit_bool_bool⟩
instance {bb : Bool} : Rd (rIsi K [.bl bb, .ty "str"] H Q) (Q (.bl false) H) := ⟨isiB kit_bool_str⟩
instance {bb : Bool} : Rd (rIsi K [.bl bb, .ty "list"] H Q) (Q (.bl false) H) := ⟨isiB kit_bool_list⟩
instance {bb : Bool} : Rd (rIsi K [.bl bb, .ty "tuple"] H Q) (Q (.bl false) H) := ⟨isiB kit_bool_tuple⟩
instance {ss : Str} : Rd (rIsi K [.str ss, .ty "int"] H Q) (Q (.bl false) H) := ⟨isiS kit_str_int⟩
instance {ss : Str} : Rd (rIsi K [.str ss, .ty "bool"] H Q) (Q (.bl false) H) := ⟨isiS kit_str_bool⟩
instance {ss : Str} : Rd (rIsi K [.str ss, .ty "str"] H Q) (Q (.bl true) H) := ⟨isiS kit_str_str⟩
instance {ss : Str} : Rd (rIsi K [.str ss, .ty "list"] H Q) (Q (.bl false) H) := ⟨isiS kit_str_list⟩
instance {ss : Str} : Rd (rIsi K [.str ss, .ty "tuple"] H Q) (Q (.bl false) H) := ⟨isiS kit_str_tuple⟩
instance : Rd (rIsi K [.non, .ty "int"] H Q) (Q (.bl false) H) := ⟨isiN kit_NoneType_int⟩
instance : Rd (rIsi K [.non, .ty "bool"] H Q) (Q (.bl false) H) := ⟨isiN kit_NoneType_bool⟩
instance : Rd (rIsi K [.non, .ty "str"] H Q) (Q (.bl false) H) := ⟨isiN kit_NoneType_str⟩
instance : Rd (rIsi K [.non, .ty "list"] H Q) (Q (.bl false) H) := ⟨isiN kit_NoneType_list⟩
instance : Rd (rIsi K [.non, .ty "tuple"] H Q) (Q (.bl false) H) := ⟨isiN kit_NoneType_tuple⟩
theorem iteLit : True := trivial
instance {A B : Prop} {d : Decidable ((true) = true)} : Rd (@ite Prop ((true) = true) d A B) A := ⟨fun h => by rw [if_pos (show _ from by first | rfl | (intro z; cases z))]; exact h⟩
instance {A B : Prop} {d : Decidable ((false) = true)} : Rd (@ite Prop ((false) = true) d A B) B := ⟨fun h => by rw [if_neg (show _ from by first | rfl | (intro z; cases z))]; exact h⟩
instance {A B : Prop} {d : Decidable ((!true) = true)} : Rd (@ite Prop ((!true) = true) d A B) B := ⟨fun h => by rw [if_neg (show _ from by first | rfl | (intro z; cases z))]; exact h⟩
instance {A B : Prop} {d : Decidable ((!false) = true)} : Rd (@ite Prop ((!false) = true) d A B) A := ⟨fun h => by rw [if_pos (show _ from by first | rfl | (intro z; cases z))]; exact h⟩
instance {A B : Prop} {d : Decidable ((true == true) = true)} : Rd (@ite Prop ((true == true) = true) d A B) A := ⟨fun h => by rw [if_pos (show _ from by first | rfl | (intro z; cases z))]; exact h⟩
instance {A B : Prop} {d : Decidable ((!(true == true)) = true)} : Rd (@ite Prop ((!(true == true)) = true) d A B) B := ⟨fun h => by rw [if_neg (show _ from by first | rfl | (intro z; cases z))]; exact h⟩
instance {A B : Prop} {d : Decidable ((true == false) = true)} : Rd (@ite Prop ((true == false) = true) d A B) B := ⟨fun h => by rw [if_neg (show _ from by first | rfl | (intro z; cases z))]; exact h⟩
instance {A B : Prop} {d : Decidable ((!(true == false)) = true)} : Rd (@ite Prop ((!(true == false)) = true) d A B) A := ⟨fun h => by rw [if_pos (show _ from by first | rfl | (intro z; cases z))]; exact h⟩
instance {A B : Prop} {d : Decidable ((false == true) = true)} : Rd (@ite Prop ((false == true) = true) d A B) B := ⟨fun h => by rw [if_neg (show _ from by first | rfl | (intro z; cases z))]; exact h⟩
instance {A B : Prop} {d : Decidable ((!(false == true)) = true)} : Rd (@ite Prop ((!(false == true)) = true) d A B) A := ⟨fun h => by rw [if_pos (show _ from by first | rfl | (intro z; cases z))]; exact h⟩
instance {A B : Prop} {d : Decidable ((false == false) = true)} : Rd (@ite Prop ((false == false) = true) d A B) A := ⟨fun h => by rw [if_pos (show _ from by first | rfl | (intro z; cases z))]; exact h⟩
instance {A B : Prop} {d : Decidable ((!(false == false)) = true)} : Rd (@ite Prop ((!(false == false)) = true) d A B) B := ⟨fun h => by rw [if_neg (show _ from by first | rfl | (intro z; cases z))]; exact h⟩
end
end Bar

namespace Bar
open PySem PySem.W PySem.Calls PyProof.Rows
section
variable {prog : Program} {w : World} {A : Around} {E : Value → Shared → Prop} {s : Shared} {i : Int} {t : Tok} {x : Addr} {ob : Obj} {Q : Value → Shared → Prop}
theorem int_no_floordiv (hx : s.heap.get? x = some ob) (hd : ob.data = .plain) (h : Q .notImplemented s) : wpAny (model prog w) A (call (.builtin "int.__floordiv__") [.int i t, .ref x]) Q E s := by
  refine GQ.call_here PySem.F.slot_int_floordiv (typeIs_int _ _ _) PySem.F.entry_int_floordiv (PySem.F.args_int_floordiv_2 _ _) ?_
  obtain ⟨hp, g, d, tk, os⟩ := s
  obtain ⟨c, dd, dt, sl⟩ := ob
  simp only at hd
  subst hd
  wp_walk using AutoSeq1.wpAny_loadPart' hx
  exact h
theorem int_no_mod (hx : s.heap.get? x = some ob) (hd : ob.data = .plain) (h : Q .notImplemented s) : wpAny (model prog w) A (call (.builtin "int.__mod__") [.int i t, .ref x]) Q E s := by
  refine GQ.call_here PySem.F.slot_int_mod (typeIs_int _ _ _) PySem.F.entry_int_mod (PySem.F.args_int_mod_2 _ _) ?_
  obtain ⟨hp, g, d, tk, os⟩ := s
  obtain ⟨c, dd, dt, sl⟩ := ob
  simp only at hd
  subst hd
  wp_walk using AutoSeq1.wpAny_loadPart' hx
  exact h
theorem int_no_add (hx : s.heap.get? x = some ob) (hd : ob.data = .plain) (h : Q .notImplemented s) : wpAny (model prog w) A (call (.builtin "int.__add__") [.int i t, .ref x]) Q E s := by
  refine GQ.call_here PySem.F.slot_int_add (typeIs_int _ _ _) PySem.F.entry_int_add (PySem.F.args_int_add_2 _ _) ?_
  obtain ⟨hp, g, d, tk, os⟩ := s
  obtain ⟨c, dd, dt, sl⟩ := ob
  simp only at hd
  subst hd
  wp_walk using AutoSeq1.wpAny_loadPart' hx
  exact h
theorem int_no_mul (hx : s.heap.get? x = some ob) (hd : ob.data = .plain) (h : Q .notImplemented s) : wpAny (model prog w) A (call (.builtin "int.__mul__") [.int i t, .ref x]) Q E s := by
  refine GQ.call_here PySem.F.slot_int_mul (typeIs_int _ _ _) PySem.F.entry_int_mul (PySem.F.args_int_mul_2 _ _) ?_
  obtain ⟨hp, g, d, tk, os⟩ := s
  obtain ⟨c, dd, dt, sl⟩ := ob
  simp only at hd
  subst hd
  wp_walk using AutoSeq1.wpAny_loadPart' hx
  exact h
end
theorem fillsR {M : Model} {K : Frag} {C f : Addr} {h : Heap} {nm : String} {cd : ClassData} {rest : List Value} {fo : Option Value} (X : K.In h) (hc : clsIn K C = some cd) (hm : cd.mro = .ref C :: rest)
    (hfo : findIn K (.ref C) (PySem.dunder nm) = some fo) (ho : fo = none ∨ ∃ g : Addr, fo = some (.ref g)) (hr : findIn K (.ref C) (dunderR nm) = some (some (.ref f))) : Looks M h (fillsNumberSlot (.ref C) nm) true := by
  intro A Q E s k q
  unfold fillsNumberSlot
  refine wpAny_bind ((looks_clsIn X hc).andThen (f := fun cd => pure cd.mro) .now A _ E s k ?_)
  rw [hm, List.anyM_cons]
  refine wpAny_bind ?_
  show wpAny M A (List.anyM _ [PySem.dunder nm, dunderR nm]) _ _ _
  rw [List.anyM_cons]
  refine wpAny_bind (wpAny_bind (looks_findIn X hfo A _ E s k ?_))
  rcases ho with rfl | ⟨g, rfl⟩
  · dsimp only
    refine wpAny_pure ?_
    rw [if_neg (by simp), List.anyM_cons]
    refine wpAny_bind (wpAny_bind (looks_findIn X hr A _ E s k ?_))
    dsimp only
    rw [if_pos (show (!ownNameWrapper (.ref f) (dunderR nm)) = true from rfl)]
    refine wpAny_pure ?_
    rw [if_pos rfl]
    refine wpAny_pure ?_
    rw [if_pos rfl]
    exact wpAny_pure q
  · dsimp only
    rw [if_pos (show (!ownNameWrapper (.ref g) (PySem.dunder nm)) = true from rfl)]
    refine wpAny_pure ?_
    rw [if_pos rfl]
    refine wpAny_pure ?_
    rw [if_pos rfl]
    exact wpAny_pure q
theorem own_right {prog : Program} {w : World} {A : Around} {E : Value → Shared → Prop} {s : Shared} {K : Frag} {x C L f : Addr} {h₀ : Heap} {m : Str → Option Value} {ox : Obj} {od : Option Obj} {i : Int} {t : Tok} {op : Operator} {fo : Option Value} {idl : String} {Q : Value → Shared → Prop}
    (F : Fr h₀ L s.heap m) (X₀ : K.In h₀) (I : InstAt s.heap x ox C od) (hc : selfFirst K C = true) (hfo : findIn K (.ref C) (PySem.dunder op.info.2) = some fo) (ho : fo = none ∨ ∃ g : Addr, fo = some (.ref g))
    (hr : findIn K (.ref C) (dunderR op.info.2) = some (some (.ref f))) (hf : isFn K (.ref f) = true) (hsub : subIn K (.ref C) (.type "int") = some false)
    (fillsT : fillsNumberSlot (.type "int") op.info.2 = pure true) (slot : Slot "int" (PySem.dunder op.info.2) idl)
    (dec : ∀ Q' : Value → Shared → Prop, Q' .notImplemented s → wpAny (model prog w) A (call (.builtin idl) [.int i t, .ref x]) Q' E s)
    (h : wpAny (model prog w) A (call (.ref f) [.ref x, .int i t]) (PySem.W.CmpBack Q) E s) : wpAny (model prog w) A (binaryOp op (.int i t) (.ref x)) Q E s := by
  have X := X₀.keeps F.keep
  obtain ⟨cd, rest, hcd, hm⟩ := ksp_first hc
  rcases hi : op.info with ⟨sym, nm'⟩
  rw [hi] at hfo hr fillsT slot
  dsimp only at hfo hr fillsT slot
  have one := ksp_try X I hr hf h
  have two : wpAny (model prog w) A (tryMethod (.int i t) (PySem.dunder nm') (.ref x)) (fun r s' => r = none ∧ s' = s) E s :=
    wpAny_tryMethod_declines (typeIs_int _ _ _) slot (dec _ ⟨rfl, rfl, rfl⟩)
  obtain ⟨hh, g, d, tt, os⟩ := s
  have L2 : Looks (model prog w) hh (typeOf (.ref x)) (.ref C) := I.type
  have L3 : Looks (model prog w) hh (fillsNumberSlot (.ref C) nm') true := fillsR X hcd hm hfo ho hr
  have L5 : Looks (model prog w) hh (isSubtype (.ref C) (.type "int")) false := looks_subIn X hsub
  have hne : (Value.type "int" == Value.ref C) = false := Bool.eq_false_iff.mpr fun q => by cases beq_iff_eq.mp q
  have hpy : numberSlotInPython (.type "int") nm' = pure false := rfl
  simp only [binaryOp, hi]
  refine wpAny_holding (wpAny_bind ?_)
  unfold binaryOp1
  refine wpAny_bind (wpAny_typeOf (typeIs_int _ _ _) (wpAny_bind (L2.at (wpAny_bind (wpAny_of_eq fillsT ?_)))))
  simp only [hne, Bool.false_eq_true, if_false]
  refine wpAny_bind (L3.at ?_)
  simp only [Bool.and_self, if_true]
  refine wpAny_bind (L5.at ?_)
  simp only [Bool.false_eq_true, if_false, pure_bind, Bool.not_false, Bool.and_self, if_true, hpy]
  refine wpAny_bind (wpAny_mono two (fun r s1 hr1 => ?_) fun _ _ e => e)
  obtain ⟨rfl, rfl⟩ := hr1
  dsimp only
  refine wpAny_bind (wpAny_mono one (fun r s2 hr2 => ?_) fun _ _ e => e)
  obtain ⟨v, rfl, hq⟩ := hr2
  dsimp only
  exact wpAny_bind (wpAny_rule (wpAny_pure (wpAny_pure hq)))
end Bar

namespace Bar
open PySem L2
theorem relV_back {v : V} {u : Value} {Q : Value → Shared → Prop} {s : Shared} (r : RelV v u) (h : Q u s) : PySem.W.CmpBack Q u s := by
  cases v with
  | non => cases (show u = Value.none from r); exact h
  | bl b => cases (show u = Value.bool b from r); exact h
  | int i => obtain ⟨t, rfl⟩ := (show ∃ t, u = Value.int i t from r); exact h
  | str i => obtain ⟨t, rfl⟩ := (show ∃ t, u = Value.str i t from r); exact h
  | byt i => obtain ⟨t, rfl⟩ := (show ∃ t, u = Value.bytes i t from r); exact h
  | flt i => obtain ⟨t, rfl⟩ := (show ∃ t, u = Value.float i t from r); exact h
  | ref i => cases (show u = Value.ref i from r); exact h
  | ty n => cases (show u = Value.type n from r); exact h
def oi (op : Operator) : String := op.info.2
/-- what the written part says of an own operator beside an int -/
structure OwnL (K : PySem.W.Frag) (C : Addr) (op : Operator) (f : Addr) : Prop where
  sf : PySem.W.selfFirst K C = true
  find : PySem.W.findIn K (.ref C) (PySem.dunder op.info.2) = some (some (.ref f))
  fn : PySem.W.isFn K (.ref f) = true
  rr : ∃ rc, PySem.W.findIn K (.ref C) (dunderR op.info.2) = some rc ∧ (rc = none ∨ ∃ g : Addr, rc = some (.ref g))
  i1 : ∃ fo, PySem.W.findIn K (.type "int") (PySem.dunder op.info.2) = some fo
  i2 : ∃ ro, PySem.W.findIn K (.type "int") (dunderR op.info.2) = some ro
  sub : PySem.W.subIn K (.type "int") (.ref C) = some false
structure OwnR (K : PySem.W.Frag) (C : Addr) (op : Operator) (f : Addr) : Prop where
  sf : PySem.W.selfFirst K C = true
  find : PySem.W.findIn K (.ref C) (dunderR op.info.2) = some (some (.ref f))
  fn : PySem.W.isFn K (.ref f) = true
  ll : ∃ rc, PySem.W.findIn K (.ref C) (PySem.dunder op.info.2) = some rc ∧ (rc = none ∨ ∃ g : Addr, rc = some (.ref g))
  sub : PySem.W.subIn K (.ref C) (.type "int") = some false
/-- how an int declines -/
structure IntNo (op : Operator) : Prop where
  fills : fillsNumberSlot (.type "int") op.info.2 = pure true
  ex : ∃ idl, Slot "int" (PySem.dunder op.info.2) idl ∧ ∀ {prog : Program} {w : World} {A : Around} {E : Value → Shared → Prop} {s : Shared} {i : Int} {t : Tok} {x : Addr} {ob : Obj} {Q : Value → Shared → Prop}, s.heap.get? x = some ob → ob.data = .plain → Q .notImplemented s →
    wpAny (model prog w) A (call (.builtin idl) [.int i t, .ref x]) Q E s
theorem no_floordiv : IntNo .FloorDiv := ⟨PySem.F.fills_int_floordiv, _, PySem.F.slot_int_floordiv, fun hx hd h => int_no_floordiv hx hd h⟩
theorem no_mod : IntNo .Mod := ⟨PySem.F.fills_int_mod, _, PySem.F.slot_int_mod, fun hx hd h => int_no_mod hx hd h⟩
theorem no_add : IntNo .Add := ⟨PySem.F.fills_int_add, _, PySem.F.slot_int_add, fun hx hd h => int_no_add hx hd h⟩
theorem no_mul : IntNo .Mult := ⟨PySem.F.fills_int_mul, _, PySem.F.slot_int_mul, fun hx hd h => int_no_mul hx hd h⟩
/-- o op n, n op o -/
def rOwnL (C : Addr) (sp : Sp) : R2 := fun x y H Q => ∃ a dx fs i, x = .ref a ∧ y = .int i ∧ H a = some (.ins C dx fs) ∧ sp [x, y] H Q E0
def rOwnR (C : Addr) (sp : Sp) : R2 := fun x y H Q => ∃ a dx fs i, y = .ref a ∧ x = .int i ∧ H a = some (.ins C dx fs) ∧ sp [y, x] H Q E0
structure OprL (P : Program) (w : World) (K : PySem.W.Frag) (mg : Str → Option Value) (base : Heap) (C : Addr) (op : Operator) (ps : List Str) (k : Nat) (sp : Sp) : Prop where
  ex : ∃ (f : Addr) (fd : FuncData), OwnL K C op f ∧ Binds K fd ps [] ∧ FnOk P w K mg base CX0 k f fd ps sp
structure OprR (P : Program) (w : World) (K : PySem.W.Frag) (mg : Str → Option Value) (base : Heap) (C : Addr) (op : Operator) (ps : List Str) (k : Nat) (sp : Sp) : Prop where
  ex : ∃ (f : Addr) (fd : FuncData), OwnR K C op f ∧ Binds K fd ps [] ∧ FnOk P w K mg base CX0 k f fd ps sp
section
variable {X : Cx} {C f : Addr} {ps : List Str} {k : Nat} {sp : Sp} {op : Operator}
theorem op_L (F : OprL X.prog X.w X.K X.mg X.base C op ps k sp) (hr : Room k X.A) : OpR X (binaryOp op) (rOwnL C sp) := by
  intro pins s σ H x y v u Q I rx ry h
  obtain ⟨f, fd, O, hb, ok⟩ := F.ex
  obtain ⟨a, dx, fs, i, rfl, rfl, ea, q⟩ := h
  obtain rfl : v = Value.ref a := rx
  obtain ⟨t, rfl⟩ := (show ∃ t, u = Value.int i t from ry)
  obtain ⟨mA, O', _⟩ := ins_get I.hok ea
  obtain ⟨od, J, _⟩ := O'.look
  obtain ⟨m, Fr⟩ := I.fr
  obtain ⟨rc, hrc, hp⟩ := O.rr
  obtain ⟨fo, h1⟩ := O.i1
  obtain ⟨ro, h2⟩ := O.i2
  refine PySem.W.ksp_binT Fr I.mod.kin J rfl O.sf O.find O.fn hrc hp h1 h2 O.sub ?_
  refine thn (run_fn (us := [.ref a, .int i t]) (vs := [.ref a, .int i]) ok hr hb .nil pass0 I (.cons rfl (.cons ⟨t, rfl⟩ .nil)) q) fun u' s' hq => ?_
  obtain ⟨v', H', I', rv, hv⟩ := hq
  exact relV_back rv ⟨v', H', I', rv, hv⟩
theorem op_R (F : OprR X.prog X.w X.K X.mg X.base C op ps k sp) (N : IntNo op) (hr : Room k X.A) : OpR X (binaryOp op) (rOwnR C sp) := by
  intro pins s σ H x y v u Q I rx ry h
  obtain ⟨f, fd, O, hb, ok⟩ := F.ex
  obtain ⟨a, dx, fs, i, rfl, rfl, ea, q⟩ := h
  obtain rfl : u = Value.ref a := ry
  obtain ⟨t, rfl⟩ := (show ∃ t, v = Value.int i t from rx)
  obtain ⟨mA, O', _⟩ := ins_get I.hok ea
  obtain ⟨od, J, _⟩ := O'.look
  obtain ⟨m, Fr⟩ := I.fr
  obtain ⟨rc, hrc, hp⟩ := O.ll
  obtain ⟨idl, slot, dec⟩ := N.ex
  refine own_right Fr I.mod.kin J O.sf hrc hp O.find O.fn O.sub N.fills slot (fun Q' hq => dec O'.obj rfl hq) ?_
  refine thn (run_fn (us := [.ref a, .int i t]) (vs := [.ref a, .int i]) ok hr hb .nil pass0 I (.cons rfl (.cons ⟨t, rfl⟩ .nil)) q) fun u' s' hq => ?_
  obtain ⟨v', H', I', rv, hv⟩ := hq
  exact relV_back rv ⟨v', H', I', rv, hv⟩
end
end Bar

namespace Bar
open PySem L2
section
variable {σ τ : L2.St} {H : Hp} {Q : VK} {g : TG} {tt : TT} {te : TE} {vs : List Nat}
instance {wi : TI} : Rd (tLc wi g tt te vs σ H Q) (wi σ H fun J H1 => ∀ D, H1 D = none → ∃ W : Nat → Nat → Hp → Prop, (∃ m, W 0 m (upd H1 D (.lst []))) ∧ ∀ i m H, W i m H →
  (J.stop i H ∧ Q (.ref D) H) ∨ (J.go i H ∧ ∃ Nx : Hp → Prop, (∀ H', Nx H' → ∃ m', m' < m ∧ W (i + 1) m' H') ∧ ∀ x H', J.yld i H x H' → g x (wipe σ vs) H' fun σ2 H2 => wipe σ2 vs = wipe σ vs ∧ tt σ2 H2 fun b H3 =>
    if b = true then te σ2 H3 fun y H4 => ∃ acc, H4 D = some (.lst acc) ∧ acc.length < sizeLine ∧ Nx (upd H4 D (.lst (acc ++ [y]))) else Nx H3)) := ⟨fun h => h⟩
instance {QB : Bool → Hp → Prop} : Rd (tYes σ H QB) (QB true H) := ⟨fun h => h⟩
/-- a comprehension over range(j) -/
theorem lcR {j : Int} {R : Addr → Hp → Prop} (n : Nat) (e : j.toNat = n) (ew : wipe σ vs = τ) (b : -(2 ^ 62) ≤ j ∧ j < 2 ^ 62)
    (h : ∀ D, H D = none → ∃ Pv : Nat → Hp → Prop, Pv 0 (upd H D (.lst [])) ∧
      (∀ i H', i < n → Pv i H' → g (.int (i : Int)) τ H' fun σ2 H2 => wipe σ2 vs = τ ∧ tt σ2 H2 fun b H3 =>
        if b = true then te σ2 H3 fun y H4 => ∃ acc, H4 D = some (.lst acc) ∧ acc.length < sizeLine ∧ Pv (i + 1) (upd H4 D (.lst (acc ++ [y]))) else Pv (i + 1) H3) ∧ ∀ H', Pv n H' → R D H') :
    ∃ j', [V.int j] = [V.int j'] ∧ -(2 ^ 62) ≤ j' ∧ j' < 2 ^ 62 ∧ ∀ D, H D = none → ∃ W : Nat → Nat → Hp → Prop, (∃ m, W 0 m (upd H D (.lst []))) ∧ ∀ i m H, W i m H →
      ((Itr 0 j'.toNat).stop i H ∧ R D H) ∨ ((Itr 0 j'.toNat).go i H ∧ ∃ Nx : Hp → Prop, (∀ H', Nx H' → ∃ m', m' < m ∧ W (i + 1) m' H') ∧ ∀ x H', (Itr 0 j'.toNat).yld i H x H' → g x (wipe σ vs) H' fun σ2 H2 => wipe σ2 vs = wipe σ vs ∧ tt σ2 H2 fun b H3 =>
        if b = true then te σ2 H3 fun y H4 => ∃ acc, H4 D = some (.lst acc) ∧ acc.length < sizeLine ∧ Nx (upd H4 D (.lst (acc ++ [y]))) else Nx H3) := by
  subst e ew
  refine ⟨j, rfl, b.1, b.2, fun D hD => ?_⟩
  obtain ⟨Pv, h0, hs, hd⟩ := h D hD
  refine lc_range (lo := 0) (n := j.toNat) Pv h0 (fun i H' hi p => ?_) hd
  have e : (0 : Int) + (i : Int) = (i : Int) := Int.zero_add _
  rw [e]
  exact hs i H' hi p
/-- over a list that stands still -/
theorem lcL {K : PySem.W.Frag} {a : Addr} {xs : List V} {R : Addr → Hp → Prop} (ew : wipe σ vs = τ) (hx : SqL K H a xs)
    (h : ∀ D, H D = none → ∃ Pv : Nat → Hp → Prop, Pv 0 (upd H D (.lst [])) ∧ (∀ i H', i ≤ xs.length → Pv i H' → SqL K H' a xs) ∧
      (∀ i x H', xs[i]? = some x → Pv i H' → g x τ H' fun σ2 H2 => wipe σ2 vs = τ ∧ tt σ2 H2 fun b H3 =>
        if b = true then te σ2 H3 fun y H4 => ∃ acc, H4 D = some (.lst acc) ∧ acc.length < sizeLine ∧ Pv (i + 1) (upd H4 D (.lst (acc ++ [y]))) else Pv (i + 1) H3) ∧ ∀ H', Pv xs.length H' → R D H') :
    ∃ a', V.ref a = V.ref a' ∧ (∃ xs, SqL K H a' xs) ∧ ∀ D, H D = none → ∃ W : Nat → Nat → Hp → Prop, (∃ m, W 0 m (upd H D (.lst []))) ∧ ∀ i m H, W i m H →
      ((Itl K a').stop i H ∧ R D H) ∨ ((Itl K a').go i H ∧ ∃ Nx : Hp → Prop, (∀ H', Nx H' → ∃ m', m' < m ∧ W (i + 1) m' H') ∧ ∀ x H', (Itl K a').yld i H x H' → g x (wipe σ vs) H' fun σ2 H2 => wipe σ2 vs = wipe σ vs ∧ tt σ2 H2 fun b H3 =>
        if b = true then te σ2 H3 fun y H4 => ∃ acc, H4 D = some (.lst acc) ∧ acc.length < sizeLine ∧ Nx (upd H4 D (.lst (acc ++ [y]))) else Nx H3) := by
  subst ew
  refine ⟨a, rfl, ⟨xs, hx⟩, fun D hD => ?_⟩
  obtain ⟨Pv, h0, hl, hs, hd⟩ := h D hD
  exact lc_list Pv h0 hl hs hd
theorem rSum_ {K : PySem.W.Frag} {a : Addr} {ns : List Int} (h1 : SqL K H a (ns.map V.int)) (h : Q (.int ns.sum) H) : rSum K [.ref a] H Q := ⟨a, ns, rfl, h1, h⟩
theorem sum_ones : ∀ n : Nat, (List.replicate n (1 : Int)).sum = (n : Int)
  | 0 => rfl
  | n + 1 => by
    rw [List.replicate_succ, List.sum_cons, sum_ones n]
    omega
end
end Bar

namespace Bar
open PySem PySem.W PySem.Calls PyProof.Rows
theorem ne_own {prog : Program} {w : World} {A : Around} {E : Value → Shared → Prop} {s : Shared} {K : Frag} {x C L f : Addr} {h₀ : Heap} {m : Str → Option Value} {ox : Obj} {od : Option Obj} {b tb : Value} {Q : Value → Shared → Prop}
    (hu : A.units + 1 < cLine) (F : Fr h₀ L s.heap m) (X₀ : K.In h₀) (I : InstAt s.heap x ox C od) (hb : Looks (model prog w) s.heap (typeOf b) tb) (hn : notFirst K C tb = true)
    (hne : findIn K (.ref C) "__ne__" = some (some (.builtin "object.__ne__"))) (heq : findIn K (.ref C) "__eq__" = some (some (.ref f))) (hf : isFn K (.ref f) = true) (hm : mroIn K C (.type "object") = some true)
    (h : wpAny (model prog w) A.in1 (call (.ref f) [.ref x, b]) (fun r s' => ∃ c, r = .bool c ∧ Q (.bool (!c)) s') E s) : wpAny (model prog w) A (richCompare .NotEq (.ref x) b) Q E s := by
  have X := X₀.keeps F.keep
  have one : wpAny (model prog w) A (tryCompare (.ref x) "__ne__" b) (fun r s' => ∃ v, r = some v ∧ Q v s') E s := by
    have sub : Looks (model prog w) s.heap (isInstance (.ref x) (.type "object")) true := I.type.andThen (looks_mroIn X hm)
    have back : wpAny (model prog w) A (call (.builtin "object.__ne__") [.ref x, b]) (fun v s' => ∃ c, v = .bool c ∧ Q (.bool c) s') E s := by
      refine wpAny_call (codeAny_call_builtin PySem.F.cmp_object.ne.plain PySem.F.cmpEntry_ne (@PySem.W.check_slot (model prog w) _ _ s "object.__ne__" "object" "__ne__" (.ref x) [b] [] _ PySem.F.cmpKind_ne PySem.F.cmpSplit_ne sub (PySem.F.cmpArgs_ne _ _) ?_))
      unfold Builtin.«object.__ne__»
      refine wpAny_bind (wpAny_of_eq (a := ((Value.ref x : Value), [b])) (by first | rfl | (simp only [slotArgs]; rfl)) ?_)
      refine wpAny_bind (wpAny_cRoomFor hu ?_)
      refine wpAny_bind (ifBound_K X I heq hf (wpAny_mono h (fun v s' hv => ?_) fun _ _ e => e))
      obtain ⟨c, rfl, q⟩ := hv
      dsimp only
      refine wpAny_bind (wpAny_truthy_bool ?_)
      exact wpAny_pure ⟨!c, rfl, q⟩
    simp only [tryCompare, callSpecialIfBound?, bindSpecialIfBound?]
    refine wpAny_bind (wpAny_holding (wpAny_bind (wpAny_bind (wpAny_bind (I.type.here ((looks_findIn X hne).here ?_))))))
    simp only [PySem.F.cmp_object.ne.bind]
    refine wpAny_bind (wpAny_askSetting (wpAny_ite ?_))
    have fin : wpAny (model prog w) A (call (.builtin "object.__ne__") ([.ref x] ++ [b]) >>= fun v => pure (some v)) (fun r s' => wpAny (model prog w) A (match r with | some .notImplemented => pure none | none => pure none | some v => pure (some v)) (fun r s' => ∃ v, r = some v ∧ Q v s') E s') E s :=
      wpAny_bind (wpAny_mono back (fun v s' hv => by
        obtain ⟨c, rfl, q⟩ := hv
        exact wpAny_pure (wpAny_pure ⟨_, rfl, q⟩)) fun _ _ e => e)
    split
    · exact wpAny_bind (wpAny_pure (wpAny_pure fin))
    · exact wpAny_tryCatch (wpAny_bind (wpAny_pure (wpAny_pure fin)))
  unfold richCompare
  simp only [oneThing_ref]
  refine wpAny_holding (wpAny_bind (wpAny_cRoomFor (by omega) ?_))
  refine wpAny_bind (I.type.here (wpAny_bind (hb.here ?_)))
  split
  · rename_i q
    have e : subIn K tb (.ref C) = some false := by
      rcases Bool.or_eq_true_iff.mp hn with e | e
      · rw [beq_iff_eq.mp e] at q; simp at q
      · exact beq_iff_eq.mp e
    refine wpAny_bind ((looks_subIn X e).here ?_)
    simp only [Bool.false_eq_true, if_false]
    refine wpAny_bind (wpAny_mono one (fun r s' z => ?_) fun _ _ e => e)
    obtain ⟨v, rfl, hq⟩ := z
    exact wpAny_pure hq
  · refine wpAny_bind (wpAny_pure ?_)
    simp only [Bool.false_eq_true, if_false]
    refine wpAny_bind (wpAny_mono one (fun r s' z => ?_) fun _ _ e => e)
    obtain ⟨v, rfl, hq⟩ := z
    exact wpAny_pure hq
end Bar

namespace Bar
open PySem L2
structure OwnEq (K : PySem.W.Frag) (C f : Addr) : Prop where
  eq : PySem.W.findIn K (.ref C) "__eq__" = some (some (.ref f))
  fn : PySem.W.isFn K (.ref f) = true
  ne : PySem.W.findIn K (.ref C) "__ne__" = some (some (.builtin "object.__ne__"))
  ob : PySem.W.mroIn K C (.type "object") = some true
def rOwnEq (K : PySem.W.Frag) (C : Addr) (neg : Bool) (sp : Sp) : R2 := fun x y H Q => ∃ a dx fs t, x = .ref a ∧ H a = some (.ins C dx fs) ∧ TyX K H y t ∧ PySem.W.notFirst K C t = true ∧ sp [x, y] H (fun v H' => ∃ c, v = .bl c ∧ Q (.bl (if neg then !c else c)) H') E0
structure OprEq (P : Program) (w : World) (K : PySem.W.Frag) (mg : Str → Option Value) (base : Heap) (C : Addr) (ps : List Str) (k : Nat) (sp : Sp) : Prop where
  ex : ∃ (f : Addr) (fd : FuncData), OwnEq K C f ∧ Binds K fd ps [] ∧ FnOk P w K mg base CX0 k f fd ps sp
section
variable {X : Cx} {C : Addr} {ps : List Str} {k : Nat} {sp : Sp}
theorem op_Eq (F : OprEq X.prog X.w X.K X.mg X.base C ps k sp) (hr : Room k X.A) : OpR X (compareOp .Eq) (rOwnEq X.K C false sp) := by
  intro pins s σ H x y v u Q I rx ry h
  obtain ⟨f, fd, O, hb, ok⟩ := F.ex
  obtain ⟨a, dx, fs, t, rfl, ea, ty, hn, q⟩ := h
  obtain rfl : v = Value.ref a := rx
  obtain ⟨mA, O', _⟩ := ins_get I.hok ea
  obtain ⟨od, J, _⟩ := O'.look
  obtain ⟨m, Fr⟩ := I.fr
  obtain ⟨Pz, Z, p, _⟩ := kit_of I ry ty
  show wpAny _ _ (richCompare .Eq (.ref a) u) _ _ _
  refine PySem.W.cmp_K (op := .Eq) hr.units0 Fr I.mod.kin J (Z.ty _ _ I.kIn p) hn O.eq O.fn ?_
  refine thn (run_fn (us := [.ref a, u]) (vs := [.ref a, y]) ok hr hb .nil pass0 I (.cons rfl (.cons ry .nil)) q) fun u' s' hq => ?_
  obtain ⟨v', H', I', rv, hv⟩ := hq
  obtain ⟨c, rfl, q'⟩ := hv
  exact relV_back rv ⟨_, H', I', rv, q'⟩
theorem op_Ne (F : OprEq X.prog X.w X.K X.mg X.base C ps k sp) (hr : Room (k + 1) X.A) : OpR X (compareOp .NotEq) (rOwnEq X.K C true sp) := by
  intro pins s σ H x y v u Q I rx ry h
  obtain ⟨f, fd, O, hb, ok⟩ := F.ex
  obtain ⟨a, dx, fs, t, rfl, ea, ty, hn, q⟩ := h
  obtain rfl : v = Value.ref a := rx
  obtain ⟨mA, O', _⟩ := ins_get I.hok ea
  obtain ⟨od, J, _⟩ := O'.look
  obtain ⟨m, Fr⟩ := I.fr
  obtain ⟨Pz, Z, p, _⟩ := kit_of I ry ty
  show wpAny _ _ (richCompare .NotEq (.ref a) u) _ _ _
  refine ne_own (by have := hr.units; omega) Fr I.mod.kin J (Z.ty _ _ I.kIn p) hn O.ne O.eq O.fn O.ob ?_
  have r2 : Vals [V.ref a, y] [Value.ref a, u] := .cons rfl (.cons ry .nil)
  have hl : ([Value.ref a, u] ++ ([] : List Value)).length = ps.length := by
    have e := ok.len _ _ _ _ q
    rw [← e]
    rfl
  have bnd : BindsTo s fd ⟨[Value.ref a, u], []⟩ (ps.zip [Value.ref a, u]) := by
    have e := hb s [Value.ref a, u] I.kIn hl
    rwa [List.append_nil] at e
  have run := ok.run X.A.in1 X.stack s H ⟨[Value.ref a, u], []⟩ [Value.ref a, u] [V.ref a, y] _ E0 hr.in1 I.env0.in1 bnd r2 q
  refine wpAny_call (codeAny_mono run fun r s' hq => ?_)
  cases r with
  | error e => exact False.elim hq
  | ok fl =>
    cases fl with
    | ret u' =>
      obtain ⟨v', H', I', rv, c, ev, q'⟩ := I.after hq
      subst ev
      exact ⟨c, rv, .bl (!c), H', I', rfl, q'⟩
    | next => exact False.elim hq
    | brk => exact False.elim hq
    | cont => exact False.elim hq
end
end Bar

set_option Elab.async false
set_option linter.all false
set_option maxRecDepth 100000
set_option maxHeartbeats 4000000
namespace Bar
open PySem L2
/-! ### own errors: their making -/
/-- an own error class, made by its name; sp: what its __init__ keeps -/
structure Err (P : Program) (w : World) (K : PySem.W.Frag) (mg : Str → Option Value) (base : Heap) (x : Str) (C : Addr) (ps : List Str) (k : Nat) (sp : Sp) : Prop where
  ex : ∃ (f : Addr) (fd : FuncData), mg x = some (.ref C) ∧ OexC K C ∧ PySem.W.findIn K (.ref C) "__init__" = some (some (.ref f)) ∧ PySem.W.typeIn K (.ref f) = some (.type "function") ∧ Binds K fd ps [] ∧ FnOk P w K mg base CX0 k f fd ps sp
/-- the base class's own name, and its __init__ -/
structure EBase (K : PySem.W.Frag) (mg : Str → Option Value) (bn : Str) (B : Addr) : Prop where
  g : mg bn = some (.ref B)
  r : ClX.CRead K B (.type "type")
  v : PySem.W.findCls K (.ref B) (.type "type") "__init__" = some (.val (.builtin "ValueError.__init__"))
section
variable {X : Cx} {B C : Addr} {x bn : Str} {k : Nat} {sp : Sp} {ps : List Str} {e : Expr} {es : List Expr} {ta : TA} {p p1 p2 pos : Pos}
theorem pmk_err (F : Err X.prog X.w X.K X.mg X.base x C ps k sp) (hr : Room (k + 1) X.A) (hg : Gl X x) (ha : PA X (e :: es) ta) (hdb : (x == ("__debug__" : Str)) = false := by decide)
    (he : starEach (e :: es) X.env = (false, eval e X.env) :: starEach es X.env := by rfl) (hpl : (backTo pos (starEach es X.env)).any (·.1) = false := by rfl) : PMk X (.Call (.Name x p) (e :: es) [] pos) (tMkO C sp [] ta) := by
  obtain ⟨f, fd, hm, T, iC, tI, hb, ok⟩ := F.ex
  exact pmk_oex T iC tI ok hr hb .nil (fun _ _ _ _ _ _ _ z => z.elim) hg hm ha hdb he hpl
theorem pe_baseInit {pl : Sem Bool} (N : EBase X.K X.mg bn B) (hg : Gl X bn) (ha : PA X (e :: es) ta) (hdb : (bn == ("__debug__" : Str)) = false := by decide)
    (hc : eval (.Call (.Attribute (.Name bn p1) "__init__" p2) (e :: es) [] pos) X.env = (do
      let ov ← eval (.Name bn p1) X.env; standAt p2.atName
      let (f, first) ← holding [ov] (getMethod ov "__init__" pl)
      callWith pos f first (backTo pos (starEach (e :: es) X.env)) (backToKw pos (keywordEach [] X.env))) := by rfl)
    (he : starEach (e :: es) X.env = (false, eval e X.env) :: starEach es X.env := by rfl) (hpl : (backTo pos (starEach es X.env)).any (·.1) = false := by rfl) :
    PE X (.Call (.Attribute (.Name bn p1) "__init__" p2) (e :: es) [] pos) (tVeI X.K ta) := ⟨fun pins s σ H Q I h => by
  refine PySem.W.methodCall_KW (pl := pl) (ld_glob I hg N.g ?_ hdb) hc
  refine PySem.W.method_cls I.kIn N.r.ga (PySem.W.cls_value I.kIn N.r.rd N.v rfl ?_)
  show wpAny _ _ (callWith pos (.builtin "ValueError.__init__") [] (backTo pos (starEach (e :: es) X.env)) []) _ _ _
  have I' := I.tok (s.toks + 1)
  refine PyProof.Rows.callWith_method1 (thn (ha.run pos pins _ σ H _ I' h) fun us s1 hs => ?_) he hpl
  obtain ⟨vs, H1, J, rv, a, C, ws, ev, hl, T, ea, q⟩ := hs
  subst ev
  cases rv with
  | cons ra rw' =>
    cases ra
    refine oinit_ok T J ea ?_ fun s' J' => ⟨.non, H1, J', rfl, q⟩
    rw [← Paired.length rw', sizeLine_eq]
    omega⟩
end

/-! ### defs that raise, called where what they raise is taken -/
structure FnX (P : Program) (w : World) (K : PySem.W.Frag) (mg : Str → Option Value) (base : Heap) (x : Str) (ps : List Str) (dvs : List V) (k : Nat) (sp : Sp) : Prop where
  ex : ∃ (f : Addr) (fd : FuncData) (ds : List Value), mg x = some (.ref f) ∧ PySem.W.keepIn K (.ref f) = true ∧ Binds K fd ps ds ∧ Vals dvs ds ∧ FnOk P w K mg base (L2.CX P w) k f fd ps sp
structure MadeX (P : Program) (w : World) (K : PySem.W.Frag) (mg : Str → Option Value) (base : Heap) (x : Str) (C : Addr) (ps : List Str) (dvs : List V) (k : Nat) (sp : Sp) : Prop where
  ex : ∃ (f : Addr) (fd : FuncData) (ds : List Value), mg x = some (.ref C) ∧ Mk K C f ∧ Binds K fd ps ds ∧ Vals dvs ds ∧ FnOk P w K mg base (L2.CX P w) k f fd ps sp
structure MthX (P : Program) (w : World) (K : PySem.W.Frag) (mg : Str → Option Value) (base : Heap) (C : Addr) (m : Str) (ps : List Str) (dvs : List V) (k : Nat) (sp : Sp) : Prop where
  cl : Cls K C
  ex : ∃ (f : Addr) (fd : FuncData) (ds : List Value), Meth K C m f ∧ Binds K fd ps ds ∧ Vals dvs ds ∧ FnOk P w K mg base (L2.CX P w) k f fd ps sp
/-- what is raised, wished for at the slots as they stand -/
def wAt (W : WX) (σ : L2.St) : XK := fun cls d H => W cls d σ H
def tCallX (sp : Sp) (dvs : List V) (W : WX) (t : TA) : TE := fun σ H Q => t σ H fun vs H1 => sp (vs ++ dvs) H1 Q (wAt W σ)
def tMakeX (C : Addr) (sp : Sp) (dvs : List V) (W : WX) (t : TA) : TE := fun σ H Q => t σ H fun vs H1 => ∀ x dx, H1 x = none → H1 dx = none → dx ≠ x →
  sp (.ref x :: (vs ++ dvs)) (upd (upd H1 dx (.own x)) x (.ins C dx [])) (fun v H2 => v = .non ∧ Q (.ref x) H2) (wAt W σ)
def tMethX (C : Addr) (m : Str) (sp : Sp) (dvs : List V) (W : WX) (ta : TE) (t : TA) : TE := fun σ H Q => ta σ H fun x H1 => ∃ a dx fs, x = .ref a ∧ H1 a = some (.ins C dx fs) ∧ fs.lookup m = none ∧
  t σ H1 fun vs H2 => sp (x :: (vs ++ dvs)) H2 Q (wAt W σ)
section
variable {X : Cx} {W : WX} {k : Nat} {f C : Addr} {fd : FuncData} {ps : List Str} {sp : Sp} {dvs : List V} {ds : List Value} {x m : Str} {p pos apos : Pos} {e o : Expr} {es : List Expr} {ta : TE} {t : TA}
theorem run_fnX {pins : List (Addr × Obj)} {σ : L2.St} {H : Hp} {s : Shared} {Q : VK} {us : List Value} {vs : List V} (F : FnOk X.prog X.w X.K X.mg X.base (L2.CX X.prog X.w) k f fd ps sp) (hr : Room k X.A) (hb : Binds X.K fd ps ds) (hd : Vals dvs ds)
    (tk : Takes X W) (I : Inv X pins σ H s) (r : Vals vs us) (h : sp (vs ++ dvs) H Q (wAt W σ)) : wpAny (model X.prog X.w) X.A (call (.ref f) us) (EP X pins σ Q) X.xe s := by
  have r2 : Vals (vs ++ dvs) (us ++ ds) := r.append hd
  have hl : (us ++ ds).length = ps.length := r2.length.symm.trans (F.len _ _ _ _ h)
  refine wpAny_call (codeAny_mono (F.run X.A X.stack s H ⟨us, []⟩ (us ++ ds) (vs ++ dvs) Q (wAt W σ) hr I.env0 (hb s us I.kIn hl) r2 h) fun z s' hq => ?_)
  match z, hq with
  | .error e, hq => exact tk e s' (XE.of_call I (fun _ _ _ h => h) hq)
  | .ok (.ret u), hq => exact I.after hq
theorem pe_fnX (F : FnX X.prog X.w X.K X.mg X.base x ps dvs k sp) (tk : Takes X W) (hr : Room k X.A) (hg : Gl X x) (ha : PA X (e :: es) t) (hdb : (x == ("__debug__" : Str)) = false := by decide)
    (he : starEach (e :: es) X.env = (false, eval e X.env) :: starEach es X.env := by rfl) (hpl : (backTo pos (starEach es X.env)).any (·.1) = false := by rfl) : PE X (.Call (.Name x p) (e :: es) [] pos) (tCallX sp dvs W t) := ⟨fun pins s σ H Q I h => by
  obtain ⟨f, fd, ds, hm, hk, hb, hd, ok⟩ := F.ex
  refine wpAny_Call_Name_kw (ld_glob I hg hm ?_ hdb)
  refine PySem.W.callWith_K (h₀ := X.base) I.ok.mod.kin hk (thn (ha.run pos pins s σ H _ I h) fun us s1 hs => ?_) he hpl
  obtain ⟨vs, H1, J, r, q⟩ := hs
  exact ⟨J.kIn, run_fnX ok hr hb hd tk J r q⟩⟩
theorem pe_mthX {pl : Sem Bool} (F : MthX X.prog X.w X.K X.mg X.base C m ps dvs k sp) (tk : Takes X W) (ho : PE X o ta) (hr : Room k X.A) (ha : PA X (e :: es) t)
    (hst : starEach (e :: es) X.env = (false, eval e X.env) :: starEach es X.env := by rfl) (hpl : (backTo pos (starEach es X.env)).any (·.1) = false := by rfl)
    (ht : eval (.Call (.Attribute o m apos) (e :: es) [] pos) X.env = (do
      let ov ← eval o X.env; standAt apos.atName
      let (f, first) ← holding [ov] (getMethod ov m pl)
      callWith pos f first (backTo pos (starEach (e :: es) X.env)) (backToKw pos (keywordEach [] X.env))) := by rfl) :
    PE X (.Call (.Attribute o m apos) (e :: es) [] pos) (tMethX C m sp dvs W ta t) := ⟨fun pins s σ H Q I h => by
  obtain ⟨f, fd, ds, hm, hb, hd, ok⟩ := F.ex
  refine PySem.W.methodCall_KW (pl := pl) (thn (ho.run pins s σ H _ I h) fun u s1 hs => ?_) ht
  obtain ⟨x, H1, J, rx, a, dx, fs, ex, ea, l, q⟩ := hs
  subst ex
  cases rx
  refine getmeth_ok J ea F.cl hm l (PySem.W.callWith_K (first := [.ref a]) (h₀ := X.base) J.ok.mod.kin hm.kp (thn (ha.run pos pins s1 σ H1 _ J q) fun us s2 hs => ?_) hst hpl)
  obtain ⟨vs, H2, J2, r, q2⟩ := hs
  exact ⟨J2.kIn, run_fnX (us := .ref a :: us) (vs := .ref a :: vs) ok hr hb hd tk J2 (.cons rfl r) q2⟩⟩
theorem run_makeX {pins : List (Addr × Obj)} {σ : L2.St} {H : Hp} {s : Shared} {Q : VK} {us : List Value} {vs : List V} (M : Mk X.K C f) (F : FnOk X.prog X.w X.K X.mg X.base (L2.CX X.prog X.w) k f fd ps sp) (hr : Room (k + 1) X.A) (hb : Binds X.K fd ps ds) (hd : Vals dvs ds)
    (tk : Takes X W) (I : Inv X pins σ H s) (r : Vals vs us)
    (h : ∀ x dx, H x = none → H dx = none → dx ≠ x → sp (.ref x :: (vs ++ dvs)) (upd (upd H dx (.own x)) x (.ins C dx [])) (fun v H2 => v = .non ∧ Q (.ref x) H2) (wAt W σ)) :
    wpAny (model X.prog X.w) X.A (call (.ref C) us) (EP X pins σ Q) X.xe s := by
  have hq := h (s.heap.objs.size + 1) s.heap.objs.size (I.hok.fresh (Nat.le_succ _)) (I.hok.fresh (Nat.le_refl _)) (Nat.ne_of_lt (Nat.lt_succ_self _))
  have J := Inv.made (C := C) I
  have r2 : Vals (V.ref (s.heap.objs.size + 1) :: (vs ++ dvs)) (Value.ref (s.heap.objs.size + 1) :: (us ++ ds)) := .cons rfl (r.append hd)
  have hl : (Value.ref (s.heap.objs.size + 1) :: us ++ ds).length = ps.length := r2.length.symm.trans (F.len _ _ _ _ hq)
  refine wpAny_call (make_map (f := f) I.kIn M.makes M.init (beq_iff_eq.mp M.fn) (codeAny_mono (F.run _ X.stack _ _ ⟨Value.ref (s.heap.objs.size + 1) :: us, []⟩ (Value.ref (s.heap.objs.size + 1) :: (us ++ ds)) _ _ (wAt W σ) (hr.make C us [])
    (J.env0.make C us []) (hb _ (Value.ref (s.heap.objs.size + 1) :: us) J.kIn hl) r2 hq) fun z s' hz => ?_))
  match z, hz with
  | .error e, hz => exact tk e s' (XE.of_call J (fun _ _ _ h => h) hz)
  | .ok (.ret u), hz =>
    obtain ⟨v, H', J3, rv, ev, q3⟩ := J.after hz
    subst ev
    exact ⟨rv, ⟨V.ref (s.heap.objs.size + 1), H', J3, rfl, q3⟩⟩
theorem pe_mkX (F : MadeX X.prog X.w X.K X.mg X.base x C ps dvs k sp) (tk : Takes X W) (hr : Room (k + 1) X.A) (hg : Gl X x) (ha : PA X (e :: es) t) (hdb : (x == ("__debug__" : Str)) = false := by decide)
    (he : starEach (e :: es) X.env = (false, eval e X.env) :: starEach es X.env := by rfl) (hpl : (backTo pos (starEach es X.env)).any (·.1) = false := by rfl) : PE X (.Call (.Name x p) (e :: es) [] pos) (tMakeX C sp dvs W t) := ⟨fun pins s σ H Q I h => by
  obtain ⟨f, fd, ds, hm, M, hb, hd, ok⟩ := F.ex
  refine wpAny_Call_Name_kw (ld_glob I hg hm ?_ hdb)
  refine PySem.W.callWith_K (h₀ := X.base) I.ok.mod.kin M.kp (thn (ha.run pos pins s σ H _ I h) fun us s1 hs => ?_) he hpl
  obtain ⟨vs, H1, J, r, q⟩ := hs
  exact ⟨J.kIn, run_makeX M ok hr hb hd tk J r q⟩⟩
end

/-- what raises nothing here, though it may -/
theorem FnX0 {P : Program} {w : World} {K : PySem.W.Frag} {mg : Str → Option Value} {base : Heap} {k : Nat} {f : Addr} {fd : FuncData} {ps : List Str} {sp : Sp} (F : FnOk P w K mg base (L2.CX P w) k f fd ps sp) : FnOk P w K mg base CX0 k f fd ps (fun vs H Q _ => sp vs H Q E0) :=
  ⟨fun vs H Q _ h => F.len vs H Q E0 h, fun A outer s H args us vs Q _ hr e0 hb r h => codeAny_mono (F.run A outer s H args us vs Q E0 hr e0 hb r h) fun z s' hq => by
    match z, hq with
    | .error e, hq =>
      obtain ⟨_, _, _, _, _, _, _, _, _, _, _, _, x⟩ := hq
      exact x.elim
    | .ok (.ret u), hq => exact hq⟩
/-- a block, with a word between its first statement and the rest -/
def tMid (t u : TS) : TS := fun D σ H => ∃ M : L2.St → Hp → Prop, t { D with nx := M } σ H ∧ ∀ σ' H', M σ' H' → u D σ' H'
theorem pss_mid {X : Cx} {s1 : Stmt} {ss : List Stmt} {t u : TS} (a : PS X s1 t) (b : PSs X ss u) : PSs X (s1 :: ss) (tMid t u) := ⟨fun pins s σ H D I ⟨M, hm, hu⟩ => by
  refine wpAny_execs_cons (thn (a.run pins s σ H { D with nx := M } I hm) fun z s1 q => ?_)
  match z, q with
  | .next, ⟨σ', H', I', q⟩ => exact b.run pins s1 σ' H' D I' (hu σ' H' q)
  | .ret _, q => exact q
  | .brk, q => exact q
  | .cont, q => exact q⟩
/-! ### C(e, .., k = v) -/
structure MadeN (P : Program) (w : World) (K : PySem.W.Frag) (mg : Str → Option Value) (base : Heap) (x : Str) (C : Addr) (ps ks : List Str) (n k : Nat) (sp : Sp) : Prop where
  ex : ∃ (f : Addr) (fd : FuncData) (g : List Value → List Value → List Value), mg x = some (.ref C) ∧ Mk K C f ∧ KBn K fd ps (n + 1) ks g (fun vs zs => vs ++ zs) ∧ FnOk P w K mg base CX0 k f fd ps sp
theorem pe_mkN {X : Cx} {C : Addr} {ps ks : List Str} {n k : Nat} {sp : Sp} {x : Str} {p pos : Pos} {e : Expr} {es : List Expr} {kws : List Keyword} {t tk : TA} (F : MadeN X.prog X.w X.K X.mg X.base x C ps ks n k sp) (hr : Room (k + 1) X.A) (hg : Gl X x) (ha : PA X (e :: es) t) (hkw : PK X kws tk)
    (hall : (backToKw pos (keywordEach kws X.env)).all (·.1.isSome) = true := by rfl) (hks : (backToKw pos (keywordEach kws X.env)).filterMap (·.1) = ks := by rfl)
    (hdb : (x == ("__debug__" : Str)) = false := by decide) (he : starEach (e :: es) X.env = (false, eval e X.env) :: starEach es X.env := by rfl)
    (hpl : ((backTo pos (starEach (e :: es) X.env)).any (·.1) || (backToKw pos (keywordEach kws X.env)).any (·.1.isNone)) = false := by rfl) : PE X (.Call (.Name x p) (e :: es) kws pos) (tMakeN C n ks.length sp (fun vs zs => vs ++ zs) E0 t tk) := by
  obtain ⟨f, fd, g, hm, M, hb, ok⟩ := F.ex
  exact pe_makeN M ok hr hg hm hb pass0 ha hkw hall hks hdb he hpl
theorem pe_fldK {X : Cx} {K : PySem.W.Frag} {e : Expr} {ta : TE} {f : Str} {pos : Pos} (he : PE X e ta) (hK : X.K = K) (hb : attributeBase e f X.env (eval e X.env) = eval e X.env) : PE X (.Attribute e f pos) (tFld K ta f) := by
  subst hK
  exact pe_fld he hb
/-! ### own operators that raise -/
def OpRS (X : Cx) (f : Value → Value → Sem Value) (r : L2.St → R2) : Prop :=
  ∀ (pins : List (Addr × Obj)) (s : Shared) (σ : L2.St) (H : Hp) (x y : V) (v u : Value) (Q : VK), Inv X pins σ H s → RelV x v → RelV y u → r σ x y H Q → wpAny (model X.prog X.w) X.A (f v u) (EP X pins σ Q) X.xe s
def tOpS (r : L2.St → R2) (ta tb : TE) : TE := fun σ H Q => ta σ H fun x H1 => tb σ H1 fun y H2 => r σ x y H2 Q
theorem pe_opS {X : Cx} {a b : Expr} {ta tb : TE} {pos : Pos} {op : Operator} {r : L2.St → R2} (ho : OpRS X (binaryOp op) r) (ha : PE X a ta) (hb : PE X b tb) : PE X (.BinOp a op b pos) (tOpS r ta tb) :=
  ⟨fun pins s σ H Q I h => wpAny_BinOp (binT ha hb I h fun v u s2 x y H2 J rx ry q => ho pins s2 σ H2 x y v u Q J rx ry q)⟩
def rOwnLX (C : Addr) (sp : Sp) (W : WX) : L2.St → R2 := fun σ x y H Q => ∃ a dx fs i, x = .ref a ∧ y = .int i ∧ H a = some (.ins C dx fs) ∧ sp [x, y] H Q (wAt W σ)
def rOwnRX (C : Addr) (sp : Sp) (W : WX) : L2.St → R2 := fun σ x y H Q => ∃ a dx fs i, y = .ref a ∧ x = .int i ∧ H a = some (.ins C dx fs) ∧ sp [y, x] H Q (wAt W σ)
structure OprLX (P : Program) (w : World) (K : PySem.W.Frag) (mg : Str → Option Value) (base : Heap) (C : Addr) (op : Operator) (ps : List Str) (k : Nat) (sp : Sp) : Prop where
  ex : ∃ (f : Addr) (fd : FuncData), OwnL K C op f ∧ Binds K fd ps [] ∧ FnOk P w K mg base (L2.CX P w) k f fd ps sp
structure OprRX (P : Program) (w : World) (K : PySem.W.Frag) (mg : Str → Option Value) (base : Heap) (C : Addr) (op : Operator) (ps : List Str) (k : Nat) (sp : Sp) : Prop where
  ex : ∃ (f : Addr) (fd : FuncData), OwnR K C op f ∧ Binds K fd ps [] ∧ FnOk P w K mg base (L2.CX P w) k f fd ps sp
section
variable {X : Cx} {C f : Addr} {ps : List Str} {k : Nat} {sp : Sp} {op : Operator} {W : WX}
theorem op_LX (F : OprLX X.prog X.w X.K X.mg X.base C op ps k sp) (tk : Takes X W) (hr : Room k X.A) : OpRS X (binaryOp op) (rOwnLX C sp W) := by
  rintro pins s σ H x y v u Q I rx ry ⟨a, dx, fs, i, rfl, rfl, ea, q⟩
  obtain ⟨f, fd, O, hb, ok⟩ := F.ex
  cases rx
  obtain ⟨t, rfl⟩ := ry
  obtain ⟨mA, O', _⟩ := ins_get I.hok ea
  obtain ⟨od, J, _⟩ := O'.look
  obtain ⟨m, Fr⟩ := I.fr
  obtain ⟨rc, hrc, hp⟩ := O.rr
  obtain ⟨fo, h1⟩ := O.i1
  obtain ⟨ro, h2⟩ := O.i2
  refine PySem.W.ksp_binT Fr I.mod.kin J rfl O.sf O.find O.fn hrc hp h1 h2 O.sub ?_
  refine thn (run_fnX (us := [.ref a, .int i t]) (vs := [.ref a, .int i]) ok hr hb .nil tk I (.cons rfl (.cons ⟨t, rfl⟩ .nil)) q) fun u' s' ⟨v', H', I', rv, hv⟩ => ?_
  exact relV_back rv ⟨v', H', I', rv, hv⟩
theorem op_RX (F : OprRX X.prog X.w X.K X.mg X.base C op ps k sp) (N : IntNo op) (tk : Takes X W) (hr : Room k X.A) : OpRS X (binaryOp op) (rOwnRX C sp W) := by
  rintro pins s σ H x y v u Q I rx ry ⟨a, dx, fs, i, rfl, rfl, ea, q⟩
  obtain ⟨f, fd, O, hb, ok⟩ := F.ex
  cases ry
  obtain ⟨t, rfl⟩ := rx
  obtain ⟨mA, O', _⟩ := ins_get I.hok ea
  obtain ⟨od, J, _⟩ := O'.look
  obtain ⟨m, Fr⟩ := I.fr
  obtain ⟨rc, hrc, hp⟩ := O.ll
  obtain ⟨idl, slot, dec⟩ := N.ex
  refine own_right Fr I.mod.kin J O.sf hrc hp O.find O.fn O.sub N.fills slot (fun Q' hq => dec O'.obj rfl hq) ?_
  refine thn (run_fnX (us := [.ref a, .int i t]) (vs := [.ref a, .int i]) ok hr hb .nil tk I (.cons rfl (.cons ⟨t, rfl⟩ .nil)) q) fun u' s' ⟨v', H', I', rv, hv⟩ => ?_
  exact relV_back rv ⟨v', H', I', rv, hv⟩
end

/-! ### o op p, both of one own class -/
section
open PySem.W PySem.Calls PyProof.Rows
theorem own_same {prog : Program} {w : World} {A : Around} {E : Value → Shared → Prop} {s : Shared} {K : Frag} {x C L f : Addr} {h₀ : Heap} {m : Str → Option Value} {ox : Obj} {od : Option Obj} {v : Value} {op : Operator} {Q : Value → Shared → Prop}
    (F : Fr h₀ L s.heap m) (X₀ : K.In h₀) (I : InstAt s.heap x ox C od) (hv : Looks (model prog w) s.heap (typeOf v) (.ref C)) (hc : selfFirst K C = true)
    (hs : findIn K (.ref C) (PySem.dunder op.info.2) = some (some (.ref f))) (hf : isFn K (.ref f) = true) (h : wpAny (model prog w) A (call (.ref f) [.ref x, v]) (PySem.W.CmpBack Q) E s) : wpAny (model prog w) A (binaryOp op (.ref x) v) Q E s := by
  have X := X₀.keeps F.keep
  obtain ⟨cd, rest, hcd, hm⟩ := ksp_first hc
  rcases hi : op.info with ⟨sym, nm'⟩
  rw [hi] at hs
  dsimp only at hs
  have one := ksp_try X I hs hf h
  obtain ⟨hh, g, d, tt, os⟩ := s
  have L3 : Looks (model prog w) hh (fillsNumberSlot (.ref C) nm') true := fills_K X hcd hm hs
  simp only [binaryOp, hi]
  refine wpAny_holding (wpAny_bind ?_)
  unfold binaryOp1
  refine wpAny_bind (I.type.at (wpAny_bind (hv.at (wpAny_bind (L3.at ?_)))))
  simp only [beq_self_eq_true, if_true, pure_bind, Bool.and_false, Bool.false_and, Bool.false_eq_true, if_false]
  refine wpAny_bind (wpAny_mono one (fun r s2 hr2 => ?_) fun _ _ e => e)
  obtain ⟨u, rfl, hq⟩ := hr2
  exact wpAny_pure (wpAny_pure hq)
end
structure OwnS (K : PySem.W.Frag) (C : Addr) (op : Operator) (f : Addr) : Prop where
  sf : PySem.W.selfFirst K C = true
  find : PySem.W.findIn K (.ref C) (PySem.dunder op.info.2) = some (some (.ref f))
  fn : PySem.W.isFn K (.ref f) = true
structure OprSX (P : Program) (w : World) (K : PySem.W.Frag) (mg : Str → Option Value) (base : Heap) (C : Addr) (op : Operator) (ps : List Str) (k : Nat) (sp : Sp) : Prop where
  ex : ∃ (f : Addr) (fd : FuncData), OwnS K C op f ∧ Binds K fd ps [] ∧ FnOk P w K mg base (L2.CX P w) k f fd ps sp
def rOwnSX (C : Addr) (sp : Sp) (W : WX) : L2.St → R2 := fun σ x y H Q => ∃ a dx fs b dy gs, x = .ref a ∧ y = .ref b ∧ H a = some (.ins C dx fs) ∧ H b = some (.ins C dy gs) ∧ sp [x, y] H Q (wAt W σ)
theorem op_SX {X : Cx} {C : Addr} {ps : List Str} {k : Nat} {sp : Sp} {op : Operator} {W : WX} (F : OprSX X.prog X.w X.K X.mg X.base C op ps k sp) (tk : Takes X W) (hr : Room k X.A) : OpRS X (binaryOp op) (rOwnSX C sp W) := by
  rintro pins s σ H x y v u Q I rx ry ⟨a, dx, fs, b, dy, gs, rfl, rfl, ea, eb, q⟩
  obtain ⟨f, fd, O, hb, ok⟩ := F.ex
  cases rx
  cases ry
  obtain ⟨mA, O', _⟩ := ins_get I.hok ea
  obtain ⟨od, J, _⟩ := O'.look
  obtain ⟨mB, O2, _⟩ := ins_get I.hok eb
  obtain ⟨od2, J2, _⟩ := O2.look
  obtain ⟨m, Fr⟩ := I.fr
  refine own_same Fr I.mod.kin J J2.type O.sf O.find O.fn ?_
  refine thn (run_fnX (us := [.ref a, .ref b]) (vs := [.ref a, .ref b]) ok hr hb .nil tk I (.cons rfl (.cons rfl .nil)) q) fun u' s' ⟨v', H', I', rv, hv⟩ => ?_
  exact relV_back rv ⟨v', H', I', rv, hv⟩

/-! ### C.m(..), m a staticmethod -/
structure SMth (P : Program) (w : World) (K : PySem.W.Frag) (mg : Str → Option Value) (base : Heap) (C : Addr) (m : Str) (ps : List Str) (k : Nat) (sp : Sp) : Prop where
  cr : ClX.CRead K C (.type "type")
  ex : ∃ (f p : Addr) (rest : List Value) (fd : FuncData), PySem.W.findCls K (.ref C) (.type "type") m = some (.get (.builtin "staticmethod.__get__") (.ref p) .none (.ref C)) ∧ PySem.W.recIn K p "staticmethod" = some (.ref f :: rest) ∧ PySem.W.keepIn K (.ref f) = true ∧ Binds K fd ps [] ∧ FnOk P w K mg base CX0 k f fd ps sp
def tSMth (C : Addr) (sp : Sp) (to : TE) (t : TA) : TE := fun σ H Q => to σ H fun x H1 => x = .ref C ∧ t σ H1 fun vs H2 => sp (vs ++ []) H2 Q E0
theorem pe_smth {X : Cx} {C : Addr} {m : Str} {ps : List Str} {k : Nat} {sp : Sp} {o e : Expr} {es : List Expr} {to : TE} {t : TA} {pos apos : Pos} {pl : Sem Bool} (F : SMth X.prog X.w X.K X.mg X.base C m ps k sp) (hr : Room k X.A) (ho : PE X o to) (ha : PA X (e :: es) t)
    (hst : starEach (e :: es) X.env = (false, eval e X.env) :: starEach es X.env := by rfl) (hpl : (backTo pos (starEach es X.env)).any (·.1) = false := by rfl)
    (ht : eval (.Call (.Attribute o m apos) (e :: es) [] pos) X.env = (do
      let ov ← eval o X.env; standAt apos.atName
      let (f, first) ← holding [ov] (getMethod ov m pl)
      callWith pos f first (backTo pos (starEach (e :: es) X.env)) (backToKw pos (keywordEach [] X.env))) := by rfl) :
    PE X (.Call (.Attribute o m apos) (e :: es) [] pos) (tSMth C sp to t) := ⟨fun pins s σ H Q I h => by
  obtain ⟨f, p, rest, fd, hfc, hrc, hk, hb, ok⟩ := F.ex
  refine PySem.W.methodCall_KW (pl := pl) (thn (ho.run pins s σ H _ I h) fun u s1 hs => ?_) ht
  obtain ⟨x, H1, J, rx, ex, q⟩ := hs
  subst ex
  cases rx
  refine PySem.W.method_cls J.kIn F.cr.ga (PySem.W.cls_bind J.kIn F.cr.rd hfc (wpAny_call (PySem.W.sm_get (s := { s1 with toks := s1.toks + 1 }) J.kIn hrc ?_)))
  refine PySem.W.handed_on rfl ?_
  have J' := J.tok (s1.toks + 1)
  refine PySem.W.callWith_K (h₀ := X.base) J.ok.mod.kin hk (thn (ha.run pos pins _ σ H1 _ J' q) fun us s2 hs => ?_) hst hpl
  obtain ⟨vs, H2, J2, r, q2⟩ := hs
  exact ⟨J2.kIn, run_fn ok hr hb .nil pass0 J2 r q2⟩⟩

/-! ### x not in o, by an own __contains__ -/
def rOwnNin (C : Addr) (sp : Sp) : R2 := fun x y H Q => ∃ a dx fs, y = .ref a ∧ H a = some (.ins C dx fs) ∧ sp [y, x] H (fun v H' => ∃ c, v = .bl c ∧ Q (.bl (!c)) H') E0
theorem op_notin {X : Cx} {C : Addr} {ps : List Str} {k : Nat} {sp : Sp} (F : Opr X.prog X.w X.K X.mg X.base C "__contains__" ps k sp) (hr : Room k X.A) : OpR X (compareOp .NotIn) (rOwnNin C sp) := by
  rintro pins s σ H x y v u Q I rx ry ⟨a, dx, fs, rfl, ea, q⟩
  obtain ⟨f, fd, O, hb, ok⟩ := F.ex
  cases ry
  obtain ⟨mA, O', _⟩ := ins_get I.hok ea
  obtain ⟨od, J, _⟩ := O'.look
  obtain ⟨m, Fr⟩ := I.fr
  refine PySem.W.notIn_K Fr I.mod.kin J O.find O.fn ?_
  refine thn (run_fn (us := [.ref a, v]) (vs := [.ref a, x]) ok hr hb .nil pass0 I (.cons rfl (.cons rx .nil)) q) fun u' s' hs => ?_
  obtain ⟨v', H', I', rv, b, rfl, q'⟩ := hs
  cases rv
  exact wpAny_truthy_bool ⟨.bl (!b), H', I', rfl, q'⟩

/-! ### a caught error of an own class: isinstance -/
/-- what the class D must say, so that isinstance asks its instances rightly -/
structure XIs (K : PySem.W.Frag) (D : Addr) : Prop where
  x : XfC K D
  cl : (PySem.W.clsIn K D).isSome = true
  ha : PySem.W.findIn K (.ref D) "__class__" = some (some (.builtin "object.__class__"))
  hn : PySem.W.specialIn K (.builtin "object.__class__") "__get__" = some (some (.builtin "getset_descriptor.__get__"))
  ht : PySem.W.takesIn K (.builtin "object.__class__") = some true
  hm : PySem.W.mroIn K D (.type "object") = some true
def rIsX (K : PySem.W.Frag) (a : Addr) (cls : Value) (d : Option Addr) (D : Addr) : List V → Hp → VK → Prop := fun xs H Q => ∃ (c : V) (cv : Value) (b : Bool) (dd : Addr) (fs : List (Str × V)), xs = [.ref a, c] ∧ cls = .ref D ∧ d = some dd ∧ H dd = some (.xd fs) ∧
  (∀ u, RelV c u → u = cv) ∧ PySem.W.kitOne K (.ref D) cv = some b ∧ Q (.bl b) H
theorem call_isX {X : Cx} {a D : Addr} {oe : Obj} {cls : Value} {d : Option Addr} {pn : List (Addr × Obj)} (N : XIs X.K D) (hz : Zc cls d oe) (hf : ∃ vs, oe.data = .fields vs) : CallR (X.suite a ((a, oe) :: pn)) (.builtin "isinstance") (rIsX X.K a cls d D) := by
  rintro pins s σ H xs us Q I r ⟨c, cv, b, dd, fs, rfl, rfl, rfl, ed, hcv, e, q⟩
  match us, r with
  | [u0, u1], .cons rx (.cons rt .nil) =>
    cases rx
    have ec := hcv _ rt
    subst ec
    have hget := (I.pin (a, oe) (List.mem_append.mpr (.inl List.mem_cons_self))).1
    obtain ⟨vs, hv⟩ := hf
    have hx : ObjOk X.prog X.w H s.heap dd (.xd fs) := I.hok dd _ ed
    obtain ⟨mA, hns, hrel⟩ := hx
    obtain ⟨od, ho, hl⟩ := lookIn_ns hns
    have J : PySem.W.InstAt s.heap a oe D (some od) := ⟨hget, hz.1, by unfold PySem.W.notCls; rw [hv] <;> rfl, by rw [hz.2]; exact ho⟩
    exact PySem.W.kia_one (PySem.W.kitx_exc N.cl N.x.ga N.x.gg N.x.exC N.ha N.hn N.ht N.hm) I.kIn J e (fun z => nomatch z) fun tk => ⟨.bl b, H, I.kept (t' := tk) fun _ _ z => z, rfl, q⟩
/-- the clause's test: the very class -/
theorem exm_own {K : PySem.W.Frag} {C : Addr} {cls : Value} {b : Bool} (h1 : PySem.W.subIn K (.ref C) (.type "BaseException") = some true) (hc : (PySem.W.clsIn K C).isSome = true) (ht : PySem.W.typeIn K (.ref C) = some (.type "type")) (h4 : PySem.W.subIn K cls (.ref C) = some b) :
    PySem.W.exmOne K cls (.ref C) = some b := by
  have e1 : (PySem.W.subIn K (.ref C) (.type "BaseException") == some true) = true := by rw [h1] <;> rfl
  have e2 : ((PySem.W.clsIn K C).isSome && PySem.W.typeIn K (.ref C) == some (.type "type")) = true := by rw [hc, ht] <;> rfl
  show (if (PySem.W.subIn K (.ref C) (.type "BaseException") == some true) = true then (if ((PySem.W.clsIn K C).isSome && PySem.W.typeIn K (.ref C) == some (.type "type")) = true then PySem.W.subIn K cls (.ref C) else none) else none) = some b
  rw [if_pos e1, if_pos e2, h4]
/-- all that is used of an own error class -/
structure ETxt (K : PySem.W.Frag) (mg : Str → Option Value) (x : Str) (C : Addr) : Prop where
  g : mg x = some (.ref C)
  oex : OexC K C
  is : XIs K C
  te : PySem.W.exmOne K (.ref C) (.ref C) = some true
theorem kit_xC {K : PySem.W.Frag} {t : Value} {D : Addr} {b : Bool} (h1 : PySem.W.isClsIn K D = true) (h2 : PySem.W.typeIn K (.ref D) = some (.type "type")) (h3 : PySem.W.subIn K t (.ref D) = some b) : (t = .ref D → b = true) → PySem.W.kitOne K t (.ref D) = some b := fun hb => by
  unfold PySem.W.kitOne
  by_cases e : t = .ref D
  · rw [if_pos (beq_iff_eq.mpr e), hb e]
  · rw [if_neg (fun z => e (beq_iff_eq.mp z))]
    have q : ((PySem.W.clsIn K D).isSome && PySem.W.typeIn K (.ref D) == some (.type "type")) = true := by
      rw [h2, show (PySem.W.clsIn K D).isSome = true from h1]
      rfl
    show (if ((PySem.W.clsIn K D).isSome && PySem.W.typeIn K (.ref D) == some (.type "type")) = true then PySem.W.subIn K t (.ref D) else none) = some b
    rw [if_pos q, h3]
theorem kit_xT {K : PySem.W.Frag} {C : Addr} {b : Bool} (h3 : PySem.W.subIn K (.ref C) (.type "ValueError") = some b) : PySem.W.kitOne K (.ref C) (.type "ValueError") = some b := by
  have km : PySem.W.kitMeta "ValueError" = true := by decide +kernel
  have e : PySem.W.kitCls K (.ref C) (.type "ValueError") = some b := by
    show (if PySem.W.kitMeta "ValueError" = true then PySem.W.subIn K (.ref C) (.type "ValueError") else none) = some b
    rw [if_pos km]
    exact h3
  show (if ((Value.ref C) == (.type "ValueError")) = true then some true else PySem.W.kitCls K (.ref C) (.type "ValueError")) = some b
  have ne : ¬ ((Value.ref C == .type "ValueError") = true) := fun z => by cases beq_iff_eq.mp z
  rw [if_neg ne]
  exact e
/-! ### what such an __init__ leaves, and raise -/
/-- __init__(self, x): self.f = x -/
def spErr1 (C : Addr) (f : Str) (ok : V → Prop) : Sp := fun vs H Q _ => ∃ (a : Addr) (v : V), vs = [.ref a, v] ∧ H a = some (exo a C none) ∧ ok v ∧ ∀ d, H d = none → d ≠ a → Q .non (upd (upd H d (exd d [(f, v)])) a (exo a C (some d)))
/-- __init__(self, x, y): self.f = x; self.g = y -/
def spErr2 (C : Addr) (f g : Str) (ok : V → V → Prop) : Sp := fun vs H Q _ => ∃ (a : Addr) (v u : V), vs = [.ref a, v, u] ∧ H a = some (exo a C none) ∧ ok v u ∧ ∀ d, H d = none → d ≠ a → Q .non (upd (upd (upd H d (exd d [(f, v)])) a (exo a C (some d))) d (exd d [(g, u), (f, v)]))
section
variable {K : PySem.W.Frag} {H : Hp} {C : Addr} {f g : Str}
/-- an error with one field is made -/
theorem rErr1 {ok : V → Prop} {v : V} {R : XK} (o : ok v) (h : ∀ d H', H d = none → Same H H' → H' d = some (.xd [(f, v)]) → R (.ref C) (some d) H') :
    [v].length ≤ 1000 ∧ ∀ a, H a = none → spErr1 C f ok (.ref a :: ([v] ++ [])) (upd H a (exo a C none)) (fun z H2 => z = .non ∧ ∃ (d : Addr) (fs : List (Str × V)), H2 a = some (exo a C (some d)) ∧ H2 d = some (exd d fs) ∧ H d = none ∧ R (.ref C) (some d) (upd (del H2 a) d (.xd fs))) (fun _ _ _ => False) := by
  refine ⟨(by show 1 ≤ 1000; decide), fun a ha => ⟨a, v, rfl, upd_same, o, fun d hd ne => ⟨rfl, d, _, upd_same, ?_, ?_, h _ _ ?_ (fun b u e => ?_) upd_same⟩⟩⟩
  · rw [upd_ne ne, upd_same]
  · rwa [upd_ne ne] at hd
  · rwa [upd_ne ne] at hd
  · have hd' : H d = none := by rwa [upd_ne ne] at hd
    have nd : b ≠ d := ne_of_none e hd'
    have na : b ≠ a := ne_of_none e ha
    rw [upd_ne nd, del_ne na, upd_ne na, upd_ne nd, upd_ne na, e]
theorem rErr2 {ok : V → V → Prop} {v u : V} {R : XK} (o : ok v u) (h : ∀ d H', H d = none → Same H H' → H' d = some (.xd [(g, u), (f, v)]) → R (.ref C) (some d) H') :
    [v, u].length ≤ 1000 ∧ ∀ a, H a = none → spErr2 C f g ok (.ref a :: ([v, u] ++ [])) (upd H a (exo a C none)) (fun z H2 => z = .non ∧ ∃ (d : Addr) (fs : List (Str × V)), H2 a = some (exo a C (some d)) ∧ H2 d = some (exd d fs) ∧ H d = none ∧ R (.ref C) (some d) (upd (del H2 a) d (.xd fs))) (fun _ _ _ => False) := by
  refine ⟨(by show 2 ≤ 1000; decide), fun a ha => ⟨a, v, u, rfl, upd_same, o, fun d hd ne => ⟨rfl, d, _, ?_, upd_same, ?_, h _ _ ?_ (fun b u e => ?_) upd_same⟩⟩⟩
  · rw [upd_ne (Ne.symm ne), upd_same]
  · rwa [upd_ne ne] at hd
  · rwa [upd_ne ne] at hd
  · have hd' : H d = none := by rwa [upd_ne ne] at hd
    have nd : b ≠ d := ne_of_none e hd'
    have na : b ≠ a := ne_of_none e ha
    rw [upd_ne nd, del_ne na, upd_ne nd, upd_ne na, upd_ne nd, upd_ne na, e]
theorem lk_hd {f : Str} {v : V} {fs : List (Str × V)} : ((f, v) :: fs).lookup f = some v := by simp [List.lookup]
theorem lk_tl {f g : Str} {v u : V} {fs : List (Str × V)} (n : (f == g) = false) (h : fs.lookup f = some v) : ((g, u) :: fs).lookup f = some v := by simp [List.lookup, n, h]
theorem rCat_ {l b : Addr} {xs zs : List V} {Q : VK} (h1 : H l = some (.lst xs)) (h2 : H b = some (.lst zs)) (hz : xs.length + zs.length ≤ sizeLine) (h : ∀ p, H p = none → Q (.ref p) (upd H p (.lst (xs ++ zs)))) : rCat (.ref l) (.ref b) H Q := ⟨l, b, xs, zs, rfl, rfl, h1, h2, hz, h⟩
/-- a tuple is unpacked -/
theorem rTupU {a : Addr} {n : Nat} {xs : List V} {t : TGs} {σ : L2.St} {R : L2.St → Hp → Prop} (h : SqT K H a xs) (l : xs.length = n) (q : t xs σ H R) : gTup K n t (.ref a) σ H R := ⟨a, xs, rfl, h, l, q⟩
/-- the clause takes it -/
theorem rTake {c cls : Value} {i : Nat} {ts : Addr → Value → Option Addr → TS} {Wout : WX} {D : Ends} {σ : L2.St} {d : Option Addr} (te : PySem.W.exmOne K cls c = some true)
    (h : ∀ a, H a = none → ts a cls d { nx := fun σ' H' => D.nx (σ'.set i none) H', rt := D.rt, bk := fun σ' H' => D.bk (σ'.set i none) H', ct := fun σ' H' => D.ct (σ'.set i none) H' } (σ.set i (some (.ref a))) H) : wAs K c i ts Wout D cls d σ H :=
  ⟨true, te, fun _ => h, fun z => nomatch z⟩
/-- e.f of the caught error -/
theorem rXf {a dd : Addr} {fs : List (Str × V)} {v : V} {R : V → Prop} (hd : H dd = some (.xd fs)) (l : fs.lookup f = some v) (r : R v) :
    (V.ref a : V) = .ref a ∧ (Value.ref C : Value) = .ref C ∧ ∃ (d' : Addr) (fs : List (Str × V)) (v : V), some dd = some d' ∧ H d' = some (.xd fs) ∧ fs.lookup f = some v ∧ R v := ⟨rfl, rfl, dd, fs, v, rfl, hd, l, r⟩
theorem rIsX_ {c : V} {cv : Value} {b : Bool} {a dd D : Addr} {fs : List (Str × V)} {Q : VK} (hd : H dd = some (.xd fs)) (hc : ∀ u, RelV c u → u = cv) (k : PySem.W.kitOne K (.ref D) cv = some b) (q : Q (.bl b) H) : rIsX K a (.ref D) (some dd) D [.ref a, c] H Q :=
  ⟨c, cv, b, dd, fs, rfl, rfl, rfl, hd, hc, k, q⟩
theorem rIsXC {E : Addr} {b : Bool} {a dd D : Addr} {fs : List (Str × V)} {Q : VK} (hd : H dd = some (.xd fs)) (k : PySem.W.kitOne K (.ref D) (.ref E) = some b) (q : Q (.bl b) H) : rIsX K a (.ref D) (some dd) D [.ref a, .ref E] H Q :=
  rIsX_ hd (fun _ h => h) k q
theorem rIsXT {T : String} {b : Bool} {a dd D : Addr} {fs : List (Str × V)} {Q : VK} (hd : H dd = some (.xd fs)) (k : PySem.W.kitOne K (.ref D) (.type T) = some b) (q : Q (.bl b) H) : rIsX K a (.ref D) (some dd) D [.ref a, .ty T] H Q :=
  rIsX_ hd (fun _ h => h) k q
end
section
variable {D : Ends} {σ : L2.St} {H : Hp} {Q : VK} {sp : Sp} {dvs : List V} {W : WX} {t : TA} {ta tb te : TE} {C : Addr} {R : XK} {K : PySem.W.Frag} {f m : Str}
instance : Rd (tCallX sp dvs W t σ H Q) (t σ H fun vs H1 => sp (vs ++ dvs) H1 Q (wAt W σ)) := ⟨fun h => h⟩
instance : Rd (tMakeX C sp dvs W t σ H Q) (t σ H fun vs H1 => ∀ x dx, H1 x = none → H1 dx = none → dx ≠ x →
  sp (.ref x :: (vs ++ dvs)) (upd (upd H1 dx (.own x)) x (.ins C dx [])) (fun v H2 => v = .non ∧ Q (.ref x) H2) (wAt W σ)) := ⟨fun h => h⟩
instance : Rd (tMethX C m sp dvs W ta t σ H Q) (ta σ H fun x H1 => ∃ a dx fs, x = .ref a ∧ H1 a = some (.ins C dx fs) ∧ fs.lookup m = none ∧ t σ H1 fun vs H2 => sp (x :: (vs ++ dvs)) H2 Q (wAt W σ)) := ⟨fun h => h⟩
instance {to : TE} : Rd (tSMth C sp to t σ H Q) (to σ H fun x H1 => x = .ref C ∧ t σ H1 fun vs H2 => sp (vs ++ []) H2 Q E0) := ⟨fun h => h⟩
instance {r : L2.St → R2} : Rd (tOpS r ta tb σ H Q) (ta σ H fun x H1 => tb σ H1 fun y H2 => r σ x y H2 Q) := ⟨fun h => h⟩
instance : Rd (tMkO C sp dvs t σ H R) (t σ H fun vs H1 => vs.length ≤ 1000 ∧ ∀ a, H1 a = none → sp (.ref a :: (vs ++ dvs)) (upd H1 a (exo a C none))
  (fun v H2 => v = .non ∧ ∃ (d : Addr) (fs : List (Str × V)), H2 a = some (exo a C (some d)) ∧ H2 d = some (exd d fs) ∧ H1 d = none ∧ R (.ref C) (some d) (upd (del H2 a) d (.xd fs))) (fun _ _ _ => False)) := ⟨fun h => h⟩
instance : Rd (tVeI K t σ H Q) (t σ H fun vs H1 => ∃ (a C : Addr) (ws : List V), vs = .ref a :: ws ∧ ws.length ≤ 1000 ∧ OexC K C ∧ H1 a = some (exo a C none) ∧ Q .non H1) := ⟨fun h => h⟩
instance : Rd (tOst K f ta te D σ H) (te σ H fun y H1 => ta σ H1 fun x H2 => ∃ a C : Addr, x = .ref a ∧ OexC K C ∧ PySem.W.findIn K (.ref C) f = some none ∧
  ((H2 a = some (exo a C none) ∧ ∀ dx, H2 dx = none → dx ≠ a → D.nx σ (upd (upd H2 dx (exd dx [(f, y)])) a (exo a C (some dx)))) ∨
    ∃ (dx : Addr) (fs : List (Str × V)), H2 a = some (exo a C (some dx)) ∧ H2 dx = some (exd dx fs) ∧ fs.length ≤ 900 ∧ D.nx σ (upd H2 dx (exd dx ((f, y) :: fs))))) := ⟨fun h => h⟩
instance {a : Addr} {cls : Value} {d : Option Addr} : Rd (tXf a cls d C f te σ H Q) (te σ H fun x H1 => x = .ref a ∧ cls = .ref C ∧ ∃ (dd : Addr) (fs : List (Str × V)) (v : V), d = some dd ∧ H1 dd = some (.xd fs) ∧ fs.lookup f = some v ∧ Q v H1) := ⟨fun h => h⟩
instance {n m : Nat} {gV : List V → List V → List V} {E : XK} {tk : TA} : Rd (tMakeN C n m sp gV E t tk σ H Q) (t σ H fun vs H1 => tk σ H1 fun zs H2 => vs.length = n ∧ zs.length = m ∧
  ∀ x dx, H2 x = none → H2 dx = none → dx ≠ x → sp (gV (.ref x :: vs) zs) (upd (upd H2 dx (.own x)) x (.ins C dx [])) (fun v H3 => v = .non ∧ Q (.ref x) H3) E) := ⟨fun h => h⟩
instance {i j : Nat} : Rd (tPar i j t D σ H) (t σ H fun vs H1 => ∃ v w, vs = [v, w] ∧ D.nx ((σ.set i (some v)).set j (some w)) H1) := ⟨fun h => h⟩
instance {x y : V} {R : V → V → Prop} : Rd (∃ v w, [x, y] = [v, w] ∧ R v w) (R x y) := ⟨fun h => ⟨x, y, rfl, h⟩⟩
instance {y : V} {ys : List V} {S : V → List V → Prop} : Rd (∃ v r, (y :: ys) = v :: r ∧ S v r) (S y ys) := ⟨fun h => ⟨y, ys, rfl, h⟩⟩
instance {R : Prop} : Rd (([] : List V) = [] ∧ R) R := ⟨fun h => ⟨rfl, h⟩⟩
instance {tg : TG} {u : TGs} {vs : List V} {QS : L2.St → Hp → Prop} : Rd (gCons tg u vs σ H QS) (∃ v r, vs = v :: r ∧ tg v σ H fun σ' H' => u r σ' H' QS) := ⟨fun h => h⟩
instance {vs : List V} {QS : L2.St → Hp → Prop} : Rd (gNil vs σ H QS) (vs = [] ∧ QS σ H) := ⟨fun h => h⟩
instance {d : Option Addr} {cls : Value} : Rd (wAt W σ cls d H) (W cls d σ H) := ⟨fun h => h⟩
end
end Bar

local macro_rules | `(tactic| walk_at "rc") => `(tactic| first
  | decide | assumption | omega
  | exact Or.inr ⟨by decide, by decide⟩ | exact Or.inl ⟨by decide, by decide⟩ | exact ⟨by decide, by decide⟩)
local macro_rules | `(tactic| walk_at "lk1") => `(tactic| ((with_reducible refine Bar.lkNew ?hp ?h); (case hp => with_reducible assumption); (case h => walk_at "lk")))
local macro_rules | `(tactic| walk_at "lk2") => `(tactic| ((with_reducible refine Bar.lkNe ?n ?h); (case n => with_reducible first | assumption | exact Ne.symm (by assumption)); (case h => walk_at "lk")))
local macro_rules | `(tactic| walk_at "lk3") => `(tactic| ((with_reducible refine Bar.lkMut (o' := ?o) ?h ?hp ?d); (case h => walk_at "lk"); (case hp => walk_at "lk"); (case d => (intro z; cases z))))
local macro_rules | `(tactic| walk_at "lk4") => `(tactic| ((with_reducible refine Bar.lkKn (b := ?b) (H := ?H) ?k ?n ?h); (case k => with_reducible assumption); (case n => with_reducible first | assumption | exact Ne.symm (by assumption)); (case h => walk_at "lk")))
local macro_rules | `(tactic| walk_at "lk5") => `(tactic| ((with_reducible refine Bar.lkKp (b := ?b) (H := ?H) (u := ?u) ?k ?h ?hb ?d); (case k => with_reducible assumption); (case h => walk_at "lk"); (case hb => walk_at "lk"); (case d => (intro z; cases z))))
local macro_rules | `(tactic| walk_at "lk6") => `(tactic| ((with_reducible refine Bar.lkSm (H := ?H) ?k ?h); (case k => with_reducible assumption); (case h => walk_at "lk")))
local macro_rules | `(tactic| walk_at "lk") => `(tactic| first
  | with_reducible assumption | with_reducible exact L2.upd_same | walk_at "lk1" | walk_at "lk2" | walk_at "lk3" | walk_at "lk4" | walk_at "lk5" | walk_at "lk6")
local macro_rules | `(tactic| walk_at "sqL") => `(tactic| first | with_reducible assumption | ((with_reducible refine L2.SqL.of ?_); walk_at "lk") | assumption)
local macro_rules | `(tactic| walk_at "sqT") => `(tactic| first | with_reducible assumption | ((with_reducible refine L2.SqT.of ?_); walk_at "lk") | assumption)
local macro_rules | `(tactic| walk_at "kit") => `(tactic| first | exact Bar.kit_list_int | exact Bar.kit_list_bool | exact Bar.kit_list_str | exact Bar.kit_list_list | exact Bar.kit_list_tuple | exact Bar.kit_tuple_int | exact Bar.kit_tuple_bool | exact Bar.kit_tuple_str | exact Bar.kit_tuple_list | exact Bar.kit_tuple_tuple)
local macro_rules | `(tactic| walk_at "rx1") => `(tactic| ((with_reducible refine Bar.rI_ ?c ?_); (case c => walk_at "rc")))
local macro_rules | `(tactic| walk_at "rx2") => `(tactic| ((with_reducible refine Bar.rEq_ ?e ?_); (case e => exact rfl)))
local macro_rules | `(tactic| walk_at "rx3") => `(tactic| ((with_reducible refine Bar.rNe_ ?e ?_); (case e => exact rfl)))
local macro_rules | `(tactic| walk_at "rx4") => `(tactic| ((with_reducible refine Bar.rIxL_ (v := ?v) (xs := ?xs) ?h1 ?h2 ?_); (case h1 => walk_at "sqL"); (case h2 => exact rfl)))
local macro_rules | `(tactic| walk_at "rx5") => `(tactic| ((with_reducible refine Bar.rIxT_ (v := ?v) (xs := ?xs) ?h1 ?h2 ?_); (case h1 => walk_at "sqT"); (case h2 => exact rfl)))
local macro_rules | `(tactic| walk_at "rx6") => `(tactic| ((with_reducible refine Bar.rSetL_ (xs := ?xs) (j := ?j) ?h1 ?h2 ?_); (case h1 => walk_at "lk"); (case h2 => exact rfl)))
local macro_rules | `(tactic| walk_at "rx7") => `(tactic| ((with_reducible refine Bar.rLenL (ys := ?ys) ?h1 ?_); (case h1 => walk_at "sqL")))
local macro_rules | `(tactic| walk_at "rx8") => `(tactic| ((with_reducible refine Bar.tyL (xs := ?xs) ?h1 ?_); (case h1 => walk_at "sqL")))
local macro_rules | `(tactic| walk_at "rx9") => `(tactic| ((with_reducible refine Bar.rNew ?e ?_); (case e => exact Bar.szLe (by simp))))
local macro_rules | `(tactic| walk_at "rx10") => `(tactic| ((with_reducible refine Bar.rIxSL (xs := ?xs) (v := ?v) ?h1 ?h2 ?_); (case h1 => walk_at "lk"); (case h2 => exact rfl)))
local macro_rules | `(tactic| walk_at "rx11") => `(tactic| ((with_reducible refine Bar.rIxST (xs := ?xs) (v := ?v) ?h1 ?h2 ?_); (case h1 => walk_at "lk"); (case h2 => exact rfl)))
local macro_rules | `(tactic| walk_at "rx12") => `(tactic| ((with_reducible refine Bar.rLenT (ys := ?ys) ?h1 ?_); (case h1 => walk_at "sqT")))
local macro_rules | `(tactic| walk_at "rx13") => `(tactic| ((with_reducible refine Bar.rTupU (xs := ?xs) ?h1 ?h2 ?_); (case h1 => walk_at "sqT"); (case h2 => exact rfl)))
local macro_rules | `(tactic| walk_at "ry4") => `(tactic| ((with_reducible refine Bar.isiL (xs := ?xs) (r := ?r) ?e ?h ?_); (case e => walk_at "lk"); (case h => walk_at "kit")))
local macro_rules | `(tactic| walk_at "ry5") => `(tactic| ((with_reducible refine Bar.isiT (xs := ?xs) (r := ?r) ?e ?h ?_); (case e => walk_at "lk"); (case h => walk_at "kit")))
local macro_rules | `(tactic| walk_at "rs") => `(tactic| first | with_reducible refine Bar.rd ?_ | walk_at "rx1" | walk_at "rx4" | walk_at "rx5" | walk_at "rx6" | walk_at "rx7" | walk_at "rx8" | walk_at "rx9" | walk_at "rx10" | walk_at "rx11" | walk_at "rx12" | walk_at "rx13" | walk_at "ry4" | walk_at "ry5" | walk_at "rx2" | walk_at "rx3")
local macro_rules | `(tactic| walk_at "rd") => `(tactic| repeat walk_at "rs")

namespace Lw
open PySem L2 Bar
def top (i : Nat) : Stmt := PySem.Challenge.pw_barclips_k08_common_ticks.main.body.getD i (.Pass ⟨0, 0, 0, 0⟩)
abbrev s_law_box : Stmt := top 16
abbrev N_law_box : List Str := ["_law_script", "_law_at", "_law_cell", "_law_salt", "_law_one"]
abbrev P_law_box : List Str := ["_law_script", "_law_at"]
theorem sc_law_box : FnScope N_law_box P_law_box (defScope s_law_box) := ⟨rfl, rfl, rfl, by decide +kernel, rfl, by decide +kernel, by decide +kernel⟩
abbrev s_law_draw : Stmt := top 17
abbrev N_law_draw : List Str := ["_law_box_here", "_law_many", "_law_found", "_law_total", "_law_turn", "_law_once", "_law_twice"]
abbrev P_law_draw : List Str := ["_law_box_here", "_law_many"]
theorem sc_law_draw : FnScope N_law_draw P_law_draw (defScope s_law_draw) := ⟨rfl, rfl, rfl, by decide +kernel, rfl, by decide +kernel, by decide +kernel⟩
abbrev s_law_size : Stmt := top 20
abbrev N_law_size : List Str := ["_law_box_here", "_law_big", "_law_kinds"]
abbrev P_law_size : List Str := ["_law_box_here"]
theorem sc_law_size : FnScope N_law_size P_law_size (defScope s_law_size) := ⟨rfl, rfl, rfl, by decide +kernel, rfl, by decide +kernel, by decide +kernel⟩
abbrev s_law_number : Stmt := top 21
abbrev N_law_number : List Str := ["_law_box_here", "_law_found"]
abbrev P_law_number : List Str := ["_law_box_here"]
theorem sc_law_number : FnScope N_law_number P_law_number (defScope s_law_number) := ⟨rfl, rfl, rfl, by decide +kernel, rfl, by decide +kernel, by decide +kernel⟩
abbrev s_law_step : Stmt := top 22
abbrev N_law_step : List Str := ["_law_box_here"]
abbrev P_law_step : List Str := ["_law_box_here"]
theorem sc_law_step : FnScope N_law_step P_law_step (defScope s_law_step) := ⟨rfl, rfl, rfl, by decide +kernel, rfl, by decide +kernel, by decide +kernel⟩
abbrev s_law_near : Stmt := top 23
abbrev N_law_near : List Str := ["_law_box_here", "_law_row", "_law_tick", "_law_kind"]
abbrev P_law_near : List Str := ["_law_box_here", "_law_row"]
theorem sc_law_near : FnScope N_law_near P_law_near (defScope s_law_near) := ⟨rfl, rfl, rfl, by decide +kernel, rfl, by decide +kernel, by decide +kernel⟩
abbrev s_law_int : Stmt := top 18
abbrev N_law_int : List Str := ["_law_x"]
abbrev P_law_int : List Str := ["_law_x"]
theorem sc_law_int : FnScope N_law_int P_law_int (defScope s_law_int) := ⟨rfl, rfl, rfl, by decide +kernel, rfl, by decide +kernel, by decide +kernel⟩
abbrev s_law_same : Stmt := top 19
abbrev N_law_same : List Str := ["_law_got", "_law_due", "_law_k"]
abbrev P_law_same : List Str := ["_law_got", "_law_due"]
theorem sc_law_same : FnScope N_law_same P_law_same (defScope s_law_same) := ⟨rfl, rfl, rfl, by decide +kernel, rfl, by decide +kernel, by decide +kernel⟩
abbrev s_law_holds : Stmt := top 24
abbrev N_law_holds : List Str := ["_law_made", "_law_size_here", "_law_rest"]
abbrev P_law_holds : List Str := ["_law_made", "_law_size_here", "_law_rest"]
theorem sc_law_holds : FnScope N_law_holds P_law_holds (defScope s_law_holds) := ⟨rfl, rfl, rfl, by decide +kernel, rfl, by decide +kernel, by decide +kernel⟩
abbrev s_law_gcd : Stmt := top 25
abbrev N_law_gcd : List Str := ["_law_a", "_law_b", "_law_k", "_law_rest"]
abbrev P_law_gcd : List Str := ["_law_a", "_law_b"]
theorem sc_law_gcd : FnScope N_law_gcd P_law_gcd (defScope s_law_gcd) := ⟨rfl, rfl, rfl, by decide +kernel, rfl, by decide +kernel, by decide +kernel⟩
abbrev s_law_two : Stmt := top 26
abbrev N_law_two : List Str := ["_law_box_here", "_law_kind", "_law_one", "_law_factor", "_law_size_here", "_law_apart"]
abbrev P_law_two : List Str := ["_law_box_here"]
theorem sc_law_two : FnScope N_law_two P_law_two (defScope s_law_two) := ⟨rfl, rfl, rfl, by decide +kernel, rfl, by decide +kernel, by decide +kernel⟩
abbrev s_law_on : Stmt := top 27
abbrev N_law_on : List Str := ["_law_row", "_law_tick"]
abbrev P_law_on : List Str := ["_law_row", "_law_tick"]
theorem sc_law_on : FnScope N_law_on P_law_on (defScope s_law_on) := ⟨rfl, rfl, rfl, by decide +kernel, rfl, by decide +kernel, by decide +kernel⟩
abbrev s_law_and : Stmt := top 28
abbrev N_law_and : List Str := ["_law_one", "_law_two_here", "_law_found", "_law_told", "e"]
abbrev P_law_and : List Str := ["_law_one", "_law_two_here"]
theorem sc_law_and : FnScope N_law_and P_law_and (defScope s_law_and) := ⟨rfl, rfl, rfl, by decide +kernel, rfl, by decide +kernel, by decide +kernel⟩
abbrev s_law_shared : Stmt := top 29
abbrev N_law_shared : List Str := ["_law_found", "_law_one", "_law_two_here", "_law_least"]
abbrev P_law_shared : List Str := ["_law_found", "_law_one", "_law_two_here", "_law_least"]
theorem sc_law_shared : FnScope N_law_shared P_law_shared (defScope s_law_shared) := ⟨rfl, rfl, rfl, by decide +kernel, rfl, by decide +kernel, by decide +kernel⟩
abbrev s_inverse : Stmt := top 13
abbrev N_inverse : List Str := ["number", "modulus", "left", "right", "left_times", "right_times", "times"]
abbrev P_inverse : List Str := ["number", "modulus"]
theorem sc_inverse : FnScope N_inverse P_inverse (defScope s_inverse) := ⟨rfl, rfl, rfl, by decide +kernel, rfl, by decide +kernel, by decide +kernel⟩
abbrev s_Grid___init__ : Stmt := inClass (top 14) 0
abbrev N_Grid___init__ : List Str := ["self", "step", "offset"]
abbrev P_Grid___init__ : List Str := ["self", "step", "offset"]
theorem sc_Grid___init__ : FnScope N_Grid___init__ P_Grid___init__ (defScope s_Grid___init__) := ⟨rfl, rfl, rfl, by decide +kernel, rfl, by decide +kernel, by decide +kernel⟩
abbrev s_Grid___contains__ : Stmt := inClass (top 14) 1
abbrev N_Grid___contains__ : List Str := ["self", "x"]
abbrev P_Grid___contains__ : List Str := ["self", "x"]
theorem sc_Grid___contains__ : FnScope N_Grid___contains__ P_Grid___contains__ (defScope s_Grid___contains__) := ⟨rfl, rfl, rfl, by decide +kernel, rfl, by decide +kernel, by decide +kernel⟩
abbrev s_Grid_tick_of : Stmt := inClass (top 14) 2
abbrev N_Grid_tick_of : List Str := ["self", "number"]
abbrev P_Grid_tick_of : List Str := ["self", "number"]
theorem sc_Grid_tick_of : FnScope N_Grid_tick_of P_Grid_tick_of (defScope s_Grid_tick_of) := ⟨rfl, rfl, rfl, by decide +kernel, rfl, by decide +kernel, by decide +kernel⟩
abbrev s_Grid_common : Stmt := inClass (top 14) 16
abbrev N_Grid_common : List Str := ["first", "second", "divisor", "distance", "cycle", "number"]
abbrev P_Grid_common : List Str := ["first", "second"]
theorem sc_Grid_common : FnScope N_Grid_common P_Grid_common (defScope s_Grid_common) := ⟨rfl, rfl, rfl, by decide +kernel, rfl, by decide +kernel, by decide +kernel⟩
abbrev s_Grid___and__ : Stmt := inClass (top 14) 15
abbrev N_Grid___and__ : List Str := ["self", "other", "both"]
abbrev P_Grid___and__ : List Str := ["self", "other"]
theorem sc_Grid___and__ : FnScope N_Grid___and__ P_Grid___and__ (defScope s_Grid___and__) := ⟨rfl, rfl, rfl, by decide +kernel, rfl, by decide +kernel, by decide +kernel⟩
abbrev s_Apart___init__ : Stmt := inClass (top 7) 0
abbrev N_Apart___init__ : List Str := ["self", "first", "second"]
abbrev P_Apart___init__ : List Str := ["self", "first", "second"]
theorem sc_Apart___init__ : FnScope N_Apart___init__ P_Apart___init__ (defScope s_Apart___init__) := ⟨rfl, rfl, rfl, by decide +kernel, rfl, by decide +kernel, by decide +kernel⟩
abbrev s_law : Stmt := top 30
abbrev N_law : List Str := ["_law_script", "_law_box_here", "_law_rows", "_law_made", "_law_size_here", "_law_least", "_law_meet", "_law_ticks", "_law_k", "_law_one", "_law_two_here", "_law_common", "_law_answer", "_law_told", "_law_found", "_law_tick", "_law_alike", "_law_row"]
abbrev P_law : List Str := ["_law_script"]
theorem sc_law : FnScope N_law P_law (defScope s_law) := ⟨rfl, rfl, rfl, by decide +kernel, rfl, by decide +kernel, by decide +kernel⟩

/-! ### the law's draws -/
/-- the facts of the built-in names -/
structure Txt (mg : Str → Option Value) : Prop where
  b_len : mg "len" = none
  b_int : mg "int" = none
  b_abs : mg "abs" = none
  b_str : mg "str" = none
  b_range : mg "range" = none
  b_isinstance : mg "isinstance" = none
  b_bool : mg "bool" = none
  b_list : mg "list" = none
  b_tuple : mg "tuple" = none
  b_sum : mg "sum" = none
  b_min : mg "min" = none
  b_max : mg "max" = none
  b_any : mg "any" = none
  b_all : mg "all" = none
  b_sorted : mg "sorted" = none
  b_enumerate : mg "enumerate" = none
abbrev big : Int := 10 ^ 399
abbrev box (c s n : Int) : HO := .lst [.int c, .int s, .int n]
abbrev kinds : List V := [.int 60, .int (10 ^ Int.toNat 6), .int (10 ^ Int.toNat 30), .int 60, .int (10 ^ Int.toNat 6), .int ((10 ^ Int.toNat 57) ^ Int.toNat 7), .int (10 ^ Int.toNat 6), .int 60, .int (10 ^ Int.toNat 30), .int 60, .int (10 ^ Int.toNat 6), .int 60]
theorem kinds_at {r : Int} (h0 : 0 ≤ r) (h1 : r < 12) : ∃ m, atI kinds r = some (.int m) ∧ 0 < m ∧ m ≤ big := by
  have h : r = 0 ∨ r = 1 ∨ r = 2 ∨ r = 3 ∨ r = 4 ∨ r = 5 ∨ r = 6 ∨ r = 7 ∨ r = 8 ∨ r = 9 ∨ r = 10 ∨ r = 11 := by omega
  rcases h with h | h | h | h | h | h | h | h | h | h | h | h <;> (subst h; exact ⟨_, rfl, by decide, by decide⟩)
def spDraw : Sp := fun vs H Q _ => ∃ (b : Addr) (c s n m : Int), vs = [.ref b, .int m] ∧ H b = some (box c s n) ∧ 0 < m ∧ m ≤ big ∧
  ∀ r c' n', 0 ≤ r → r < m → Q (.int r) (upd H b (box c' s n'))
theorem log_big {m : Int} (h0 : 0 < m) (h : m ≤ big) : m.natAbs < 2 ^ 1326 := by
  have h1 : m.natAbs ≤ 10 ^ 399 := by
    have e : big = ((10 ^ 399 : Nat) : Int) := by decide
    omega
  exact Nat.lt_of_le_of_lt h1 (by decide)
section
variable {P : Program} {w : World} {K : PySem.W.Frag} {mg : Str → Option Value} {base : Heap}
theorem ok_draw {f : Addr} {fd : FuncData} (F : Fun K "_law_draw" "_law_draw" s_law_draw f fd) (T : Txt mg) : FnOk P w K mg base CX0 1 f fd P_law_draw spDraw := by
  refine F.ok sc_law_draw (fun vs H Q E h => ?_) (fun cdv A outer s H vs Q E hr h => ?_)
  · obtain ⟨b, c, z, n, m, rfl, _⟩ := h
    rfl
  · obtain ⟨b, c, z, n, m, rfl, hb, m0, m1, k⟩ := h
    have lb := log_big m0 m1
    refine ⟨_, (pss_cons (ps_if (pt_cmpR op_gt (pe_ix ix_list (pv 0) pe_int (fun _ _ => rfl)) pe_int (nomark _)) (pss_cons (ps_set (i := 2) sc_law_draw.nd rfl (Or.inl rfl) (pe_op op_mod (pe_callTy c_int rfl T.b_int (by decide +kernel) (pa_cons (pe_ix ix_list (pv 0) pe_int (fun _ _ => rfl)) pa_nil)) (pv 1)))
    (pss_cons (ps_asg (pe_op op_fdivW (pe_ix ix_list (pv 0) pe_int (fun _ _ => rfl)) (pv 1)) (pg_sub (pv 0) pe_int set_list))
    (pss_one (ps_ret (pv 2))))) pss_nil)
    (pss_cons (ps_asg (pe_op op_add (pe_ix ix_list (pv 0) pe_int (fun _ _ => rfl)) pe_int) (pg_sub (pv 0) pe_int set_list))
    (pss_cons (ps_set (i := 3) sc_law_draw.nd rfl (Or.inl rfl) pe_int)
    (pss_cons (ps_for PassesOwn.never rfl (pi_range1 rfl T.b_range (pa_cons (pe_op op_add pe_int (pe_op op_fdiv (pe_callB c_lenStr rfl T.b_len PySem.boot_len (pa_cons (pe_callTy c_str rfl T.b_str (by decide +kernel) (pa_cons (pv 1) pa_nil)) pa_nil)) pe_int)) pa_nil)) (pg_name (i := 4) sc_law_draw.nd rfl (Or.inl rfl)) (pss_cons (ps_set (i := 5) sc_law_draw.nd rfl (Or.inl rfl) (pe_op op_mod (pe_callTy c_int rfl T.b_int (by decide +kernel) (pa_cons (pe_op op_add (pe_op op_add (pe_op op_add (pe_op op_mul (pe_ix ix_list (pv 0) pe_int (fun _ _ => rfl)) pe_int) (pe_op op_mul (pe_ix ix_list (pv 0) pe_int (fun _ _ => rfl)) pe_int)) (pe_op op_mul (pv 4) pe_int)) pe_int) pa_nil)) pe_int))
    (pss_cons (ps_set (i := 5) sc_law_draw.nd rfl (Or.inl rfl) (pe_op op_mod (pe_callTy c_int rfl T.b_int (by decide +kernel) (pa_cons (pe_op op_add (pe_op op_add (pe_op op_mulW (pv 5) (pv 5)) (pe_op op_mul pe_int (pe_ix ix_list (pv 0) pe_int (fun _ _ => rfl)))) (pv 4)) pa_nil)) pe_int))
    (pss_cons (ps_set (i := 6) sc_law_draw.nd rfl (Or.inl rfl) (pe_op op_mod (pe_callTy c_int rfl T.b_int (by decide +kernel) (pa_cons (pe_op op_add (pe_op op_add (pe_op op_mulW (pv 5) (pv 5)) (pe_op op_mul pe_int (pv 5))) (pe_ix ix_list (pv 0) pe_int (fun _ _ => rfl))) pa_nil)) pe_int))
    (pss_one (ps_set (i := 3) sc_law_draw.nd rfl (Or.inl rfl) (pe_op op_add (pe_op op_mul (pv 3) pe_int) (pv 6))))))))
    (pss_one (ps_ret (pe_op op_mod (pe_callTy c_int rfl T.b_int (by decide +kernel) (pa_cons (pv 3) pa_nil)) (pv 1)))))))), ?_⟩
    refine Bar.rStart (σ := [some (.ref b), some (.int m), none, none, none, none, none]) rfl ?_
    have lg : m.natAbs.log2 < 1920 := Nat.lt_of_lt_of_le (PySem.Flt.log2_lt_of (by decide) lb) (by decide)
    have ls := PyProof.Rows.int_text_len_1921 lg
    walk_at "rd"
    refine ite2 (fun h => ?_) (fun h => ?_)
    · walk_at "rd"
      refine Bar.rI_ (wide_div m0 lb (by decide) (by decide)) ?_
      walk_at "rd"
      exact k _ _ _ (Int.emod_nonneg _ (by omega)) (Int.emod_lt_of_pos _ m0)
    · walk_at "rd"
      refine Bar.rStr_ lg ?_
      walk_at "rd"
      refine Bar.rLenStr_ (Nat.le_trans ls (by decide)) ?_
      walk_at "rd"
      refine Bar.forR _ rfl (fun _ σ H' => H' = upd H b (box c z (n + 1)) ∧ ∃ (t : Int) (x y u : Option V), σ = [some (.ref b), some (.int m), none, some (.int t), x, y, u]) (by omega) ⟨rfl, 0, none, none, none, rfl⟩ ?_ ?_
      · rintro i σ H' hi ⟨rfl, t, x, y, u, rfl⟩
        walk_at "rd"
        refine Bar.rI_ (sqW _ (by decide) (by decide)) ?_
        walk_at "rd"
        refine Bar.rI_ (sqW _ (by decide) (by decide)) ?_
        walk_at "rd"
        exact ⟨rfl, _, _, _, _, rfl⟩
      · rintro σ H' ⟨rfl, t, x, y, u, rfl⟩
        walk_at "rd"
        exact k _ _ _ (Int.emod_nonneg _ (by omega)) (Int.emod_lt_of_pos _ m0)
def spBox (K : PySem.W.Frag) : Sp := fun vs H Q _ => ∃ (a : Addr) (ns : List Int) (j : Nat), vs = [.ref a, .int (j : Int)] ∧ SqL K H a (ns.map V.int) ∧
  ∀ p H' c s, Same H H' → H p = none → H' p = some (box c s 0) → Q (.ref p) H'
theorem ok_box {f : Addr} {fd : FuncData} (F : Fun K "_law_box" "_law_box" s_law_box f fd) (T : Txt mg) : FnOk P w K mg base CX0 1 f fd P_law_box (spBox K) := by
  refine F.ok sc_law_box (fun vs H Q E h => ?_) (fun cdv A outer s H vs Q E hr h => ?_)
  · obtain ⟨a, ns, j, rfl, _⟩ := h
    rfl
  · obtain ⟨a, ns, j, rfl, ha, k⟩ := h
    refine ⟨_, (pss_cons (ps_set (i := 2) sc_law_box.nd rfl (Or.inl rfl) pe_int)
    (pss_cons (ps_if (pt_cmpR op_lt (pv 1) (pe_callB c_len rfl T.b_len PySem.boot_len (pa_cons (pv 0) pa_nil)) (nomark _)) (pss_one (ps_set (i := 2) sc_law_box.nd rfl (Or.inl rfl) (pe_callB c_abs rfl T.b_abs (by decide +kernel) (pa_cons (pe_ix ix_list (pv 0) (pv 1) (fun _ _ => rfl)) pa_nil)))) pss_nil)
    (pss_cons (ps_set (i := 3) sc_law_box.nd rfl (Or.inl rfl) (pe_op op_add (pe_op op_add (pe_op op_mul (pe_callB c_len rfl T.b_len PySem.boot_len (pa_cons (pv 0) pa_nil)) pe_int) (pe_op op_mul (pv 1) pe_int)) pe_int))
    (pss_cons (ps_for PassesOwn.never rfl (pi_list (pe_slice sl_list (pv 0) po_none (po_some pe_int))) (pg_name (i := 4) sc_law_box.nd rfl (Or.inl rfl)) (pss_one (ps_set (i := 3) sc_law_box.nd rfl (Or.inl rfl) (pe_op op_mod (pe_callTy c_int rfl T.b_int (by decide +kernel) (pa_cons (pe_op op_add (pe_op op_mul (pv 3) pe_int) (pe_callB c_abs rfl T.b_abs (by decide +kernel) (pa_cons (pv 4) pa_nil))) pa_nil)) pe_int))))
    (pss_cons (ps_if (pt_cmpR op_ge (pv 2) (pe_op op_powW pe_int pe_int) (nomark _)) (pss_one (ps_ret (pe_lst (pa_cons (pv 2) (pa_cons (pv 3) (pa_cons pe_int pa_nil)))))) pss_nil)
    (pss_one (ps_ret (pe_lst (pa_cons pe_int (pa_cons (pe_op op_mod (pe_callTy c_int rfl T.b_int (by decide +kernel) (pa_cons (pe_op op_add (pv 3) (pe_op op_mul (pv 2) pe_int)) pa_nil)) pe_int) (pa_cons pe_int pa_nil))))))))))), ?_⟩
    refine Bar.rStart (σ := [some (.ref a), some (.int (j : Int)), none, none, none]) rfl ?_
    walk_at "rd"
    refine ite2 (fun h => ?_) (fun h => ?_)
    · have hj : j < ns.length := by
        have h1 := of_decide_eq_true h
        rw [List.length_map] at h1
        omega
      walk_at "rd"
      refine Bar.rIxL_ ha (Bar.at_map hj) ?_
      walk_at "rd"
      generalize (if ns[j] < 0 then -ns[j] else ns[j]) = cc
      refine Bar.rSlL_ ha fun q hq => ?_
      generalize (((ns.map V.int).length : Nat) : Int) * 97 + (j : Int) * 131 + 7 = salt
      refine Bar.forL (xs := cutV (ns.map V.int) none (some 16)) (fun _ σ H' => H' = upd H q (.lst (cutV (ns.map V.int) none (some 16))) ∧ ∃ (z : Int) (x : Option V), σ = [some (.ref a), some (.int (j : Int)), some (.int cc), some (.int z), x]) (SqL.of upd_same)
        ⟨rfl, salt, none, rfl⟩ (fun i σ H' _ ⟨e, _⟩ => by rw [e]; exact SqL.of upd_same) ?_ ?_
      · rintro i v σ H' hv ⟨rfl, z, x, rfl⟩
        obtain ⟨u, rfl⟩ := Bar.cut_int hv
        walk_at "rd"
        exact ⟨rfl, _, _, rfl⟩
      · rintro σ H' ⟨rfl, z, x, rfl⟩
        walk_at "rd"
        refine ite2 (fun h => ?_) (fun h => ?_)
        all_goals
          walk_at "rd"
          intro p hp
          walk_at "rd"
          refine k _ _ _ _ (fun b o e => Bar.lkNew hp (Bar.lkNew hq e)) (Bar.freeNew hp) upd_same
    · walk_at "rd"
      refine Bar.rSlL_ ha fun q hq => ?_
      generalize (((ns.map V.int).length : Nat) : Int) * 97 + (j : Int) * 131 + 7 = salt
      refine Bar.forL (xs := cutV (ns.map V.int) none (some 16)) (fun _ σ H' => H' = upd H q (.lst (cutV (ns.map V.int) none (some 16))) ∧ ∃ (z : Int) (x : Option V), σ = [some (.ref a), some (.int (j : Int)), some (.int 0), some (.int z), x]) (SqL.of upd_same)
        ⟨rfl, salt, none, rfl⟩ (fun i σ H' _ ⟨e, _⟩ => by rw [e]; exact SqL.of upd_same) ?_ ?_
      · rintro i v σ H' hv ⟨rfl, z, x, rfl⟩
        obtain ⟨u, rfl⟩ := Bar.cut_int hv
        walk_at "rd"
        exact ⟨rfl, _, _, rfl⟩
      · rintro σ H' ⟨rfl, z, x, rfl⟩
        walk_at "rd"
        refine ite2 (fun h => ?_) (fun h => ?_)
        all_goals
          walk_at "rd"
          intro p hp
          walk_at "rd"
          refine k _ _ _ _ (fun b o e => Bar.lkNew hp (Bar.lkNew hq e)) (Bar.freeNew hp) upd_same
def KpB (b : Addr) (s : Int) (H H' : Hp) : Prop := Kp b H H' ∧ ∃ c n, H' b = some (box c s n)
def spSize : Sp := fun vs H Q _ => ∃ (b : Addr) (c s n : Int), vs = [.ref b] ∧ H b = some (box c s n) ∧ ∀ r H', 0 ≤ r → r < big → KpB b s H H' → Q (.int r) H'
theorem ok_size {f : Addr} {fd : FuncData} (F : Fun K "_law_size" "_law_size" s_law_size f fd) (T : Txt mg) (f_law_draw : Fn P w K mg base "_law_draw" P_law_draw [] 1 spDraw) : FnOk P w K mg base CX0 2 f fd P_law_size spSize := by
  refine F.ok sc_law_size (fun vs H Q E h => ?_) (fun cdv A outer s H vs Q E hr h => ?_)
  · obtain ⟨b, c, z, n, rfl, _⟩ := h
    rfl
  · obtain ⟨b, c, z, n, rfl, hb, k⟩ := h
    refine ⟨_, (pss_cons (ps_set (i := 1) sc_law_size.nd rfl (Or.inl rfl) (pe_op op_powW (pe_op op_powW pe_int pe_int) pe_int))
    (pss_cons (ps_set (i := 2) sc_law_size.nd rfl (Or.inl rfl) (pe_tup (pa_cons pe_int (pa_cons (pe_op op_powW pe_int pe_int) (pa_cons (pe_op op_powW pe_int pe_int) (pa_cons pe_int (pa_cons (pe_op op_powW pe_int pe_int) (pa_cons (pv 1) (pa_cons (pe_op op_powW pe_int pe_int) (pa_cons pe_int (pa_cons (pe_op op_powW pe_int pe_int) (pa_cons pe_int (pa_cons (pe_op op_powW pe_int pe_int) (pa_cons pe_int pa_nil))))))))))))))
    (pss_one (ps_ret (pe_fn f_law_draw (hr.mono (by omega)) rfl (pa_cons (pv 0) (pa_cons (pe_ix ix_tup (pv 2) (pe_fn f_law_draw (hr.mono (by omega)) rfl (pa_cons (pv 0) (pa_cons pe_int pa_nil))) (fun _ _ => rfl)) pa_nil))))))), ?_⟩
    refine Bar.rStart (σ := [some (.ref b), none, none]) rfl ?_
    walk_at "rd"
    intro p hp
    walk_at "rd"
    refine ⟨b, c, z, n, 12, rfl, (by walk_at "lk"), by decide, by decide, fun r c' n' r0 r1 => ?_⟩
    obtain ⟨m, hm, m0, m1⟩ := kinds_at r0 r1
    refine Bar.rIxT_ (SqT.of (by walk_at "lk")) hm ?_
    walk_at "rd"
    refine ⟨b, c', z, n', m, rfl, upd_same, m0, m1, fun r c' n' r0 r1 => ?_⟩
    refine k _ _ r0 (Int.lt_of_lt_of_le r1 m1) ⟨fun a o na e => ?_, _, _, upd_same⟩
    exact Bar.lkNe na (Bar.lkNe na (Bar.lkNew hp e))
def spDrawA : Sp := fun vs H Q _ => ∃ (b : Addr) (c s n m : Int), vs = [.ref b, .int m] ∧ H b = some (box c s n) ∧ 0 < m ∧ m ≤ big ∧ ∀ r H', 0 ≤ r → r < m → KpB b s H H' → Q (.int r) H'
theorem drawA (F : Fn P w K mg base "_law_draw" P_law_draw [] 1 spDraw) : Fn P w K mg base "_law_draw" P_law_draw [] 1 spDrawA := by
  obtain ⟨f, fd, ds, h1, h2, h3, h4, ok⟩ := F.ex
  refine ⟨f, fd, ds, h1, h2, h3, h4, ok.imp fun vs H Q E h => ?_⟩
  obtain ⟨b, c, s, n, m, e, hb, m0, m1, k⟩ := h
  exact ⟨b, c, s, n, m, e, hb, m0, m1, fun r c' n' r0 r1 => k r _ r0 r1 ⟨Kp.upd, _, _, upd_same⟩⟩
def spNum : Sp := fun vs H Q _ => ∃ (b : Addr) (c s n : Int), vs = [.ref b] ∧ H b = some (box c s n) ∧ ∀ r H', -big < r → r < big → KpB b s H H' → Q (.int r) H'
theorem ok_number {f : Addr} {fd : FuncData} (F : Fun K "_law_number" "_law_number" s_law_number f fd) (T : Txt mg) (f_law_draw : Fn P w K mg base "_law_draw" P_law_draw [] 1 spDraw) (f_law_size : Fn P w K mg base "_law_size" P_law_size [] 2 spSize) :
    FnOk P w K mg base CX0 3 f fd P_law_number spNum := by
  refine F.ok sc_law_number (fun vs H Q E h => ?_) (fun cdv A outer s H vs Q E hr h => ?_)
  · obtain ⟨b, c, z, n, rfl, _⟩ := h
    rfl
  · obtain ⟨b, c, z, n, rfl, hb, k⟩ := h
    refine ⟨_, (pss_cons (ps_set (i := 1) sc_law_number.nd rfl (Or.inl rfl) (pe_fn f_law_size (hr.mono (by omega)) rfl (pa_cons (pv 0) pa_nil)))
    (pss_cons (ps_if (pt_cmpR op_eq (pe_fn f_law_draw (hr.mono (by omega)) rfl (pa_cons (pv 0) (pa_cons pe_int pa_nil))) pe_int (nomark _)) (pss_one (ps_ret (pv 1))) pss_nil)
    (pss_one (ps_ret (pe_un un_neg (pv 1)))))), ?_⟩
    refine Bar.rStart (σ := [some (.ref b), none]) rfl ?_
    walk_at "rd"
    refine ⟨b, c, z, n, rfl, hb, fun r H1 r0 r1 ⟨K1, c1, n1, hb1⟩ => ?_⟩
    walk_at "rd"
    refine ⟨b, c1, z, n1, 2, rfl, hb1, by decide, by decide, fun r2 c2 n2 _ _ => ?_⟩
    have KK : KpB b z H (upd H1 b (box c2 z n2)) := ⟨K1.trans Kp.upd, _, _, upd_same⟩
    walk_at "rd"
    refine ite2 (fun h => ?_) (fun h => ?_)
    · walk_at "rd"
      exact k _ _ (by omega) r1 KK
    · walk_at "rd"
      exact k _ _ (by omega) (by omega) KK
def spStep : Sp := fun vs H Q _ => ∃ (b : Addr) (c s n : Int), vs = [.ref b] ∧ H b = some (box c s n) ∧ ∀ r H', 1 ≤ r → r ≤ big → KpB b s H H' → Q (.int r) H'
theorem ok_step {f : Addr} {fd : FuncData} (F : Fun K "_law_step" "_law_step" s_law_step f fd) (T : Txt mg) (f_law_draw : Fn P w K mg base "_law_draw" P_law_draw [] 1 spDraw) (f_law_size : Fn P w K mg base "_law_size" P_law_size [] 2 spSize) :
    FnOk P w K mg base CX0 3 f fd P_law_step spStep := by
  refine F.ok sc_law_step (fun vs H Q E h => ?_) (fun cdv A outer s H vs Q E hr h => ?_)
  · obtain ⟨b, c, z, n, rfl, _⟩ := h
    rfl
  · obtain ⟨b, c, z, n, rfl, hb, k⟩ := h
    refine ⟨_, (pss_cons (ps_if (pt_cmpR op_eq (pe_fn f_law_draw (hr.mono (by omega)) rfl (pa_cons (pv 0) (pa_cons pe_int pa_nil))) pe_int (nomark _)) (pss_one (ps_ret (pe_op op_add pe_int (pe_fn f_law_draw (hr.mono (by omega)) rfl (pa_cons (pv 0) (pa_cons pe_int pa_nil)))))) pss_nil)
    (pss_one (ps_ret (pe_op op_add pe_int (pe_fn f_law_size (hr.mono (by omega)) rfl (pa_cons (pv 0) pa_nil)))))), ?_⟩
    refine Bar.rStart (σ := [some (.ref b)]) rfl ?_
    walk_at "rd"
    refine ⟨b, c, z, n, 2, rfl, hb, by decide, by decide, fun r2 c2 n2 _ _ => ?_⟩
    walk_at "rd"
    refine ite2 (fun h => ?_) (fun h => ?_)
    · walk_at "rd"
      refine ⟨b, c2, z, n2, 12, rfl, upd_same, by decide, by decide, fun r c3 n3 r0 r1 => ?_⟩
      walk_at "rd"
      refine k _ _ (by omega) (Int.le_trans (show 1 + r ≤ 12 by omega) (by decide)) ⟨Kp.upd.trans Kp.upd, _, _, upd_same⟩
    · walk_at "rd"
      refine ⟨b, c2, z, n2, rfl, upd_same, fun r H1 r0 r1 ⟨K1, c1, n1, hb1⟩ => ?_⟩
      walk_at "rd"
      exact k _ _ (by omega) (by omega) ⟨Kp.upd.trans K1, _, _, hb1⟩
def spNear (K : PySem.W.Frag) : Sp := fun vs H Q _ => ∃ (b t : Addr) (c s n x y : Int), vs = [.ref b, .ref t] ∧ H b = some (box c s n) ∧ SqT K H t [.int x, .int y] ∧ 1 ≤ x ∧ x ≤ big ∧ ∀ r H', -(3 * big) < r → r < 3 * big → KpB b s H H' → Q (.int r) H'
theorem near_at {r : Int} (h0 : 0 ≤ r) (h1 : r < 4) (h : r ≠ 0) : ∃ m, atI [V.int 0, V.int 1, V.int (-1)] (r - 1) = some (.int m) ∧ -1 ≤ m ∧ m ≤ 1 := by
  have h : r = 1 ∨ r = 2 ∨ r = 3 := by omega
  rcases h with h | h | h <;> (subst h; exact ⟨_, rfl, by decide, by decide⟩)
theorem ok_near {f : Addr} {fd : FuncData} (F : Fun K "_law_near" "_law_near" s_law_near f fd) (T : Txt mg) (f_law_draw : Fn P w K mg base "_law_draw" P_law_draw [] 1 spDraw) (f_law_number : Fn P w K mg base "_law_number" P_law_number [] 3 spNum) :
    FnOk P w K mg base CX0 4 f fd P_law_near (spNear K) := by
  refine F.ok sc_law_near (fun vs H Q E h => ?_) (fun cdv A outer s H vs Q E hr h => ?_)
  · obtain ⟨b, t, c, z, n, x, y, rfl, _⟩ := h
    rfl
  · obtain ⟨b, t, c, z, n, x, y, rfl, hb, ht, x1, x2, k⟩ := h
    have big1 : 1 ≤ big := by decide
    refine ⟨_, (pss_cons (ps_set (i := 2) sc_law_near.nd rfl (Or.inl rfl) (pe_fn f_law_number (hr.mono (by omega)) rfl (pa_cons (pv 0) pa_nil)))
    (pss_cons (ps_set (i := 3) sc_law_near.nd rfl (Or.inl rfl) (pe_fn f_law_draw (hr.mono (by omega)) rfl (pa_cons (pv 0) (pa_cons pe_int pa_nil))))
    (pss_cons (ps_if (pt_cmpR op_eq (pv 3) pe_int (nomark _)) (pss_one (ps_ret (pv 2))) pss_nil)
    (pss_one (ps_ret (pe_op op_add (pe_op op_sub (pv 2) (pe_op op_mod (pe_callTy c_int rfl T.b_int (by decide +kernel) (pa_cons (pe_op op_sub (pv 2) (pe_ix ix_tup (pv 1) pe_int (fun _ _ => rfl))) pa_nil)) (pe_ix ix_tup (pv 1) pe_int (fun _ _ => rfl)))) (pe_ix ix_tup (pe_tup (pa_cons pe_int (pa_cons pe_int (pa_cons (pe_un un_neg pe_int) pa_nil)))) (pe_op op_sub (pv 3) pe_int) (fun _ _ => rfl)))))))), ?_⟩
    refine Bar.rStart (σ := [some (.ref b), some (.ref t), none, none]) rfl ?_
    walk_at "rd"
    refine ⟨b, c, z, n, rfl, hb, fun r H1 r0 r1 ⟨K1, c1, n1, hb1⟩ => ?_⟩
    have ht1 := K1.sqT hb ht
    walk_at "rd"
    refine ⟨b, c1, z, n1, 4, rfl, hb1, by decide, by decide, fun r2 c2 n2 q0 q1 => ?_⟩
    have KK : KpB b z H (upd H1 b (box c2 z n2)) := ⟨K1.trans Kp.upd, _, _, upd_same⟩
    have ht2 := (Kp.upd (o := box c2 z n2)).sqT hb1 ht1
    walk_at "rd"
    refine ite2 (fun h => ?_) (fun h => ?_)
    · walk_at "rd"
      exact k _ _ (by omega) (by omega) KK
    · walk_at "rd"
      intro p hp
      have e1 := Int.emod_nonneg (r - y) (show x ≠ 0 by omega)
      have e2 := Int.emod_lt_of_pos (r - y) (show 0 < x by omega)
      obtain ⟨m, hm, m1, m2⟩ := near_at q0 q1 (fun e => h (by rw [e]; rfl))
      walk_at "rd"
      refine Bar.rIxT_ (SqT.of upd_same) hm ?_
      walk_at "rd"
      generalize (r - y) % x = z1 at *
      refine k _ _ (by omega) (by omega) ⟨KK.1.trans (Kp.new hp), ?_⟩
      obtain ⟨c3, n3, e3⟩ := KK.2
      exact ⟨_, _, Bar.lkNew hp e3⟩
end

end Lw
namespace Lw
open PySem L2 Bar

/-! ### _law_same -/
def flat : V → Prop
  | .non => True
  | .bl _ => True
  | .int _ => True
  | .str _ => True
  | _ => False
def SameAt (H : Hp) : Nat → V → V → Prop
  | 0, _, _ => False
  | n + 1, v, u => (v = u ∧ flat v) ∨ ∃ (a b : Addr) (xs ys : List V), v = .ref a ∧ u = .ref b ∧ ((H a = some (.lst xs) ∧ H b = some (.lst ys)) ∨ (H a = some (.tup xs) ∧ H b = some (.tup ys))) ∧
    xs.length ≤ 1000 ∧ xs.length = ys.length ∧ ∀ (i : Nat) (x y : V), xs[i]? = some x → ys[i]? = some y → SameAt H n x y
def spSame (n : Nat) : Sp := fun vs H Q _ => ∃ v u, vs = [v, u] ∧ SameAt H n v u ∧ Q (.bl true) H
def spInt : Sp := fun vs H Q _ => ∃ i : Int, vs = [.int i] ∧ Q (.bl true) H
instance {i : Int} {H : Hp} {Q : VK} {E : XK} : Bar.Rd (spInt ([.int i] ++ []) H Q E) (Q (.bl true) H) := ⟨fun h => ⟨i, rfl, h⟩⟩
theorem same_int {n : Nat} {i : Int} {H : Hp} {Q : VK} {E : XK} (h : Q (.bl true) H) : spSame (n + 1) [.int i, .int i] H Q E := ⟨_, _, rfl, .inl ⟨rfl, trivial⟩, h⟩
theorem same_intE {n : Nat} {i j : Int} {H : Hp} {Q : VK} {E : XK} (e : i = j) (h : Q (.bl true) H) : spSame (n + 1) [.int i, .int j] H Q E := by
  subst e
  exact same_int h
theorem same_bl {n : Nat} {i : Bool} {H : Hp} {Q : VK} {E : XK} (h : Q (.bl true) H) : spSame (n + 1) [.bl i, .bl i] H Q E := ⟨_, _, rfl, .inl ⟨rfl, trivial⟩, h⟩
section
variable {P : Program} {w : World} {K : PySem.W.Frag} {mg : Str → Option Value} {base : Heap}
theorem ok_int {f : Addr} {fd : FuncData} (F : Fun K "_law_int" "_law_int" s_law_int f fd) (T : Txt mg) : FnOk P w K mg base CX0 1 f fd P_law_int spInt := by
  refine F.ok sc_law_int (fun vs H Q E h => ?_) (fun cdv A outer s H vs Q E hr h => ?_)
  · obtain ⟨i, rfl, _⟩ := h
    rfl
  · obtain ⟨i, rfl, k⟩ := h
    refine ⟨_, (pss_one (ps_ret (pe_and (pe_callB call_isi rfl T.b_isinstance (by decide +kernel) (pa_cons (pv 0) (pa_cons (pe_bltn (v := .ty "int") (u := .type "int") rfl T.b_int (by decide +kernel) rfl) pa_nil))) (pe_one (pe_not (pe_callB call_isi rfl T.b_isinstance (by decide +kernel) (pa_cons (pv 0) (pa_cons (pe_bltn (v := .ty "bool") (u := .type "bool") rfl T.b_bool (by decide +kernel) rfl) pa_nil)))))))), ?_⟩
    refine Bar.rStart (σ := [some (.int i)]) rfl ?_
    walk_at "rd"
    exact k
theorem fn_same {f : Addr} {fd : FuncData} (F : Fun K "_law_same" "_law_same" s_law_same f fd) (T : Txt mg) (gf : mg "_law_same" = some (.ref f)) (bf : Binds K fd P_law_same [])
    (f_law_int : Fn P w K mg base "_law_int" P_law_int [] 1 spInt) : ∀ n, Fn P w K mg base "_law_same" P_law_same [] (n + 1) (spSame n) := by
  intro n
  induction n with
  | zero =>
    refine ⟨f, fd, [], gf, F.kp, bf, .nil, fn_false ?_⟩
    rintro vs H Q E ⟨v, u, _, h, _⟩
    exact h
  | succ n f_law_same =>
    refine ⟨f, fd, [], gf, F.kp, bf, .nil, F.ok sc_law_same (fun vs H Q E h => ?_) (fun cdv A outer s H vs Q E hr h => ?_)⟩
    · obtain ⟨v, u, rfl, _⟩ := h
      rfl
    · obtain ⟨v, u, rfl, h, k⟩ := h
      have hr1 : Room 1 (A.deeper (PyProof.Rows.envOfC "_law_same" (defScope s_law_same) s.heap.objs.size f cdv)) := hr.mono (by omega)
      have hr2 : Room (n + 1) (A.deeper (PyProof.Rows.envOfC "_law_same" (defScope s_law_same) s.heap.objs.size f cdv)) := hr
      refine ⟨_, (pss_cons (ps_if (pt_cmpR o_isN (pv 1) pe_non (nomark _)) (pss_one (ps_ret (pe_cmpR o_isN (pv 0) pe_non (nomark _)))) pss_nil)
    (pss_cons (ps_if (pt_val (pe_callB call_isi rfl T.b_isinstance (by decide +kernel) (pa_cons (pv 1) (pa_cons (pe_bltn (v := .ty "bool") (u := .type "bool") rfl T.b_bool (by decide +kernel) rfl) pa_nil)))) (pss_one (ps_ret (pe_and (pe_callB call_isi rfl T.b_isinstance (by decide +kernel) (pa_cons (pv 0) (pa_cons (pe_bltn (v := .ty "bool") (u := .type "bool") rfl T.b_bool (by decide +kernel) rfl) pa_nil))) (pe_one (pe_cmpR op_eq (pv 0) (pv 1) (nomark _)))))) pss_nil)
    (pss_cons (ps_if (pt_val (pe_callB call_isi rfl T.b_isinstance (by decide +kernel) (pa_cons (pv 1) (pa_cons (pe_bltn (v := .ty "int") (u := .type "int") rfl T.b_int (by decide +kernel) rfl) pa_nil)))) (pss_one (ps_ret (pe_and (pe_fn f_law_int (hr.mono (by omega)) rfl (pa_cons (pv 0) pa_nil)) (pe_one (pe_cmpR op_eq (pv 0) (pv 1) (nomark _)))))) pss_nil)
    (pss_cons (ps_if (pt_val (pe_callB call_isi rfl T.b_isinstance (by decide +kernel) (pa_cons (pv 1) (pa_cons (pe_bltn (v := .ty "str") (u := .type "str") rfl T.b_str (by decide +kernel) rfl) pa_nil)))) (pss_one (ps_ret (pe_and (pe_callB call_isi rfl T.b_isinstance (by decide +kernel) (pa_cons (pv 0) (pa_cons (pe_bltn (v := .ty "str") (u := .type "str") rfl T.b_str (by decide +kernel) rfl) pa_nil))) (pe_one (pe_cmpR op_eq (pv 0) (pv 1) (nomark _)))))) pss_nil)
    (pss_cons (ps_if (PW.pt (pw_or (pt_cmpR op_ne (pe_callB call_isi rfl T.b_isinstance (by decide +kernel) (pa_cons (pv 1) (pa_cons (pe_bltn (v := .ty "list") (u := .type "list") rfl T.b_list (by decide +kernel) rfl) pa_nil))) (pe_callB call_isi rfl T.b_isinstance (by decide +kernel) (pa_cons (pv 0) (pa_cons (pe_bltn (v := .ty "list") (u := .type "list") rfl T.b_list (by decide +kernel) rfl) pa_nil))) (nomark _)) (pw_or1 (pt_cmpR op_ne (pe_callB call_isi rfl T.b_isinstance (by decide +kernel) (pa_cons (pv 1) (pa_cons (pe_bltn (v := .ty "tuple") (u := .type "tuple") rfl T.b_tuple (by decide +kernel) rfl) pa_nil))) (pe_callB call_isi rfl T.b_isinstance (by decide +kernel) (pa_cons (pv 0) (pa_cons (pe_bltn (v := .ty "tuple") (u := .type "tuple") rfl T.b_tuple (by decide +kernel) rfl) pa_nil))) (nomark _))))) (pss_one (ps_ret pe_bl)) pss_nil)
    (pss_cons (ps_if (pt_cmpR op_ne (pe_callB c_len rfl T.b_len PySem.boot_len (pa_cons (pv 0) pa_nil)) (pe_callB c_len rfl T.b_len PySem.boot_len (pa_cons (pv 1) pa_nil)) (nomark _)) (pss_one (ps_ret pe_bl)) pss_nil)
    (pss_cons (ps_for PassesOwn.never rfl (pi_range1 rfl T.b_range (pa_cons (pe_callB c_len rfl T.b_len PySem.boot_len (pa_cons (pv 1) pa_nil)) pa_nil)) (pg_name (i := 2) sc_law_same.nd rfl (Or.inl rfl)) (pss_one (ps_if (pt_not (pt_val (pe_fn f_law_same (hr.mono (by omega)) rfl (pa_cons (pe_ix ix_seq (pv 0) (pv 2) (fun _ _ => rfl)) (pa_cons (pe_ix ix_seq (pv 1) (pv 2) (fun _ _ => rfl)) pa_nil))))) (pss_one (ps_ret pe_bl)) pss_nil)))
    (pss_one (ps_ret pe_bl))))))))), ?_⟩
      refine Bar.rStart (σ := [some v, some u, none]) rfl ?_
      rcases h with ⟨rfl, hf⟩ | ⟨a, b, xs, ys, rfl, rfl, hab, hx, hxy, hall⟩
      · cases v with
        | non =>
          walk_at "rd"
          exact k
        | bl z =>
          walk_at "rd"
          rw [beq_self_eq_true]
          exact k
        | int z =>
          walk_at "rd"
          rw [decide_eq_true rfl]
          exact k
        | str z =>
          walk_at "rd"
          exact k
        | byt z => exact hf.elim
        | flt z => exact hf.elim
        | ref z => exact hf.elim
        | ty z => exact hf.elim
      · have hloop : ∀ x : Option V, x = none → True := fun _ _ => trivial
        rcases hab with ⟨ha, hb⟩ | ⟨ha, hb⟩
        · walk_at "rd"
          rw [hxy, decide_eq_true rfl]
          walk_at "rd"
          refine Bar.forR ys.length (by simp) (fun _ σ H' => H' = H ∧ ∃ x, σ = [some (.ref a), some (.ref b), x]) (by omega) ⟨rfl, _, rfl⟩ ?_ ?_
          · rintro i σ H' hi ⟨e, x, rfl⟩
            subst e
            obtain ⟨y, hy⟩ : ∃ y, ys[i]? = some y := ⟨_, List.getElem?_eq_getElem hi⟩
            obtain ⟨x', hx'⟩ : ∃ y, xs[i]? = some y := ⟨_, List.getElem?_eq_getElem (by omega)⟩
            walk_at "rd"
            refine Bar.rIxSL ha (atI_nat hx') ?_
            walk_at "rd"
            refine Bar.rIxSL hb (atI_nat hy) ?_
            walk_at "rd"
            refine ⟨x', y, rfl, hall i _ _ hx' hy, ?_⟩
            walk_at "rd"
            exact ⟨rfl, _, rfl⟩
          · rintro σ H' ⟨rfl, x, rfl⟩
            walk_at "rd"
            exact k
        · walk_at "rd"
          rw [hxy, decide_eq_true rfl]
          walk_at "rd"
          refine Bar.forR ys.length (by simp) (fun _ σ H' => H' = H ∧ ∃ x, σ = [some (.ref a), some (.ref b), x]) (by omega) ⟨rfl, _, rfl⟩ ?_ ?_
          · rintro i σ H' hi ⟨e, x, rfl⟩
            subst e
            obtain ⟨y, hy⟩ : ∃ y, ys[i]? = some y := ⟨_, List.getElem?_eq_getElem hi⟩
            obtain ⟨x', hx'⟩ : ∃ y, xs[i]? = some y := ⟨_, List.getElem?_eq_getElem (by omega)⟩
            walk_at "rd"
            refine Bar.rIxST ha (atI_nat hx') ?_
            walk_at "rd"
            refine Bar.rIxST hb (atI_nat hy) ?_
            walk_at "rd"
            refine ⟨x', y, rfl, hall i _ _ hx' hy, ?_⟩
            walk_at "rd"
            exact ⟨rfl, _, rfl⟩
          · rintro σ H' ⟨rfl, x, rfl⟩
            walk_at "rd"
            exact k
end


/-! ### grids -/
abbrev gf (st o : Int) : List (Str × V) := [("step", .int st), ("offset", .int o)]
def GridAt (C : Addr) (H : Hp) (g : Addr) (st o : Int) : Prop := ∃ dx, H g = some (.ins C dx (gf st o))
structure GTxt (K : PySem.W.Frag) (C : Addr) : Prop where
  cl : Cls K C
  nS : NoAttr K C "step"
  nO : NoAttr K C "offset"
theorem put_step (st : Int) : putF ("step" : Str) (.int st) [] = ([("step", V.int st)] : List (Str × V)) := rfl
theorem put_off (st o : Int) : putF ("offset" : Str) (.int o) ([("step", V.int st)] : List (Str × V)) = gf st o := by
  show (if ("step" : Str) = "offset" then _ else (("step" : Str), V.int st) :: putF "offset" (V.int o) []) = _
  rw [if_neg (show ¬ (("step" : Str) = "offset") by decide +kernel)]
  rfl
theorem gf_step (st o : Int) : (gf st o).lookup ("step" : Str) = some (.int st) := by
  rw [← put_off, lookup_putF, if_neg (show ¬ (("step" : Str) = "offset") by decide +kernel), ← put_step, lookup_putF, if_pos rfl]
theorem gf_off (st o : Int) : (gf st o).lookup ("offset" : Str) = some (.int o) := by
  rw [← put_off, lookup_putF, if_pos rfl]
/-- a new grid -/
def spInit (C : Addr) : Sp := fun vs H Q _ => ∃ (p dx : Addr) (st o : Int), vs = [.ref p, .int st, .int o] ∧ H p = some (.ins C dx []) ∧ 1 ≤ st ∧ ∀ H', Kp p H H' → H' p = some (.ins C dx (gf st (o % st))) → Q .non H'
def spIn (C : Addr) : Sp := fun vs H Q _ => ∃ (g : Addr) (st o x : Int), vs = [.ref g, .int x] ∧ GridAt C H g st o ∧ 1 ≤ st ∧ Q (.bl (decide (x % st = o))) H
section
variable {P : Program} {w : World} {K : PySem.W.Frag} {mg : Str → Option Value} {base : Heap} {C : Addr}
theorem mkG {H : Hp} {R : Addr → Hp → Prop} {E : XK} {st o : Int} (s1 : 1 ≤ st) (h : ∀ x H2, H x = none → Same H H2 → GridAt C H2 x st (o % st) → R x H2) :
    ∀ x dx, H x = none → H dx = none → dx ≠ x → spInit C [.ref x, .int st, .int o] (upd (upd H dx (.own x)) x (.ins C dx [])) (fun v H2 => v = .non ∧ R x H2) E := by
  intro x dx hx hdx ne
  refine ⟨x, dx, st, o, rfl, upd_same, s1, fun H' k hp => ⟨rfl, h x H' hx (fun b u e => ?_) ⟨dx, hp⟩⟩⟩
  have nb : b ≠ x := ne_of_none e hx
  refine k b u nb ?_
  rw [upd_ne nb]
  exact Bar.lkNew hdx e
theorem GridAt.same {H H' : Hp} {g : Addr} {st o : Int} (k : Same H H') (h : GridAt C H g st o) : GridAt C H' g st o := by
  obtain ⟨dx, h⟩ := h
  exact ⟨dx, k _ _ h⟩
theorem GridAt.kp {b : Addr} {xs : List V} {H H' : Hp} {g : Addr} {st o : Int} (k : Kp b H H') (hb : H b = some (.lst xs)) (h : GridAt C H g st o) : GridAt C H' g st o := by
  obtain ⟨dx, h⟩ := h
  exact ⟨dx, k _ _ (ne_of h hb (by intro z; cases z)) h⟩
theorem GridAt.kp2 {b l : Addr} {xs : List V} {H H' : Hp} {g : Addr} {st o : Int} (k : Kp2 b l H H') (hb : H b = some (.lst xs)) (hl : H l = none) (h : GridAt C H g st o) : GridAt C H' g st o := by
  obtain ⟨dx, h⟩ := h
  exact ⟨dx, k _ _ (ne_of h hb (by intro z; cases z)) (ne_of_none h hl) h⟩
theorem rIn_ {H : Hp} {g : Addr} {st o x : Int} {R : Bool → Prop} (h : GridAt C H g st o) (s1 : 1 ≤ st) (r : R (decide (x % st = o))) {Q : VK} (e : ∀ b, R b → Q (.bl b) H) : rOwnIn C (spIn C) (.int x) (.ref g) H Q := by
  obtain ⟨dx, hg⟩ := h
  exact ⟨g, dx, _, rfl, hg, g, st, o, x, rfl, ⟨dx, hg⟩, s1, _, rfl, e _ r⟩
theorem rInG {H : Hp} {g : Addr} {st o x : Int} {Q : VK} (h : GridAt C H g st o) (s1 : 1 ≤ st) (r : Q (.bl (decide (x % st = o))) H) : rOwnIn C (spIn C) (.int x) (.ref g) H Q := by
  obtain ⟨dx, hg⟩ := h
  exact ⟨g, dx, _, rfl, hg, g, st, o, x, rfl, ⟨dx, hg⟩, s1, _, rfl, r⟩
theorem in_iff (u b a : Int) : decide (u % a = b % a) = decide ((u - b) % a = 0) := decide_eq_decide.mpr Int.emod_eq_emod_iff_emod_sub_eq_zero
theorem in_ne (u b a : Int) : (!(decide (u % a = b % a) == decide ((u - b) % a = 0))) = false := by
  rw [in_iff]
  simp
theorem GridAt.new {H : Hp} {g p : Addr} {u : HO} {st o : Int} (hp : H p = none) (h : GridAt C H g st o) : GridAt C (upd H p u) g st o := by
  obtain ⟨dx, h⟩ := h
  exact ⟨dx, Bar.lkNew hp h⟩
theorem ok_init {f : Addr} {fd : FuncData} {dvs : List V} (F : FunD K "__init__" "Grid.__init__" (defArgs s_Grid___init__) (defBody s_Grid___init__) (defScope s_Grid___init__) dvs [] f fd) (G : GTxt K C) : FnOk P w K mg base CX0 1 f fd P_Grid___init__ (spInit C) := by
  refine F.ok sc_Grid___init__ (fun vs H Q E h => ?_) (fun cdv A outer s H vs Q E hr h => ?_)
  · obtain ⟨p, dx, st, o, rfl, _⟩ := h
    rfl
  · obtain ⟨p, dx, st, o, rfl, hp, s1, k⟩ := h
    refine ⟨_, PSs.nox (pss_cons (ps_if (pt_cmpR op_lt (pv 1) pe_int (nomark _)) (pss_one ps_never) pss_nil)
    (pss_cons (ps_fld (pv 0) (pv 1) rfl)
    (pss_one (ps_fld (pv 0) (pe_op op_mod (pv 2) (pv 1)) rfl)))), ?_⟩
    refine Bar.rStart (σ := [some (.ref p), some (.int st), some (.int o)]) rfl ?_
    walk_at "rd"
    refine ite2 (fun h => absurd (of_decide_eq_true h) (by omega)) (fun h => ?_)
    walk_at "rd"
    refine ⟨p, C, dx, _, rfl, hp, G.cl, G.nS, (by show 0 < 1000; decide), ?_⟩
    rw [put_step]
    walk_at "rd"
    refine ⟨p, C, dx, _, rfl, upd_same, G.cl, G.nO, (by show 1 < 1000; decide), ?_⟩
    rw [put_off]
    walk_at "rd"
    refine k _ (fun a o' n e => ?_) upd_same
    rw [upd_ne n, upd_ne n]
    exact e
theorem ok_in {f : Addr} {fd : FuncData} (F : Fun K "__contains__" "Grid.__contains__" s_Grid___contains__ f fd) (G : GTxt K C) : FnOk P w K mg base CX0 1 f fd P_Grid___contains__ (spIn C) := by
  refine F.ok sc_Grid___contains__ (fun vs H Q E h => ?_) (fun cdv A outer s H vs Q E hr h => ?_)
  · obtain ⟨g, st, o, x, rfl, _⟩ := h
    rfl
  · obtain ⟨g, st, o, x, rfl, ⟨dx, hg⟩, s1, k⟩ := h
    refine ⟨_, (pss_one (ps_ret (pe_cmpR op_eq (pe_op op_mod (pv 1) (pe_fld (pv 0) rfl)) (pe_fld (pv 0) rfl) (nomark _)))), ?_⟩
    refine Bar.rStart (σ := [some (.ref g), some (.int x)]) rfl ?_
    walk_at "rd"
    refine Bar.rFldV hg G.cl G.nS (gf_step _ _) ?_
    walk_at "rd"
    refine Bar.rFldV hg G.cl G.nO (gf_off _ _) ?_
    walk_at "rd"
    exact k
end


/-! ### more of the grids -/
def spG1 (C : Addr) (f : Int → Int → Int → V) (ok : Int → Int → Int → Prop) : Sp := fun vs H Q _ => ∃ (g : Addr) (st o x : Int), vs = [.ref g, .int x] ∧ GridAt C H g st o ∧ 1 ≤ st ∧ st ≤ big ∧ ok st o x ∧ Q (f st o x) H
abbrev spTick (C : Addr) : Sp := spG1 C (fun st o n => .int (o + st * n)) (fun st _ n => CMulW st n)
abbrev spAfter (C : Addr) : Sp := spG1 C (fun st o t => .int (t + (o - t) % st)) (fun _ _ _ => True)
abbrev spBefore (C : Addr) : Sp := spG1 C (fun st o t => .int (t - (t - o) % st)) (fun _ _ _ => True)
abbrev spDiv (C : Addr) : Sp := spG1 C (fun st o t => .int ((t - o) / st)) (fun _ _ _ => True)
abbrev spMod (C : Addr) : Sp := spG1 C (fun st o t => .int ((t - o) % st)) (fun _ _ _ => True)
section
variable {P : Program} {w : World} {K : PySem.W.Frag} {mg : Str → Option Value} {base : Heap} {C : Addr}
theorem rFS {H : Hp} {g : Addr} {st o : Int} {R : V → Prop} (G : GTxt K C) (h : GridAt C H g st o) (r : R (.int st)) : ∃ a C dx fs v, V.ref g = .ref a ∧ H a = some (.ins C dx fs) ∧ Cls K C ∧ NoAttr K C "step" ∧ fs.lookup ("step" : Str) = some v ∧ R v := by
  obtain ⟨dx, hg⟩ := h
  exact Bar.rFldV hg G.cl G.nS (gf_step _ _) r
theorem rFO {H : Hp} {g : Addr} {st o : Int} {R : V → Prop} (G : GTxt K C) (h : GridAt C H g st o) (r : R (.int o)) : ∃ a C dx fs v, V.ref g = .ref a ∧ H a = some (.ins C dx fs) ∧ Cls K C ∧ NoAttr K C "offset" ∧ fs.lookup ("offset" : Str) = some v ∧ R v := by
  obtain ⟨dx, hg⟩ := h
  exact Bar.rFldV hg G.cl G.nO (gf_off _ _) r
theorem gf_none (st o : Int) {m : Str} (h1 : ¬ m = "step") (h2 : ¬ m = "offset") : (gf st o).lookup m = none := by
  rw [← put_off, lookup_putF, if_neg h2, ← put_step, lookup_putF, if_neg h1]
  rfl
/-- a method of a grid is looked up -/
theorem rMG {H : Hp} {g : Addr} {st o : Int} {m : Str} {R : Prop} (h : GridAt C H g st o) (h1 : ¬ m = "step") (h2 : ¬ m = "offset") (r : R) : ∃ a dx fs, V.ref g = .ref a ∧ H a = some (.ins C dx fs) ∧ fs.lookup m = none ∧ R := by
  obtain ⟨dx, hg⟩ := h
  exact ⟨g, dx, _, rfl, hg, gf_none _ _ h1 h2, r⟩
theorem rGL {H : Hp} {g : Addr} {st o i : Int} {sp : Sp} {Q : VK} (h : GridAt C H g st o) (r : sp [.ref g, .int i] H Q E0) : rOwnL C sp (.ref g) (.int i) H Q := by
  obtain ⟨dx, hg⟩ := h
  exact ⟨g, dx, _, i, rfl, rfl, hg, r⟩
theorem rGR {H : Hp} {g : Addr} {st o i : Int} {sp : Sp} {Q : VK} (h : GridAt C H g st o) (r : sp [.ref g, .int i] H Q E0) : rOwnR C sp (.int i) (.ref g) H Q := by
  obtain ⟨dx, hg⟩ := h
  exact ⟨g, dx, _, i, rfl, rfl, hg, r⟩
theorem st_div {st : Int} (h1 : 1 ≤ st) (h2 : st ≤ big) : CDivW 0 st := wide_div (by omega) (log_big (by omega) h2) (by decide) (by decide)
end

section
variable {P : Program} {w : World} {K : PySem.W.Frag} {mg : Str → Option Value} {base : Heap} {C : Addr}
theorem ok_tick_of {f : Addr} {fd : FuncData} (F : Fun K "tick_of" "Grid.tick_of" s_Grid_tick_of f fd) (G : GTxt K C) : FnOk P w K mg base CX0 1 f fd P_Grid_tick_of (spTick C) := by
  refine F.ok sc_Grid_tick_of (fun vs H Q E h => ?_) (fun cdv A outer s H vs Q E hr h => ?_)
  · obtain ⟨g, st, o, x, rfl, _⟩ := h
    rfl
  · obtain ⟨g, st, o, x, rfl, hg, s1, s2, c, k⟩ := h
    refine ⟨_, (pss_one (ps_ret (pe_op op_add (pe_fld (pv 0) rfl) (pe_op op_mulW (pe_fld (pv 0) rfl) (pv 1))))), ?_⟩
    refine Bar.rStart (σ := [some (.ref g), some (.int x)]) rfl ?_
    walk_at "rd"
    refine rFO G hg ?_
    walk_at "rd"
    refine rFS G hg ?_
    walk_at "rd"
    exact k
end


/-! ### _law_holds -/
structure GIsi (K : PySem.W.Frag) (mg : Str → Option Value) (C : Addr) : Prop where
  g : mg "Grid" = some (.ref C)
  cl : Cls K C
  ha : PySem.W.findIn K (.ref C) "__class__" = some (some (.builtin "object.__class__"))
  hn : PySem.W.specialIn K (.builtin "object.__class__") "__get__" = some (some (.builtin "getset_descriptor.__get__"))
  htk : PySem.W.takesIn K (.builtin "object.__class__") = some true
  hm : PySem.W.mroIn K C (.type "object") = some true
def spHolds (C : Addr) : Sp := fun vs H Q _ => ∃ (g : Addr) (st o : Int), vs = [.ref g, .int st, .int o] ∧ GridAt C H g st o ∧ ∀ H', Same H H' → Q (.bl true) H'
section
variable {P : Program} {w : World} {K : PySem.W.Frag} {mg : Str → Option Value} {base : Heap} {C : Addr}
theorem isiG {H : Hp} {g : Addr} {st o : Int} {Q : VK} (I : GIsi K mg C) (h : GridAt C H g st o) (q : Q (.bl true) H) : rIsi K [.ref g, .ref C] H Q := by
  obtain ⟨dx, hg⟩ := h
  refine ⟨.ref g, .ref C, _, _, true, rfl, .own C, .base (.ins hg I.cl I.ha I.hn I.htk I.hm), ?_, q⟩
  unfold PySem.W.kitOne
  rw [if_pos (beq_self_eq_true _)]
theorem ok_holds {f : Addr} {fd : FuncData} (F : Fun K "_law_holds" "_law_holds" s_law_holds f fd) (T : Txt mg) (G : GTxt K C) (I : GIsi K mg C) (f_law_same : Fn P w K mg base "_law_same" P_law_same [] 3 (spSame 2)) : FnOk P w K mg base CX0 4 f fd P_law_holds (spHolds C) := by
  refine F.ok sc_law_holds (fun vs H Q E h => ?_) (fun cdv A outer s H vs Q E hr h => ?_)
  · obtain ⟨g, st, o, rfl, _⟩ := h
    rfl
  · obtain ⟨g, st, o, rfl, hg, k⟩ := h
    refine ⟨_, (pss_one (ps_ret (pe_and (pe_callB call_isi rfl T.b_isinstance (by decide +kernel) (pa_cons (pv 0) (pa_cons (pe_glob (v := .ref C) rfl I.g rfl) pa_nil))) (pe_one (pe_fn f_law_same (hr.mono (by omega)) rfl (pa_cons (pe_lst (pa_cons (pe_fld (pv 0) rfl) (pa_cons (pe_fld (pv 0) rfl) pa_nil))) (pa_cons (pe_lst (pa_cons (pv 1) (pa_cons (pv 2) pa_nil))) pa_nil))))))), ?_⟩
    refine Bar.rStart (σ := [some (.ref g), some (.int st), some (.int o)]) rfl ?_
    walk_at "rd"
    refine isiG I hg ?_
    walk_at "rd"
    refine rFS G hg ?_
    walk_at "rd"
    refine rFO G hg ?_
    walk_at "rd"
    intro p hp
    walk_at "rd"
    intro q hq
    walk_at "rd"
    refine ⟨_, _, rfl, .inr ⟨p, q, [.int st, .int o], [.int st, .int o], rfl, rfl, .inl ⟨by walk_at "lk", upd_same⟩, by simp, rfl, fun i x y hx hy => ?_⟩, ?_⟩
    · rw [hx] at hy
      have e := Option.some.inj hy
      subst e
      refine .inl ⟨rfl, ?_⟩
      have hm := List.mem_of_getElem? hx
      rcases List.mem_cons.mp hm with e | hm
      · subst e
        trivial
      · have e := List.mem_singleton.mp hm
        subst e
        trivial
    · walk_at "rd"
      exact k _ fun b u e => Bar.lkNew hq (Bar.lkNew hp e)
end


/-! ### two rows, two grids -/
theorem GridAt.kpn {C b g : Addr} {H H' : Hp} {st o : Int} (k : Kp b H H') (n : g ≠ b) (h : GridAt C H g st o) : GridAt C H' g st o := by
  obtain ⟨dx, h⟩ := h
  exact ⟨dx, k _ _ n h⟩
structure Two (C b t1 t2 R M g1 g2 : Addr) (a1 b1 a2 b2 : Int) (H : Hp) : Prop where
  T1 : H t1 = some (.tup [.int a1, .int b1])
  T2 : H t2 = some (.tup [.int a2, .int b2])
  TR : H R = some (.lst [.ref t1, .ref t2])
  TM : H M = some (.lst [.ref g1, .ref g2])
  G1 : GridAt C H g1 a1 (b1 % a1)
  G2 : GridAt C H g2 a2 (b2 % a2)
  n1 : t1 ≠ b
  n2 : t2 ≠ b
  nR : R ≠ b
  nM : M ≠ b
  m1 : g1 ≠ b
  m2 : g2 ≠ b
section
variable {C b t1 t2 R M g1 g2 : Addr} {a1 b1 a2 b2 : Int} {H H' : Hp}
theorem Two.kp (k : Kp b H H') (h : Two C b t1 t2 R M g1 g2 a1 b1 a2 b2 H) : Two C b t1 t2 R M g1 g2 a1 b1 a2 b2 H' :=
  ⟨k _ _ h.n1 h.T1, k _ _ h.n2 h.T2, k _ _ h.nR h.TR, k _ _ h.nM h.TM, h.G1.kpn k h.m1, h.G2.kpn k h.m2, h.n1, h.n2, h.nR, h.nM, h.m1, h.m2⟩
theorem Two.same (k : Same H H') (h : Two C b t1 t2 R M g1 g2 a1 b1 a2 b2 H) : Two C b t1 t2 R M g1 g2 a1 b1 a2 b2 H' := h.kp (Kp.of_same k)
theorem Two.kp2 {L : Addr} (k : Kp2 b L H H') (hL : H L = none) (h : Two C b t1 t2 R M g1 g2 a1 b1 a2 b2 H) : Two C b t1 t2 R M g1 g2 a1 b1 a2 b2 H' := by
  have lL : ∀ {p : Addr} {o : HO}, H p = some o → p ≠ L := fun z => ne_of_none z hL
  have gk : ∀ {g : Addr} {st o : Int}, g ≠ b → GridAt C H g st o → GridAt C H' g st o := by
    rintro g st o n ⟨dx, z⟩
    exact ⟨dx, k _ _ n (lL z) z⟩
  exact ⟨k _ _ h.n1 (lL h.T1) h.T1, k _ _ h.n2 (lL h.T2) h.T2, k _ _ h.nR (lL h.TR) h.TR, k _ _ h.nM (lL h.TM) h.TM, gk h.m1 h.G1, gk h.m2 h.G2, h.n1, h.n2, h.nR, h.nM, h.m1, h.m2⟩
theorem Two.of {xs : List V} (hb : H b = some (.lst xs)) (d1 : xs ≠ [.ref t1, .ref t2]) (d2 : xs ≠ [.ref g1, .ref g2]) (T1 : H t1 = some (.tup [.int a1, .int b1])) (T2 : H t2 = some (.tup [.int a2, .int b2])) (TR : H R = some (.lst [.ref t1, .ref t2])) (TM : H M = some (.lst [.ref g1, .ref g2])) (G1 : GridAt C H g1 a1 (b1 % a1)) (G2 : GridAt C H g2 a2 (b2 % a2)) :
    Two C b t1 t2 R M g1 g2 a1 b1 a2 b2 H := by
  have gn : ∀ {g : Addr} {st o : Int}, GridAt C H g st o → g ≠ b := by
    rintro g st o ⟨dx, h⟩
    exact ne_of h hb (by intro z; cases z)
  exact ⟨T1, T2, TR, TM, G1, G2, ne_of T1 hb (by intro z; cases z), ne_of T2 hb (by intro z; cases z), ne_of TR hb (fun z => d1 (HO.lst.inj z).symm), ne_of TM hb (fun z => d2 (HO.lst.inj z).symm), gn G1, gn G2⟩
end

end Lw
namespace Lw
open PySem L2 Bar

/-! ### the inverse, by Euclid's steps -/
section
theorem mulW_ok {x y : Int} (h1 : x.natAbs < 2 ^ 1400) (h2 : y.natAbs < 2 ^ 1400) : CMulW x y := wide_mul h1 h2 (by decide) (by decide) (by decide)
theorem divW_ok {x y : Int} (h0 : 0 < y) (h2 : y.natAbs < 2 ^ 1400) : CDivW x y := wide_div h0 h2 (by decide) (by decide)
/-- what stands in the four names: e is the sign of the right one -/
structure Eu (n m l r lt rt : Int) : Prop where
  l1 : 1 ≤ l
  r0 : 0 ≤ r
  rl : r < l
  lm : l ≤ m
  gl : ∀ d : Int, d ∣ l → d ∣ r → d ∣ m ∧ d ∣ n
  cl : ∃ q, n * lt = l + m * q
  cr : ∃ q, n * rt = r + m * q
  bd : ∃ (e L R : Int), (e = 1 ∨ e = -1) ∧ 0 ≤ L ∧ L ≤ m ∧ 0 ≤ R ∧ lt = -(e * L) ∧ rt = e * R ∧ l * R + r * L = m
theorem Eu.start {n m : Int} (h : 1 ≤ m) : Eu n m m (n % m) 0 1 := by
  have h0 := Int.emod_nonneg n (show m ≠ 0 by omega)
  have h1 := Int.emod_lt_of_pos n (show 0 < m by omega)
  have e := Int.emod_add_mul_ediv n m
  refine ⟨h, h0, h1, Int.le_refl _, fun d h1 h2 => ⟨h1, ?_⟩, ⟨-1, by grind⟩, ⟨n / m, by omega⟩, ⟨1, 0, 1, .inl rfl, by omega, by omega, by omega, by omega, by omega, by grind⟩⟩
  rw [← e]
  exact Int.dvd_add h2 (Int.dvd_mul_of_dvd_left h1)
theorem Eu.step {n m l r lt rt : Int} (h : Eu n m l r lt rt) (hr : 0 < r) : Eu n m r (l - l / r * r) rt (lt - l / r * rt) := by
  obtain ⟨l1, r0, rl, lm, gl, ⟨q, cl⟩, ⟨p, cr⟩, ⟨e, L, R, he, L0, Lm, R0, e1, e2, e3⟩⟩ := h
  have em := Int.emod_add_mul_ediv l r
  have m0 := Int.emod_nonneg l (show r ≠ 0 by omega)
  have m1 := Int.emod_lt_of_pos l hr
  have t0 : 0 ≤ l / r := Int.ediv_nonneg (by omega) (by omega)
  have eq : l - l / r * r = l % r := by grind
  generalize l / r = t at *
  have Rm : R ≤ m := by
    have h1 : 1 * R ≤ l * R := Int.mul_le_mul_of_nonneg_right l1 R0
    have h2 : 0 ≤ r * L := Int.mul_nonneg r0 L0
    omega
  have tR : 0 ≤ t * R := Int.mul_nonneg t0 R0
  refine ⟨by omega, by omega, by omega, by omega, fun d h1 h2 => gl d ?_ h1, ⟨p, cr⟩, ⟨q - t * p, by grind⟩, ⟨-e, R, L + t * R, by omega, R0, Rm, by omega, by grind, by grind, by grind⟩⟩
  have e5 : l = (l - t * r) + t * r := by omega
  rw [e5]
  exact Int.dvd_add h2 (Int.dvd_mul_of_dvd_right h1)
/-- all four are of the modulus' size -/
theorem Eu.size {n m l r lt rt : Int} (h : Eu n m l r lt rt) (hm : m.natAbs < 2 ^ 1400) : l.natAbs < 2 ^ 1400 ∧ r.natAbs < 2 ^ 1400 ∧ (l / r).natAbs < 2 ^ 1400 ∧ rt.natAbs < 2 ^ 1400 := by
  obtain ⟨l1, r0, rl, lm, gl, _, _, ⟨e, L, R, he, L0, Lm, R0, e1, e2, e3⟩⟩ := h
  have Rm : R ≤ m := by
    have h1 : 1 * R ≤ l * R := Int.mul_le_mul_of_nonneg_right l1 R0
    have h2 : 0 ≤ r * L := Int.mul_nonneg r0 L0
    omega
  have q := Int.natAbs_ediv_le_natAbs l r
  refine ⟨Nat.lt_of_le_of_lt (by omega) hm, Nat.lt_of_le_of_lt (by omega) hm, Nat.lt_of_le_of_lt (by omega) hm, Nat.lt_of_le_of_lt ?_ hm⟩
  rcases he with he | he <;> subst he <;> omega
theorem Eu.fin {n m l r lt rt : Int} (h : Eu n m l r lt rt) (hr : ¬ 0 < r) (co : ∀ d : Int, 1 ≤ d → d ∣ m → d ∣ n → d = 1) : ∃ q, n * (lt % m) = 1 + m * q := by
  obtain ⟨l1, r0, rl, lm, gl, ⟨q, cl⟩, _, _⟩ := h
  have r00 : r = 0 := by omega
  subst r00
  obtain ⟨h1, h2⟩ := gl l (Int.dvd_refl l) (Int.dvd_zero l)
  have e := co l l1 h1 h2
  subst e
  have em := Int.emod_add_mul_ediv lt m
  exact ⟨q - n * (lt / m), by grind⟩
/-! ### the common grid -/
/-- the greatest common divisor, as the program has it -/
abbrev gd (a b : Int) : Int := ((Nat.gcd a.natAbs b.natAbs : Nat) : Int)
structure Cm (a1 o1 a2 o2 : Int) : Prop where
  a1l : 1 ≤ a1
  a2l : 1 ≤ a2
  o1l : 0 ≤ o1
  o1u : o1 < a1
  o2l : 0 ≤ o2
  o2u : o2 < a2
  a1s : a1.natAbs < 2 ^ 1326
  a2s : a2.natAbs < 2 ^ 1326
theorem gd_pos {a b : Int} (h : 1 ≤ a) : 1 ≤ gd a b := by
  have h1 : 0 < Nat.gcd a.natAbs b.natAbs := Nat.gcd_pos_of_pos_left _ (by omega)
  show 1 ≤ ((Nat.gcd a.natAbs b.natAbs : Nat) : Int)
  omega
theorem gd_dl (a b : Int) : gd a b ∣ a := Int.ofNat_dvd_left.mpr (Nat.gcd_dvd_left _ _)
theorem gd_dr (a b : Int) : gd a b ∣ b := Int.ofNat_dvd_left.mpr (Nat.gcd_dvd_right _ _)
theorem gd_co {a b : Int} (h : 1 ≤ a) : ∀ d : Int, 1 ≤ d → d ∣ b / gd a b → d ∣ a / gd a b → d = 1 := by
  intro d d1 h1 h2
  have gp := gd_pos (b := b) h
  obtain ⟨x, hx⟩ := gd_dl a b
  obtain ⟨y, hy⟩ := gd_dr a b
  have ex : a / gd a b = x := Int.ediv_eq_of_eq_mul_right (by omega) hx
  have ey : b / gd a b = y := Int.ediv_eq_of_eq_mul_right (by omega) hy
  rw [ex] at h2
  rw [ey] at h1
  obtain ⟨u, hu⟩ := h2
  obtain ⟨v, hv⟩ := h1
  have ha : (gd a b * d) ∣ a := ⟨u, by grind⟩
  have hb : (gd a b * d) ∣ b := ⟨v, by grind⟩
  have k : (gd a b * d).natAbs ∣ Nat.gcd a.natAbs b.natAbs := Nat.dvd_gcd (Int.natAbs_dvd_natAbs.mpr ha) (Int.natAbs_dvd_natAbs.mpr hb)
  have gn : 0 < Nat.gcd a.natAbs b.natAbs := Nat.gcd_pos_of_pos_left _ (by omega)
  have k2 := Nat.le_of_dvd gn k
  rw [Int.natAbs_mul, Int.natAbs_natCast] at k2
  have d2 : d.natAbs ≤ 1 := by
    by_cases z : d.natAbs ≤ 1
    · exact z
    · have h3 : Nat.gcd a.natAbs b.natAbs * 2 ≤ Nat.gcd a.natAbs b.natAbs * d.natAbs := Nat.mul_le_mul_left _ (by omega)
      omega
  omega
theorem meet_dvd {a1 o1 a2 o2 t : Int} (h1 : t % a1 = o1) (h2 : t % a2 = o2) : (o2 - o1) % gd a1 a2 = 0 := by
  refine Int.emod_eq_zero_of_dvd ?_
  have e1 := Int.emod_add_mul_ediv t a1
  have e2 := Int.emod_add_mul_ediv t a2
  have e3 : o2 - o1 = a1 * (t / a1) - a2 * (t / a2) := by omega
  rw [e3]
  exact Int.dvd_sub (Int.dvd_mul_of_dvd_left (gd_dl _ _)) (Int.dvd_mul_of_dvd_left (gd_dr _ _))
theorem quot_size {a d : Int} (h : 1 ≤ a) (s : a.natAbs < 2 ^ 1326) : (a / d).natAbs < 2 ^ 1400 :=
  Nat.lt_of_le_of_lt (Int.natAbs_ediv_le_natAbs a d) (Nat.lt_of_lt_of_le s (Nat.pow_le_pow_right (by decide) (by decide)))
theorem quot_pos {a d : Int} (h : 1 ≤ a) (d1 : 1 ≤ d) (hd : d ∣ a) : 1 ≤ a / d := by
  obtain ⟨x, hx⟩ := hd
  have ex : a / d = x := Int.ediv_eq_of_eq_mul_right (by omega) hx
  rw [ex]
  by_cases z : 1 ≤ x
  · exact z
  · have : d * x ≤ 0 := Int.mul_nonpos_of_nonneg_of_nonpos (by omega) (by omega)
    omega
/-- the number of the common tick -/
theorem cm_tick {a1 o1 a2 o2 inv : Int} (h : Cm a1 o1 a2 o2) (hd : (o2 - o1) % gd a1 a2 = 0) (hi : ∃ q, a1 / gd a1 a2 * inv = 1 + a2 / gd a1 a2 * q) (t : Int)
    (ht : t = o1 + a1 * ((o2 - o1) / gd a1 a2 * inv % (a2 / gd a1 a2))) : 0 ≤ t ∧ t < a1 * (a2 / gd a1 a2) ∧ t % a1 = o1 ∧ t % a2 = o2 := by
  have gp := gd_pos (b := a2) h.a1l
  obtain ⟨x, hx⟩ := gd_dl a1 a2
  obtain ⟨y, hy⟩ := gd_dr a1 a2
  obtain ⟨z, hz⟩ := Int.dvd_of_emod_eq_zero hd
  have c1 := quot_pos h.a2l gp (gd_dr a1 a2)
  generalize gd a1 a2 = d at *
  have ex : a1 / d = x := Int.ediv_eq_of_eq_mul_right (by omega) hx
  have ey : a2 / d = y := Int.ediv_eq_of_eq_mul_right (by omega) hy
  have ez : (o2 - o1) / d = z := Int.ediv_eq_of_eq_mul_right (by omega) hz
  rw [ey] at c1
  rw [ex, ey] at hi
  rw [ey, ez] at ht
  rw [ey]
  obtain ⟨q, hq⟩ := hi
  have em := Int.emod_add_mul_ediv (z * inv) y
  have n0 := Int.emod_nonneg (z * inv) (show y ≠ 0 by omega)
  have n1 := Int.emod_lt_of_pos (z * inv) (show 0 < y by omega)
  generalize z * inv % y = n at *
  generalize z * inv / y = u at *
  have p0 : 0 ≤ a1 * n := Int.mul_nonneg (by have := h.a1l; omega) n0
  have p1 : a1 * (n + 1) ≤ a1 * y := Int.mul_le_mul_of_nonneg_left (by omega) (by have := h.a1l; omega)
  have l1 := h.o1l
  have u1 := h.o1u
  refine ⟨by omega, ?_, ?_, ?_⟩
  · rw [Int.mul_add, Int.mul_one] at p1
    omega
  · rw [ht, Int.add_mul_emod_self_left]
    exact Int.emod_eq_of_lt l1 u1
  · have e : t = o2 + a2 * (z * q - x * u) := by grind
    rw [e, Int.add_mul_emod_self_left]
    exact Int.emod_eq_of_lt h.o2l h.o2u
/-- a tick is on the common grid exactly if it is on both -/
theorem cm_iff {a1 o1 a2 o2 t x : Int} (h : Cm a1 o1 a2 o2) (t0 : 0 ≤ t) (t1 : t < a1 * (a2 / gd a1 a2)) (m1 : t % a1 = o1) (m2 : t % a2 = o2) : x % (a1 * (a2 / gd a1 a2)) = t ↔ x % a1 = o1 ∧ x % a2 = o2 := by
  have gp := gd_pos (b := a2) h.a1l
  obtain ⟨p, hp⟩ := gd_dl a1 a2
  obtain ⟨y, hy⟩ := gd_dr a1 a2
  have co := gd_co (b := a2) h.a1l
  have ey : a2 / gd a1 a2 = y := Int.ediv_eq_of_eq_mul_right (by omega) hy
  have ep : a1 / gd a1 a2 = p := Int.ediv_eq_of_eq_mul_right (by omega) hp
  rw [ey] at t1
  rw [ey, ep] at co
  rw [ey]
  constructor
  · intro e
    have em := Int.emod_add_mul_ediv x (a1 * y)
    rw [e] at em
    constructor
    · rw [← em, Int.mul_assoc, Int.add_mul_emod_self_left, m1]
    · have e2 : t + a1 * y * (x / (a1 * y)) = t + a2 * (p * (x / (a1 * y))) := by
        generalize gd a1 a2 = d at *
        generalize x / (a1 * y) = w
        grind
      rw [← em, e2, Int.add_mul_emod_self_left, m2]
  · rintro ⟨e1, e2⟩
    have d1 : a1 ∣ x - t := Int.dvd_of_emod_eq_zero (Int.emod_eq_emod_iff_emod_sub_eq_zero.mp (e1.trans m1.symm))
    have d2 : a2 ∣ x - t := Int.dvd_of_emod_eq_zero (Int.emod_eq_emod_iff_emod_sub_eq_zero.mp (e2.trans m2.symm))
    have d3 : a1 * y ∣ x - t := by
      obtain ⟨u, hu⟩ := d1
      obtain ⟨v, hv⟩ := d2
      -- p u = y v, p and y have no common divisor: y divides u
      have e5 : p * u = y * v := by
        have : gd a1 a2 * (p * u) = gd a1 a2 * (y * v) := by grind
        exact Int.eq_of_mul_eq_mul_left (by omega) this
      have g1 : Nat.gcd y.natAbs p.natAbs = 1 := by
        have y1 : 1 ≤ y := by
          by_cases z : 1 ≤ y
          · exact z
          · have : gd a1 a2 * y ≤ 0 := Int.mul_nonpos_of_nonneg_of_nonpos (by omega) (by omega)
            have := h.a2l
            omega
        have gpos : 0 < Nat.gcd y.natAbs p.natAbs := Nat.gcd_pos_of_pos_left _ (by omega)
        have := co (Nat.gcd y.natAbs p.natAbs : Nat) (by omega) (Int.ofNat_dvd_left.mpr (Nat.gcd_dvd_left _ _)) (Int.ofNat_dvd_left.mpr (Nat.gcd_dvd_right _ _))
        omega
      have k : y.natAbs ∣ p.natAbs * u.natAbs := by
        rw [← Int.natAbs_mul, e5, Int.natAbs_mul]
        exact Nat.dvd_mul_right _ _
      have k2 : y ∣ u := Int.natAbs_dvd_natAbs.mp ((Nat.Coprime.dvd_of_dvd_mul_left (show Nat.Coprime y.natAbs p.natAbs from g1) k))
      obtain ⟨w, hw⟩ := k2
      exact ⟨w, by rw [hu, hw]; grind⟩
    have e3 : x % (a1 * y) = t % (a1 * y) := Int.emod_eq_emod_iff_emod_sub_eq_zero.mpr (Int.emod_eq_zero_of_dvd d3)
    rw [e3]
    exact Int.emod_eq_of_lt t0 t1
end


def spInv : Sp := fun vs H Q _ => ∃ (n m : Int), vs = [.int n, .int m] ∧ 1 ≤ m ∧ m.natAbs < 2 ^ 1400 ∧ (∀ d : Int, 1 ≤ d → d ∣ m → d ∣ n → d = 1) ∧ ∀ x H', Same H H' → 0 ≤ x → x < m → (∃ q, n * x = 1 + m * q) → Q (.int x) H'
/-- the common grid of two, or None -/
def spCommon (C : Addr) : Sp := fun vs H Q _ => ∃ (g1 g2 : Addr) (a1 o1 a2 o2 : Int), vs = [.ref g1, .ref g2] ∧ GridAt C H g1 a1 o1 ∧ GridAt C H g2 a2 o2 ∧ Cm a1 o1 a2 o2 ∧ a1 ≤ big ∧ (¬ (o2 - o1) % gd a1 a2 = 0 → Q .non H) ∧
  ((o2 - o1) % gd a1 a2 = 0 → ∀ p t H', Same H H' → GridAt C H' p (a1 * (a2 / gd a1 a2)) t → 0 ≤ t → t < a1 * (a2 / gd a1 a2) → t % a1 = o1 → t % a2 = o2 → Q (.ref p) H')
section
variable {P : Program} {w : World} {K : PySem.W.Frag} {mg : Str → Option Value} {base : Heap} {C : Addr}
theorem ok_inverse {f : Addr} {fd : FuncData} (F : Fun K "inverse" "inverse" s_inverse f fd) (T : Txt mg) : FnOk P w K mg base CX0 1 f fd P_inverse spInv := by
  refine F.ok sc_inverse (fun vs H Q E h => ?_) (fun cdv A outer s H vs Q E hr h => ?_)
  · obtain ⟨n, m, rfl, _⟩ := h
    rfl
  · obtain ⟨n, m, rfl, m1, ms, co, k⟩ := h
    refine ⟨_, (pss_cons (ps_par (i := 2) (j := 3) (by rfl) sc_inverse.nd rfl rfl (by decide) rfl rfl (pa_cons (pv 1) (pa_cons (pe_op op_mod (pv 0) (pv 1)) pa_nil)) (by rfl))
    (pss_cons (ps_asg (pe_tup (pa_cons pe_int (pa_cons pe_int pa_nil))) (pg_tup rfl (pgs_cons (pg_name (i := 4) sc_inverse.nd rfl (Or.inl rfl)) (pgs_cons (pg_name (i := 5) sc_inverse.nd rfl (Or.inl rfl)) pgs_nil))))
    (pss_cons (ps_while PassesOwn.never (pt_cmpR op_gt (pv 3) pe_int (nomark _)) (pss_cons (ps_set (i := 6) sc_inverse.nd rfl (Or.inl rfl) (pe_op op_fdivW (pv 2) (pv 3)))
    (pss_cons (ps_par (i := 2) (j := 3) (by rfl) sc_inverse.nd rfl rfl (by decide) rfl rfl (pa_cons (pv 3) (pa_cons (pe_op op_sub (pv 2) (pe_op op_mulW (pv 6) (pv 3))) pa_nil)) (by rfl))
    (pss_one (ps_par (i := 4) (j := 5) (by rfl) sc_inverse.nd rfl rfl (by decide) rfl rfl (pa_cons (pv 5) (pa_cons (pe_op op_sub (pv 4) (pe_op op_mulW (pv 6) (pv 5))) pa_nil)) (by rfl))))))
    (pss_one (ps_ret (pe_op op_mod (pv 4) (pv 1))))))), ?_⟩
    refine Bar.rStart (σ := [some (.int n), some (.int m), none, none, none, none, none]) rfl ?_
    walk_at "rd"
    try simp only [List.set_cons_succ, List.set_cons_zero]
    walk_at "rd"
    intro tp htp
    walk_at "rd"
    refine ⟨fun z σ H' => Same H H' ∧ ∃ (l r lt rt : Int) (t : Option V), z = r.toNat ∧ Eu n m l r lt rt ∧ σ = [some (.int n), some (.int m), some (.int l), some (.int r), some (.int lt), some (.int rt), t], ⟨_, fun _ _ z => Bar.lkNew htp z, _, _, _, _, _, rfl, Eu.start m1, rfl⟩, ?_⟩
    rintro z σ H' ⟨SH, l, r, lt, rt, t, rfl, eu, rfl⟩
    obtain ⟨zl, zr, zq, zt⟩ := eu.size ms
    walk_at "rd"
    refine ite2 (fun h => ?_) (fun h => ?_)
    · have r1 : 0 < r := of_decide_eq_true h
      refine ⟨fun σ' H'' => ∃ m', m' < r.toNat ∧ Same H H'' ∧ ∃ (l r lt rt : Int) (t : Option V), m' = r.toNat ∧ Eu n m l r lt rt ∧ σ' = [some (.int n), some (.int m), some (.int l), some (.int r), some (.int lt), some (.int rt), t], fun _ _ h => h, ?_⟩
      walk_at "rd"
      refine Bar.rI_ (divW_ok r1 zr) ?_
      walk_at "rd"
      refine Bar.rI_ (mulW_ok zq zr) ?_
      walk_at "rd"
      try simp only [List.set_cons_succ, List.set_cons_zero]
      walk_at "rd"
      refine Bar.rI_ (mulW_ok zq zt) ?_
      walk_at "rd"
      try simp only [List.set_cons_succ, List.set_cons_zero]
      walk_at "rd"
      have eu2 := eu.step r1
      exact ⟨_, by have := eu2.rl; have := eu2.r0; omega, SH, _, _, _, _, _, rfl, eu2, rfl⟩
    · have r0 : ¬ 0 < r := fun z => h (decide_eq_true z)
      walk_at "rd"
      exact k _ _ SH (Int.emod_nonneg lt (by omega)) (Int.emod_lt_of_pos lt (by omega)) (eu.fin r0 co)
theorem ok_common {f : Addr} {fd : FuncData} (F : Fun K "common" "Grid.common" s_Grid_common f fd) (T : Txt mg) (G : GTxt K C) (g_gcd : mg "gcd" = some (.builtin "math.gcd")) (finverse : Fn P w K mg base "inverse" P_inverse [] 1 spInv)
    (mk_Grid2 : Made P w K mg base "Grid" C P_Grid___init__ [] 1 (spInit C)) (m_Grid_tick_of : Mth P w K mg base C "tick_of" P_Grid_tick_of [] 1 (spTick C)) : FnOk P w K mg base CX0 3 f fd P_Grid_common (spCommon C) := by
  refine F.ok sc_Grid_common (fun vs H Q E h => ?_) (fun cdv A outer s H vs Q E hr h => ?_)
  · obtain ⟨g1, g2, a1, o1, a2, o2, rfl, _⟩ := h
    rfl
  · obtain ⟨g1, g2, a1, o1, a2, o2, rfl, hg1, hg2, cm, ab, k0, k1⟩ := h
    refine ⟨_, (pss_cons (ps_set (i := 2) sc_Grid_common.nd rfl (Or.inl rfl) (pe_callBfun cr_gcd rfl g_gcd (pa_cons (pe_fld (pv 0) rfl) (pa_cons (pe_fld (pv 1) rfl) pa_nil))))
    (pss_cons (ps_set (i := 3) sc_Grid_common.nd rfl (Or.inl rfl) (pe_op op_sub (pe_fld (pv 1) rfl) (pe_fld (pv 0) rfl)))
    (pss_cons (ps_if (pt_cmpR op_ne (pe_op op_mod (pv 3) (pv 2)) pe_int (nomark _)) (pss_one (ps_ret pe_non)) pss_nil)
    (pss_cons (ps_set (i := 4) sc_Grid_common.nd rfl (Or.inl rfl) (pe_op op_fdivW (pe_fld (pv 1) rfl) (pv 2)))
    (pss_cons (ps_set (i := 5) sc_Grid_common.nd rfl (Or.inl rfl) (pe_op op_mod (pe_op op_mulW (pe_op op_fdivW (pv 3) (pv 2)) (pe_fn finverse (hr.mono (by omega)) rfl (pa_cons (pe_op op_fdivW (pe_fld (pv 0) rfl) (pv 2)) (pa_cons (pv 4) pa_nil)))) (pv 4)))
    (pss_one (ps_ret (pe_mk mk_Grid2 (hr.mono (by omega)) rfl (pa_cons (pe_op op_mulW (pe_fld (pv 0) rfl) (pv 4)) (pa_cons (pe_mth m_Grid_tick_of (pv 0) (hr.mono (by omega)) (pa_cons (pv 5) pa_nil)) pa_nil)))))))))), ?_⟩
    refine Bar.rStart (σ := [some (.ref g1), some (.ref g2), none, none, none, none]) rfl ?_
    have gp := gd_pos (b := a2) cm.a1l
    have gs : (gd a1 a2).natAbs < 2 ^ 1400 := by
      refine Nat.lt_of_le_of_lt ?_ (Nat.lt_of_lt_of_le cm.a1s (Nat.pow_le_pow_right (by decide) (show 1326 ≤ 1400 by decide)))
      show (((Nat.gcd a1.natAbs a2.natAbs : Nat) : Int)).natAbs ≤ _
      rw [Int.natAbs_natCast]
      exact Nat.gcd_le_left _ (by have := cm.a1l; omega)
    walk_at "rd"
    refine rFS G hg1 ?_
    walk_at "rd"
    refine rFS G hg2 ?_
    walk_at "rd"
    refine ⟨a1, a2, rfl, ?_⟩
    have eD : ((Nat.gcd a1.natAbs a2.natAbs : Nat) : Int) = gd a1 a2 := rfl
    rw [eD]
    clear eD
    walk_at "rd"
    refine rFO G hg2 ?_
    walk_at "rd"
    refine rFO G hg1 ?_
    walk_at "rd"
    refine ite2 (fun h => ?_) (fun h => ?_)
    · walk_at "rd"
      refine k0 (fun z => ?_)
      rw [decide_eq_true z] at h
      cases h
    have hd : (o2 - o1) % gd a1 a2 = 0 := by
      by_cases z : (o2 - o1) % gd a1 a2 = 0
      · exact z
      · rw [decide_eq_false z] at h
        exact absurd rfl h
    have q1 := quot_pos cm.a1l gp (gd_dl a1 a2)
    have q2 := quot_pos cm.a2l gp (gd_dr a1 a2)
    have s1 := quot_size (d := gd a1 a2) cm.a1l cm.a1s
    have s2 := quot_size (d := gd a1 a2) cm.a2l cm.a2s
    have s3 : ((o2 - o1) / gd a1 a2).natAbs < 2 ^ 1400 := by
      refine Nat.lt_of_le_of_lt (Int.natAbs_ediv_le_natAbs _ _) (Nat.lt_of_lt_of_le (show (o2 - o1).natAbs < 2 ^ 1326 from ?_) (Nat.pow_le_pow_right (by decide) (show 1326 ≤ 1400 by decide)))
      by_cases z : (o2 - o1).natAbs ≤ a1.natAbs
      · exact Nat.lt_of_le_of_lt z cm.a1s
      · exact Nat.lt_of_le_of_lt (by have := cm.o1l; have := cm.o1u; have := cm.o2l; have := cm.o2u; omega) cm.a2s
    walk_at "rd"
    refine rFS G hg2 ?_
    walk_at "rd"
    refine Bar.rI_ (divW_ok (by omega) gs) ?_
    walk_at "rd"
    refine Bar.rI_ (divW_ok (by omega) gs) ?_
    walk_at "rd"
    refine rFS G hg1 ?_
    walk_at "rd"
    refine Bar.rI_ (divW_ok (by omega) gs) ?_
    walk_at "rd"
    refine ⟨_, _, rfl, q2, s2, gd_co cm.a1l, fun inv HX SX i0 i1 hi => ?_⟩
    replace hg1 := hg1.same SX
    replace hg2 := hg2.same SX
    have is : inv.natAbs < 2 ^ 1400 := Nat.lt_of_le_of_lt (by omega) s2
    walk_at "rd"
    refine Bar.rI_ (mulW_ok s3 is) ?_
    walk_at "rd"
    have ns : ((o2 - o1) / gd a1 a2 * inv % (a2 / gd a1 a2)).natAbs < 2 ^ 1400 := by
      have n0 := Int.emod_nonneg ((o2 - o1) / gd a1 a2 * inv) (show a2 / gd a1 a2 ≠ 0 by omega)
      have n1 := Int.emod_lt_of_pos ((o2 - o1) / gd a1 a2 * inv) (show 0 < a2 / gd a1 a2 by omega)
      exact Nat.lt_of_le_of_lt (by omega) s2
    have a1t : a1.natAbs < 2 ^ 1400 := Nat.lt_of_lt_of_le cm.a1s (Nat.pow_le_pow_right (by decide) (by decide))
    refine rFS G hg1 ?_
    walk_at "rd"
    refine Bar.rI_ (mulW_ok a1t s2) ?_
    walk_at "rd"
    refine rMG hg1 (by decide) (by decide) ?_
    walk_at "rd"
    refine ⟨g1, a1, o1, _, rfl, hg1, cm.a1l, ab, mulW_ok a1t ns, ?_⟩
    walk_at "rd"
    obtain ⟨t0, t1, t2, t3⟩ := cm_tick cm hd hi _ rfl
    have l1 : 1 ≤ a1 * (a2 / gd a1 a2) := by
      have := Int.mul_le_mul_of_nonneg_left q2 (show 0 ≤ a1 by have := cm.a1l; omega)
      have := cm.a1l
      omega
    refine mkG l1 fun p H2 hp S G2 => ?_
    rw [Int.emod_eq_of_lt t0 t1] at G2
    walk_at "rd"
    exact k1 hd p _ H2 (fun b u z => S _ _ (SX _ _ z)) G2 t0 t1 t2 t3
end

end Lw

namespace Lw
open PySem L2 Bar
set_option exponentiation.threshold 6000
/-- the common grid, or an error with both -/
def spAndX (C CA : Addr) : Sp := fun vs H Q E => ∃ (g1 g2 : Addr) (a1 o1 a2 o2 : Int), vs = [.ref g1, .ref g2] ∧ GridAt C H g1 a1 o1 ∧ GridAt C H g2 a2 o2 ∧ Cm a1 o1 a2 o2 ∧ a1 ≤ big ∧ (¬ (o2 - o1) % gd a1 a2 = 0 → ∀ d H', H d = none → Same H H' → H' d = some (.xd [("second", .ref g2), ("first", .ref g1)]) → E (.ref CA) (some d) H') ∧
  ((o2 - o1) % gd a1 a2 = 0 → ∀ p t H', Same H H' → GridAt C H' p (a1 * (a2 / gd a1 a2)) t → 0 ≤ t → t < a1 * (a2 / gd a1 a2) → t % a1 = o1 → t % a2 = o2 → Q (.ref p) H')
def spAnd (C : Addr) : Sp := fun vs H Q _ => ∃ (g1 g2 : Addr) (a1 o1 a2 o2 : Int), vs = [.ref g1, .ref g2] ∧ GridAt C H g1 a1 o1 ∧ GridAt C H g2 a2 o2 ∧ Cm a1 o1 a2 o2 ∧ a1 ≤ big ∧ (¬ (o2 - o1) % gd a1 a2 = 0 → ∀ r t H', Same H H' → H' r = some (.lst [.non, .ref t]) → H' t = some (.lst [.ref g1, .ref g2, .bl true, .bl true, .bl false]) → Q (.ref r) H') ∧
  ((o2 - o1) % gd a1 a2 = 0 → ∀ r p t H', Same H H' → H' r = some (.lst [.ref p, .non]) → GridAt C H' p (a1 * (a2 / gd a1 a2)) t → 0 ≤ t → t < a1 * (a2 / gd a1 a2) → t % a1 = o1 → t % a2 = o2 → Q (.ref r) H')
def spGcd : Sp := fun vs H Q _ => ∃ (a b : Int), vs = [.int a, .int b] ∧ 1 ≤ a ∧ 1 ≤ b ∧ a ≤ big ∧ b ≤ big ∧ Q (.int (gd a b)) H
theorem gd_step {a b : Int} (h0 : 0 ≤ a) (h1 : 0 ≤ b) : gd b (a % b) = gd a b := by
  have e : (a % b).natAbs = a.natAbs % b.natAbs := by
    obtain ⟨n, rfl⟩ := Int.eq_ofNat_of_zero_le h0
    obtain ⟨m, rfl⟩ := Int.eq_ofNat_of_zero_le h1
    rfl
  show ((Nat.gcd b.natAbs (a % b).natAbs : Nat) : Int) = _
  rw [e, Nat.gcd_comm, ← Nat.gcd_rec, Nat.gcd_comm]
theorem half_step {a b : Int} (h1 : 1 ≤ b) (h : b ≤ a) : b * (a % b) * 2 ≤ a * b := by
  have e := Int.emod_add_mul_ediv a b
  have m1 := Int.emod_lt_of_pos a (show 0 < b by omega)
  have q1 : 1 ≤ a / b := (Int.le_ediv_iff_mul_le (show 0 < b by omega)).mpr (by omega)
  have l : a % b * 2 ≤ a := by
    have : b * 1 ≤ b * (a / b) := Int.mul_le_mul_of_nonneg_left q1 (by omega)
    omega
  have l2 : b * (a % b * 2) ≤ b * a := Int.mul_le_mul_of_nonneg_left l (by omega)
  grind
section
variable {P : Program} {w : World} {K : PySem.W.Frag} {mg : Str → Option Value} {base : Heap} {C : Addr}
theorem ok_eApart {f C CB : Addr} {fd : FuncData} (F : Fun K "__init__" "Apart.__init__" s_Apart___init__ f fd) (eb : EBase K mg "BarclipsError" CB) (O : OexC K C) (no1 : PySem.W.findIn K (.ref C) "first" = some none) (no2 : PySem.W.findIn K (.ref C) "second" = some none) : FnOk P w K mg base CX0 1 f fd P_Apart___init__ (spErr2 C "first" "second" (fun _ _ => True)) := by
  refine F.ok sc_Apart___init__ (fun vs H Q E h => ?_) (fun cdv A outer s H vs Q E hr h => ?_)
  · obtain ⟨a, v, u, rfl, _⟩ := h
    rfl
  · obtain ⟨a, v, u, rfl, ha, _, k⟩ := h
    refine ⟨_, (pss_cons (ps_expr (pe_baseInit eb rfl (pa_cons (pv 0) (pa_cons pe_str pa_nil))))
    (pss_cons (ps_ost (pv 0) (pv 1) rfl)
    (pss_one (ps_ost (pv 0) (pv 2) rfl)))), ?_⟩
    refine Bar.rStart (σ := [some (.ref a), some v, some u]) rfl ?_
    walk_at "rd"
    refine ⟨a, C, _, rfl, by decide, O, ha, ?_⟩
    walk_at "rd"
    refine ⟨a, C, rfl, O, no1, .inl ⟨ha, fun d hd ne => ?_⟩⟩
    walk_at "rd"
    refine ⟨a, C, rfl, O, no2, .inr ⟨d, _, upd_same, (upd_ne ne).trans upd_same, by simp, ?_⟩⟩
    walk_at "rd"
    exact k d hd ne

theorem ok_andX {f CA : Addr} {fd : FuncData} (F : Fun K "__and__" "Grid.__and__" s_Grid___and__ f fd) (T : Txt mg) (g_Grid : mg "Grid" = some (.ref C)) (sm_Grid_common : SMth P w K mg base C "common" P_Grid_common 3 (spCommon C)) (er_Apart : Err P w K mg base "Apart" CA P_Apart___init__ 1 (spErr2 CA "first" "second" (fun _ _ => True))) :
    FnOk P w K mg base (L2.CX P w) 4 f fd P_Grid___and__ (spAndX C CA) := by
  refine F.okX sc_Grid___and__ (fun vs H Q E h => ?_) (fun cdv A outer s H vs Q E hr h => ?_)
  · obtain ⟨g1, g2, a1, o1, a2, o2, rfl, _⟩ := h
    rfl
  · obtain ⟨g1, g2, a1, o1, a2, o2, rfl, hg1, hg2, cm, ab, k0, k1⟩ := h
    refine ⟨_, (pss_cons (ps_set (i := 2) sc_Grid___and__.nd rfl (Or.inl rfl) (pe_smth sm_Grid_common (hr.mono (by omega)) (pe_glob (v := .ref C) rfl g_Grid rfl) (pa_cons (pv 0) (pa_cons (pv 1) pa_nil))))
    (pss_cons (ps_if (pt_cmpR o_isN (pv 2) pe_non (nomark _)) (pss_one (ps_raise rfl (takes_of rfl rfl rfl rfl) (pmk_err er_Apart (hr.mono (by omega)) rfl (pa_cons (pv 0) (pa_cons (pv 1) pa_nil))))) pss_nil)
    (pss_one (ps_ret (pv 2))))), ?_⟩
    refine Bar.rStart (σ := [some (.ref g1), some (.ref g2), none]) rfl ?_
    walk_at "rd"
    refine ⟨rfl, ?_⟩
    walk_at "rd"
    refine ⟨g1, g2, a1, o1, a2, o2, rfl, hg1, hg2, cm, ab, fun hd => ?_, fun hd p t H' S G t0 t1 t2 t3 => ?_⟩
    · walk_at "rd"
      exact rErr2 trivial (k0 hd)
    · walk_at "rd"
      exact k1 hd p t H' S G t0 t1 t2 t3
theorem ok_and {f C_Apart C_BarclipsError C_OffGrid : Addr} {fd : FuncData} (F : Fun K "_law_and" "_law_and" s_law_and f fd) (T : Txt mg) (ox_Grid_BitAnd : OprSX P w K mg base C .BitAnd P_Grid___and__ 4 (spAndX C C_Apart))
    (ee_Apart : ETxt K mg "Apart" C_Apart) (eb : EBase K mg "BarclipsError" C_BarclipsError) (ee_OffGrid : ETxt K mg "OffGrid" C_OffGrid)
    (no_Apart_first : PySem.W.findIn K (.ref C_Apart) "first" = some none) (no_Apart_second : PySem.W.findIn K (.ref C_Apart) "second" = some none) (be_ValueError : mg "ValueError" = none) (k1 : PySem.W.kitOne K (.ref C_Apart) (.ref C_BarclipsError) = some true) (k2 : PySem.W.kitOne K (.ref C_Apart) (.type "ValueError") = some true)
    (k3 : PySem.W.kitOne K (.ref C_Apart) (.ref C_OffGrid) = some false) : FnOk P w K mg base CX0 5 f fd P_law_and (spAnd C) := by
  refine F.ok sc_law_and (fun vs H Q E h => ?_) (fun cdv A outer s H vs Q E hr h => ?_)
  · obtain ⟨g1, g2, a1, o1, a2, o2, rfl, _⟩ := h
    rfl
  · obtain ⟨g1, g2, a1, o1, a2, o2, rfl, hg1, hg2, cm, ab, q0, q1⟩ := h
    refine ⟨_, (pss_cons (ps_set (i := 2) sc_law_and.nd rfl (Or.inl rfl) pe_non)
    (pss_cons (ps_set (i := 3) sc_law_and.nd rfl (Or.inl rfl) pe_non)
    (pss_cons (ps_try_as (i := 4) rfl rfl sc_law_and.nd rfl rfl ⟨rfl, by decide, .inl ee_Apart.g⟩ takes0 (fun W pn xe tk _ => (pss_one (ps_set (i := 2) sc_law_and.nd rfl (Or.inl rfl) (pe_opS (op_SX ox_Grid_BitAnd tk (hr.mono (by omega))) (pv 0) (pv 1)))))
    (fun a oe cls d pn hz hf => (pss_one (ps_set (i := 3) sc_law_and.nd rfl (Or.inl rfl) (pe_lst (pa_cons (pe_xf ee_Apart.is.x no_Apart_first hz hf (pv 4)) (pa_cons (pe_xf ee_Apart.is.x no_Apart_second hz hf (pv 4)) (pa_cons (pe_callB (call_isX ee_Apart.is hz hf) rfl T.b_isinstance (by decide +kernel) (pa_cons (pv 4) (pa_cons (pe_glob (v := .ref C_BarclipsError) rfl eb.g rfl) pa_nil))) (pa_cons (pe_callB (call_isX ee_Apart.is hz hf) rfl T.b_isinstance (by decide +kernel) (pa_cons (pv 4) (pa_cons (pe_bltn (v := .ty "ValueError") (u := .type "ValueError") rfl be_ValueError (by decide +kernel) rfl) pa_nil))) (pa_cons (pe_callB (call_isX ee_Apart.is hz hf) rfl T.b_isinstance (by decide +kernel) (pa_cons (pv 4) (pa_cons (pe_glob (v := .ref C_OffGrid) rfl ee_OffGrid.g rfl) pa_nil))) pa_nil))))))))))
    (pss_one (ps_ret (pe_lst (pa_cons (pv 2) (pa_cons (pv 3) pa_nil)))))))), ?_⟩
    refine Bar.rStart (σ := [some (.ref g1), some (.ref g2), none, none, none]) rfl ?_
    obtain ⟨dx, hgx⟩ := id hg1
    obtain ⟨dy, hgy⟩ := id hg2
    walk_at "rd"
    refine ⟨g1, dx, _, g2, dy, _, rfl, rfl, hgx, hgy, g1, g2, a1, o1, a2, o2, rfl, hg1, hg2, cm, ab, fun hd d H' hdn S hx => ?_, fun hd p t H' S G t0 t1 t2 t3 => ?_⟩
    · walk_at "rd"
      refine rTake ee_Apart.te fun q hq => ?_
      try simp only [List.set_cons_succ, List.set_cons_zero]
      walk_at "rd"
      refine rXf hx (lk_tl (by decide +kernel) lk_hd) ?_
      walk_at "rd"
      refine rXf hx lk_hd ?_
      walk_at "rd"
      refine rIsXC hx k1 ?_
      walk_at "rd"
      refine rIsXT hx k2 ?_
      walk_at "rd"
      refine rIsXC hx k3 ?_
      walk_at "rd"
      intro t ht
      walk_at "rd"
      try simp only [List.set_cons_succ, List.set_cons_zero]
      walk_at "rd"
      intro r hr
      exact q0 hd r t _ (fun b u z => Bar.lkNew hr (Bar.lkNew ht (S b u z))) upd_same (Bar.lkNew hr upd_same)
    · walk_at "rd"
      intro r hr
      exact q1 hd r p t _ (fun b u z => Bar.lkNew hr (S b u z)) upd_same (G.new hr) t0 t1 t2 t3
theorem ok_gcd {f : Addr} {fd : FuncData} (F : Fun K "_law_gcd" "_law_gcd" s_law_gcd f fd) (T : Txt mg) : FnOk P w K mg base CX0 1 f fd P_law_gcd spGcd := by
  refine F.ok sc_law_gcd (fun vs H Q E h => ?_) (fun cdv A outer s H vs Q E hr h => ?_)
  · obtain ⟨a, b, rfl, _⟩ := h
    rfl
  · obtain ⟨a, b, rfl, a1, b1, a2, b2, k⟩ := h
    refine ⟨_, (pss_cons (ps_for PassesOwn.never rfl (pi_range1 rfl T.b_range (pa_cons pe_int pa_nil)) (pg_name (i := 2) sc_law_gcd.nd rfl (Or.inl rfl)) (pss_cons (ps_if (pt_cmpR op_eq (pv 1) pe_int (nomark _)) (pss_one ps_break) pss_nil)
    (pss_cons (ps_set (i := 3) sc_law_gcd.nd rfl (Or.inl rfl) (pe_op op_mod (pe_callTy c_int rfl T.b_int (by decide +kernel) (pa_cons (pv 0) pa_nil)) (pv 1)))
    (pss_cons (ps_set (i := 0) sc_law_gcd.nd rfl (Or.inl rfl) (pv 1))
    (pss_one (ps_set (i := 1) sc_law_gcd.nd rfl (Or.inl rfl) (pv 3)))))))
    (pss_one (ps_ret (pv 0)))), ?_⟩
    refine Bar.rStart (σ := [some (.int a), some (.int b), none, none]) rfl ?_
    have ab : a * b < 2 ^ 2700 := by
      have h1 : a * b ≤ big * big := Int.le_trans (Int.mul_le_mul_of_nonneg_right a2 (by omega)) (Int.mul_le_mul_of_nonneg_left b2 (by decide))
      exact Int.lt_of_le_of_lt h1 (by decide)
    walk_at "rd"
    refine Bar.forR 5000 rfl (fun i σ H' => H' = H ∧ ∃ (x y : Int) (u v : Option V), 1 ≤ x ∧ 0 ≤ y ∧ gd x y = gd a b ∧ (1 ≤ i → y < x) ∧ x * y * 2 ^ (i - 1) < 2 ^ 2700 ∧ σ = [some (.int x), some (.int y), u, v]) (by decide) ⟨rfl, a, b, _, _, a1, by omega, rfl, fun z => by omega, by simpa using ab, rfl⟩ ?_ ?_
    · rintro i σ H' hi ⟨rfl, x, y, u, v, x1, y0, hg, lt, pot, rfl⟩
      walk_at "rd"
      refine ite2 (fun h => ?_) (fun h => ?_)
      · have y00 : y = 0 := of_decide_eq_true h
        subst y00
        walk_at "rd"
        have e : gd x 0 = x := by
          show ((Nat.gcd x.natAbs 0 : Nat) : Int) = x
          rw [Nat.gcd_zero_right]
          omega
        rw [← e, hg]
        exact k
      · have y1 : 1 ≤ y := by
          by_cases z : y = 0
          · exact absurd (decide_eq_true z) h
          · omega
        have m0 := Int.emod_nonneg x (show y ≠ 0 by omega)
        have m1 := Int.emod_lt_of_pos x (show 0 < y by omega)
        walk_at "rd"
        refine ⟨rfl, y, x % y, _, _, y1, m0, (gd_step (by omega) y0).trans hg, fun _ => m1, ?_, rfl⟩
        rcases Nat.eq_zero_or_pos i with e | e
        · subst e
          simp only [Nat.zero_sub, Nat.zero_add, Nat.sub_self, Int.pow_zero, Int.mul_one] at pot ⊢
          have : x % y ≤ x := by
            have e2 := Int.emod_add_mul_ediv x y
            have := Int.mul_nonneg y0 (Int.ediv_nonneg (show 0 ≤ x by omega) y0)
            omega
          have l2 : y * (x % y) ≤ y * x := Int.mul_le_mul_of_nonneg_left this (by omega)
          rw [Int.mul_comm y x] at l2
          omega
        · have hs := half_step y1 (show y ≤ x by have := lt e; omega)
          have e2 : (2 : Int) ^ (i + 1 - 1) = 2 * 2 ^ (i - 1) := by
            rw [show i + 1 - 1 = (i - 1) + 1 by omega, Int.pow_succ, Int.mul_comm]
          rw [e2]
          have p0 : (0 : Int) ≤ 2 ^ (i - 1) := Int.pow_nonneg (by decide)
          have hs2 := Int.mul_le_mul_of_nonneg_right hs p0
          have e3 : y * (x % y) * (2 * 2 ^ (i - 1)) = y * (x % y) * 2 * 2 ^ (i - 1) := by grind
          rw [e3]
          exact Int.lt_of_le_of_lt hs2 pot
    · rintro σ H' ⟨rfl, x, y, u, v, x1, y0, hg, lt, pot, rfl⟩
      have y00 : y = 0 := by
        by_cases z : y = 0
        · exact z
        · exfalso
          have l1 : (1 : Int) ≤ x * y := by
            have := Int.mul_le_mul_of_nonneg_right x1 y0
            omega
          have p0 : (0 : Int) ≤ 2 ^ (5000 - 1) := Int.pow_nonneg (by decide)
          have l2 := Int.mul_le_mul_of_nonneg_right l1 p0
          rw [Int.one_mul] at l2
          have l3 : ¬ (2 : Int) ^ (5000 - 1) < 2 ^ 2700 := by decide +kernel
          exact l3 (Int.lt_of_le_of_lt l2 pot)
      subst y00
      walk_at "rd"
      have e : gd x 0 = x := by
        show ((Nat.gcd x.natAbs 0 : Nat) : Int) = x
        rw [Nat.gcd_zero_right]
        omega
      rw [← e, hg]
      exact k
end
end Lw
namespace Lw
open PySem L2 Bar
theorem kinds3_at {r : Int} (h0 : 0 ≤ r) (h1 : r < 3) : ∃ m, atI [V.int 12, V.int 60, V.int (10 ^ Int.toNat 30)] r = some (.int m) ∧ 0 < m ∧ m ≤ 10 ^ 30 := by
  have h : r = 0 ∨ r = 1 ∨ r = 2 := by omega
  rcases h with h | h | h <;> (subst h; exact ⟨_, rfl, by decide, by decide⟩)
theorem fac_ok {f q : Int} (f1 : 1 ≤ f) (f2 : f ≤ 10 ^ 30) (q1 : -60 ≤ q) (q2 : q ≤ 60) : CMulW f q ∧ f * q ≤ big ∧ -big ≤ f * q ∧ (1 ≤ q → 1 ≤ f * q) := by
  have fs : f.natAbs < 2 ^ 1400 := Nat.lt_of_le_of_lt (show f.natAbs ≤ 10 ^ 30 by omega) (by decide)
  have qs : q.natAbs < 2 ^ 1400 := Nat.lt_of_le_of_lt (show q.natAbs ≤ 60 by omega) (by decide)
  have h1 : f * q ≤ f * 60 := Int.mul_le_mul_of_nonneg_left q2 (by omega)
  have h2 : f * (-60) ≤ f * q := Int.mul_le_mul_of_nonneg_left q1 (by omega)
  have hb : (60 : Int) * 10 ^ 30 ≤ big := by decide
  refine ⟨mulW_ok fs qs, by omega, by omega, fun q0 => ?_⟩
  have h3 : f * 1 ≤ f * q := Int.mul_le_mul_of_nonneg_left q0 (by omega)
  omega
def spTwo : Sp := fun vs H Q _ => ∃ (b : Addr) (c s n : Int), vs = [.ref b] ∧ H b = some (box c s n) ∧ ∀ r t1 t2 a1 b1 a2 b2 H', KpB b s H H' → H' r = some (.lst [.ref t1, .ref t2]) → H' t1 = some (.tup [.int a1, .int b1]) → H' t2 = some (.tup [.int a2, .int b2]) →
  1 ≤ a1 → a1 ≤ big → 1 ≤ a2 → a2 ≤ big → Q (.ref r) H'
def spOn (K : PySem.W.Frag) : Sp := fun vs H Q _ => ∃ (t : Addr) (a b x : Int), vs = [.ref t, .int x] ∧ SqT K H t [.int a, .int b] ∧ 1 ≤ a ∧ Q (.bl (decide ((x - b) % a = 0))) H
def spShared (K : PySem.W.Frag) (C : Addr) : Sp := fun vs H Q _ => ∃ (p t1 t2 : Addr) (L o a1 b1 a2 b2 : Int), vs = [.ref p, .ref t1, .ref t2, .int L] ∧ GridAt C H p L o ∧ SqT K H t1 [.int a1, .int b1] ∧ SqT K H t2 [.int a2, .int b2] ∧ 1 ≤ a1 ∧ 1 ≤ a2 ∧ 0 ≤ o ∧ o < L ∧ (o - b1) % a1 = 0 ∧ (o - b2) % a2 = 0 ∧ Q (.bl true) H
theorem rNinG {C : Addr} {H : Hp} {g : Addr} {st o x : Int} {Q : VK} (h : GridAt C H g st o) (s1 : 1 ≤ st) (r : Q (.bl (!decide (x % st = o))) H) : rOwnNin C (spIn C) (.int x) (.ref g) H Q := by
  obtain ⟨dx, hg⟩ := h
  exact ⟨g, dx, _, rfl, hg, g, st, o, x, rfl, ⟨dx, hg⟩, s1, _, rfl, r⟩
section
variable {P : Program} {w : World} {K : PySem.W.Frag} {mg : Str → Option Value} {base : Heap} {C : Addr}
theorem ok_on {f : Addr} {fd : FuncData} (F : Fun K "_law_on" "_law_on" s_law_on f fd) (T : Txt mg) : FnOk P w K mg base CX0 1 f fd P_law_on (spOn K) := by
  refine F.ok sc_law_on (fun vs H Q E h => ?_) (fun cdv A outer s H vs Q E hr h => ?_)
  · obtain ⟨t, a, b, x, rfl, _⟩ := h
    rfl
  · obtain ⟨t, a, b, x, rfl, ht, a1, k⟩ := h
    refine ⟨_, (pss_one (ps_ret (pe_cmpR op_eq (pe_op op_mod (pe_callTy c_int rfl T.b_int (by decide +kernel) (pa_cons (pe_op op_sub (pv 1) (pe_ix ix_tup (pv 0) pe_int (fun _ _ => rfl))) pa_nil)) (pe_ix ix_tup (pv 0) pe_int (fun _ _ => rfl))) pe_int (nomark _)))), ?_⟩
    refine Bar.rStart (σ := [some (.ref t), some (.int x)]) rfl ?_
    walk_at "rd"
    exact k
theorem ok_shared {f : Addr} {fd : FuncData} (F : Fun K "_law_shared" "_law_shared" s_law_shared f fd) (T : Txt mg) (G : GTxt K C) (I : GIsi K mg C) (o_Grid : Opr P w K mg base C "__contains__" P_Grid___contains__ 1 (spIn C)) (f_law_same : Fn P w K mg base "_law_same" P_law_same [] 2 (spSame 1)) (f_law_int : Fn P w K mg base "_law_int" P_law_int [] 1 spInt)
    (f_law_on : Fn P w K mg base "_law_on" P_law_on [] 1 (spOn K)) : FnOk P w K mg base CX0 3 f fd P_law_shared (spShared K C) := by
  refine F.ok sc_law_shared (fun vs H Q E h => ?_) (fun cdv A outer s H vs Q E hr h => ?_)
  · obtain ⟨p, t1, t2, L, o, a1, b1, a2, b2, rfl, _⟩ := h
    rfl
  · obtain ⟨p, t1, t2, L, o, a1, b1, a2, b2, rfl, hg, h1, h2, a1l, a2l, o0, o1, d1, d2, k⟩ := h
    refine ⟨_, (pss_cons (ps_if (PW.pt (pw_or (pt_not (pt_val (pe_callB call_isi rfl T.b_isinstance (by decide +kernel) (pa_cons (pv 0) (pa_cons (pe_glob (v := .ref C) rfl I.g rfl) pa_nil))))) (pw_or (pt_not (pt_val (pe_fn f_law_same (hr.mono (by omega)) rfl (pa_cons (pe_fld (pv 0) rfl) (pa_cons (pv 3) pa_nil))))) (pw_or1 (pt_not (pt_val (pe_fn f_law_int (hr.mono (by omega)) rfl (pa_cons (pe_fld (pv 0) rfl) pa_nil)))))))) (pss_one (ps_ret pe_bl)) pss_nil)
    (pss_cons (ps_if (PW.pt (pw_or (pt_not (pt_chain op_le op_lt pe_int (pe_fld (pv 0) rfl) (pv 3))) (pw_or1 (pt_cmpR (op_notin o_Grid (hr.mono (by omega))) (pe_fld (pv 0) rfl) (pv 0) (by rfl))))) (pss_one (ps_ret pe_bl)) pss_nil)
    (pss_one (ps_ret (pe_and (pe_fn f_law_on (hr.mono (by omega)) rfl (pa_cons (pv 1) (pa_cons (pe_fld (pv 0) rfl) pa_nil))) (pe_one (pe_fn f_law_on (hr.mono (by omega)) rfl (pa_cons (pv 2) (pa_cons (pe_fld (pv 0) rfl) pa_nil))))))))), ?_⟩
    refine Bar.rStart (σ := [some (.ref p), some (.ref t1), some (.ref t2), some (.int L)]) rfl ?_
    walk_at "rd"
    refine isiG I hg ?_
    walk_at "rd"
    refine rFS G hg ?_
    walk_at "rd"
    refine same_int ?_
    walk_at "rd"
    refine rFO G hg ?_
    walk_at "rd"
    refine rFO G hg ?_
    walk_at "rd"
    rw [decide_eq_true o0]
    walk_at "rd"
    rw [decide_eq_true o1]
    walk_at "rd"
    refine rFO G hg ?_
    walk_at "rd"
    refine rNinG hg (by omega) ?_
    rw [Int.emod_eq_of_lt o0 o1, decide_eq_true rfl]
    walk_at "rd"
    refine rFO G hg ?_
    walk_at "rd"
    refine ⟨t1, a1, b1, o, rfl, h1, a1l, ?_⟩
    rw [d1, decide_eq_true rfl]
    walk_at "rd"
    refine rFO G hg ?_
    walk_at "rd"
    refine ⟨t2, a2, b2, o, rfl, h2, a2l, ?_⟩
    rw [d2, decide_eq_true rfl]
    walk_at "rd"
    exact k
theorem ok_two {f : Addr} {fd : FuncData} (F : Fun K "_law_two" "_law_two" s_law_two f fd) (T : Txt mg) (f_law_draw : Fn P w K mg base "_law_draw" P_law_draw [] 1 spDrawA) (f_law_step : Fn P w K mg base "_law_step" P_law_step [] 3 spStep) (f_law_number : Fn P w K mg base "_law_number" P_law_number [] 3 spNum) :
    FnOk P w K mg base CX0 4 f fd P_law_two spTwo := by
  refine F.ok sc_law_two (fun vs H Q E h => ?_) (fun cdv A outer s H vs Q E hr h => ?_)
  · obtain ⟨b, c, z, n, rfl, _⟩ := h
    rfl
  · obtain ⟨b, c, z, n, rfl, hb, k⟩ := h
    refine ⟨_, (pss_cons (ps_set (i := 1) sc_law_two.nd rfl (Or.inl rfl) (pe_fn f_law_draw (hr.mono (by omega)) rfl (pa_cons (pv 0) (pa_cons pe_int pa_nil))))
    (pss_cons (ps_if (pt_cmpR op_eq (pv 1) pe_int (nomark _)) (pss_cons (ps_set (i := 2) sc_law_two.nd rfl (Or.inl rfl) (pe_tup (pa_cons (pe_fn f_law_step (hr.mono (by omega)) rfl (pa_cons (pv 0) pa_nil)) (pa_cons (pe_fn f_law_number (hr.mono (by omega)) rfl (pa_cons (pv 0) pa_nil)) pa_nil))))
    (pss_one (ps_ret (pe_lst (pa_cons (pv 2) (pa_cons (pe_tup (pa_cons (pe_fn f_law_step (hr.mono (by omega)) rfl (pa_cons (pv 0) pa_nil)) (pa_cons (pe_fn f_law_number (hr.mono (by omega)) rfl (pa_cons (pv 0) pa_nil)) pa_nil))) pa_nil)))))) pss_nil)
    (pss_cons (ps_set (i := 3) sc_law_two.nd rfl (Or.inl rfl) (pe_op op_add pe_int (pe_fn f_law_draw (hr.mono (by omega)) rfl (pa_cons (pv 0) (pa_cons (pe_ix ix_tup (pe_tup (pa_cons pe_int (pa_cons pe_int (pa_cons (pe_op op_powW pe_int pe_int) pa_nil)))) (pe_fn f_law_draw (hr.mono (by omega)) rfl (pa_cons (pv 0) (pa_cons pe_int pa_nil))) (fun _ _ => rfl)) pa_nil)))))
    (pss_cons (ps_set (i := 2) sc_law_two.nd rfl (Or.inl rfl) (pe_tup (pa_cons (pe_op op_mulW (pv 3) (pe_op op_add pe_int (pe_fn f_law_draw (hr.mono (by omega)) rfl (pa_cons (pv 0) (pa_cons pe_int pa_nil))))) (pa_cons (pe_fn f_law_number (hr.mono (by omega)) rfl (pa_cons (pv 0) pa_nil)) pa_nil))))
    (pss_cons (ps_set (i := 4) sc_law_two.nd rfl (Or.inl rfl) (pe_op op_mulW (pv 3) (pe_op op_add pe_int (pe_fn f_law_draw (hr.mono (by omega)) rfl (pa_cons (pv 0) (pa_cons pe_int pa_nil))))))
    (pss_cons (ps_set (i := 5) sc_law_two.nd rfl (Or.inl rfl) (pe_op op_mulW (pv 3) (pe_op op_sub (pe_fn f_law_draw (hr.mono (by omega)) rfl (pa_cons (pv 0) (pa_cons pe_int pa_nil))) pe_int)))
    (pss_cons (ps_if (pt_cmpR op_eq (pv 1) pe_int (nomark _)) (pss_one (ps_set (i := 5) sc_law_two.nd rfl (Or.inl rfl) (pe_op op_add (pv 5) (pe_fn f_law_draw (hr.mono (by omega)) rfl (pa_cons (pv 0) (pa_cons (pv 3) pa_nil)))))) pss_nil)
    (pss_one (ps_ret (pe_lst (pa_cons (pv 2) (pa_cons (pe_tup (pa_cons (pv 4) (pa_cons (pe_op op_add (pe_ix ix_tup (pv 2) pe_int (fun _ _ => rfl)) (pv 5)) pa_nil))) pa_nil)))))))))))), ?_⟩
    refine Bar.rStart (σ := [some (.ref b), none, none, none, none, none]) rfl ?_
    walk_at "rd"
    refine ⟨b, c, z, n, 3, rfl, hb, by decide, by decide, fun kd H1 kl ku ⟨K1, c1, n1, hb1⟩ => ?_⟩
    walk_at "rd"
    refine ite2 (fun h => ?_) (fun h => ?_)
    · walk_at "rd"
      refine ⟨b, c1, z, n1, rfl, hb1, fun a1 H2 a1l a1u ⟨K2, c2, n2, hb2⟩ => ?_⟩
      walk_at "rd"
      refine ⟨b, c2, z, n2, rfl, hb2, fun b1 H3 _ _ ⟨K3, c3, n3, hb3⟩ => ?_⟩
      walk_at "rd"
      intro t1 ht1
      walk_at "rd"
      refine ⟨b, c3, z, n3, rfl, Bar.lkNew ht1 hb3, fun a2 H4 a2l a2u ⟨K4, c4, n4, hb4⟩ => ?_⟩
      walk_at "rd"
      refine ⟨b, c4, z, n4, rfl, hb4, fun b2 H5 _ _ ⟨K5, c5, n5, hb5⟩ => ?_⟩
      walk_at "rd"
      intro t2 ht2
      walk_at "rd"
      intro r hr
      have nt : t1 ≠ b := fun e => by
        rw [e, hb3] at ht1
        cases ht1
      refine k r t1 t2 a1 b1 a2 b2 _ ⟨(((((K1.trans K2).trans K3).trans (Kp.new ht1)).trans K4).trans K5).trans ((Kp.new ht2).trans (Kp.new hr)), _, _, Bar.lkNew hr (Bar.lkNew ht2 hb5)⟩ upd_same (Bar.lkNew hr (Bar.lkNew ht2 (K5 _ _ nt (K4 _ _ nt upd_same)))) (Bar.lkNew hr upd_same) a1l a1u a2l a2u
    · walk_at "rd"
      intro t0 ht0
      walk_at "rd"
      refine ⟨b, c1, z, n1, 3, rfl, Bar.lkNew ht0 hb1, by decide, by decide, fun kk H2 k0 k1 ⟨K2, c2, n2, hb2⟩ => ?_⟩
      have nt0 : t0 ≠ b := fun e => by
        rw [e, hb1] at ht0
        cases ht0
      obtain ⟨m, hm, m0, m1⟩ := kinds3_at k0 k1
      walk_at "rd"
      refine Bar.rIxT_ (SqT.of (K2 _ _ nt0 upd_same)) hm ?_
      walk_at "rd"
      refine ⟨b, c2, z, n2, m, rfl, hb2, m0, Int.le_trans m1 (by decide), fun fq H3 f0 f1 ⟨K3, c3, n3, hb3⟩ => ?_⟩
      have fl : 1 ≤ 1 + fq := by omega
      have fu : 1 + fq ≤ 10 ^ 30 := by omega
      walk_at "rd"
      refine ⟨b, c3, z, n3, 12, rfl, hb3, by decide, by decide, fun q1 H4 q1l q1u ⟨K4, c4, n4, hb4⟩ => ?_⟩
      obtain ⟨w1, u1, _, p1⟩ := fac_ok (q := 1 + q1) fl fu (by omega) (by omega)
      walk_at "rd"
      refine ⟨b, c4, z, n4, rfl, hb4, fun b1 H5 _ _ ⟨K5, c5, n5, hb5⟩ => ?_⟩
      walk_at "rd"
      intro t1 ht1
      walk_at "rd"
      refine ⟨b, c5, z, n5, 60, rfl, Bar.lkNew ht1 hb5, by decide, by decide, fun q2 H6 q2l q2u ⟨K6, c6, n6, hb6⟩ => ?_⟩
      obtain ⟨w2, u2, _, p2⟩ := fac_ok (q := 1 + q2) fl fu (by omega) (by omega)
      walk_at "rd"
      refine ⟨b, c6, z, n6, 41, rfl, hb6, by decide, by decide, fun q3 H7 q3l q3u ⟨K7, c7, n7, hb7⟩ => ?_⟩
      obtain ⟨w3, _, _, _⟩ := fac_ok (q := q3 - 20) fl fu (by omega) (by omega)
      have nt1 : t1 ≠ b := fun e => by
        rw [e, hb5] at ht1
        cases ht1
      have ht7 : H7 t1 = some (.tup [.int ((1 + fq) * (1 + q1)), .int b1]) := K7 _ _ nt1 (K6 _ _ nt1 upd_same)
      have KK : Kp b H H7 := ((((((K1.trans (Kp.new ht0)).trans K2).trans K3).trans K4).trans K5).trans (Kp.new ht1)).trans (K6.trans K7)
      walk_at "rd"
      refine ite2 (fun h => ?_) (fun h => ?_)
      · walk_at "rd"
        refine ⟨b, c7, z, n7, 1 + fq, rfl, hb7, by omega, Int.le_trans fu (by decide), fun q4 H8 _ _ ⟨K8, c8, n8, hb8⟩ => ?_⟩
        have ht8 := K8 _ _ nt1 ht7
        walk_at "rd"
        intro t2 ht2
        walk_at "rd"
        intro r hr
        exact k r t1 t2 _ b1 _ _ _ ⟨(KK.trans K8).trans ((Kp.new ht2).trans (Kp.new hr)), _, _, Bar.lkNew hr (Bar.lkNew ht2 hb8)⟩ upd_same (Bar.lkNew hr (Bar.lkNew ht2 ht8)) (Bar.lkNew hr upd_same) (p1 (by omega)) u1 (p2 (by omega)) u2
      · walk_at "rd"
        intro t2 ht2
        walk_at "rd"
        intro r hr
        exact k r t1 t2 _ b1 _ _ _ ⟨KK.trans ((Kp.new ht2).trans (Kp.new hr)), _, _, Bar.lkNew hr (Bar.lkNew ht2 hb7)⟩ upd_same (Bar.lkNew hr (Bar.lkNew ht2 ht7)) (Bar.lkNew hr upd_same) (p1 (by omega)) u1 (p2 (by omega)) u2
end
end Lw

namespace Lw
open PySem L2 Bar
theorem gd_comm (a b : Int) : gd a b = gd b a := by
  show ((Nat.gcd a.natAbs b.natAbs : Nat) : Int) = ((Nat.gcd b.natAbs a.natAbs : Nat) : Int)
  rw [Nat.gcd_comm]
theorem least_eq {a1 a2 : Int} (h1 : 1 ≤ a1) : a1 / gd a1 a2 * a2 = a1 * (a2 / gd a1 a2) := by
  have gp := gd_pos (b := a2) h1
  obtain ⟨x, hx⟩ := gd_dl a1 a2
  obtain ⟨y, hy⟩ := gd_dr a1 a2
  have ex : a1 / gd a1 a2 = x := Int.ediv_eq_of_eq_mul_right (by omega) hx
  have ey : a2 / gd a1 a2 = y := Int.ediv_eq_of_eq_mul_right (by omega) hy
  rw [ex, ey]
  generalize gd a1 a2 = d at *
  grind
theorem least_eq2 {a1 a2 : Int} (h1 : 1 ≤ a1) : a1 / gd a1 a2 * a2 = a2 * (a1 / gd a2 a1) := by
  rw [gd_comm a2 a1, Int.mul_comm]
theorem meet_iff {a1 b1 a2 b2 : Int} : (b1 - b2) % gd a1 a2 = 0 ↔ (b2 % a2 - b1 % a1) % gd a1 a2 = 0 := by
  have e1 := Int.emod_add_mul_ediv b1 a1
  have e2 := Int.emod_add_mul_ediv b2 a2
  have d1 : gd a1 a2 ∣ a1 * (b1 / a1) := Int.dvd_mul_of_dvd_left (gd_dl _ _)
  have d2 : gd a1 a2 ∣ a2 * (b2 / a2) := Int.dvd_mul_of_dvd_left (gd_dr _ _)
  constructor
  · intro h
    have h := Int.dvd_of_emod_eq_zero h
    refine Int.emod_eq_zero_of_dvd ?_
    have e : b2 % a2 - b1 % a1 = (a1 * (b1 / a1) - a2 * (b2 / a2)) - (b1 - b2) := by omega
    rw [e]
    exact Int.dvd_sub (Int.dvd_sub d1 d2) h
  · intro h
    have h := Int.dvd_of_emod_eq_zero h
    refine Int.emod_eq_zero_of_dvd ?_
    have e : b1 - b2 = (a1 * (b1 / a1) - a2 * (b2 / a2)) - (b2 % a2 - b1 % a1) := by omega
    rw [e]
    exact Int.dvd_sub (Int.dvd_sub d1 d2) h
theorem neg_mod {x d : Int} : x % d = 0 ↔ (-x) % d = 0 :=
  ⟨fun h => Int.emod_eq_zero_of_dvd (Int.dvd_neg.mpr (Int.dvd_of_emod_eq_zero h)), fun h => Int.emod_eq_zero_of_dvd (Int.dvd_neg.mp (Int.dvd_of_emod_eq_zero h))⟩
theorem gd_self {a : Int} (h : 1 ≤ a) : gd a a = a := by
  show ((Nat.gcd a.natAbs a.natAbs : Nat) : Int) = a
  rw [Nat.gcd_self]
  omega
/-- a row and its grid, beside another row and its grid -/
structure Pr (C : Addr) (H : Hp) (g t : Addr) (a b : Int) (g' t' : Addr) (a' b' : Int) : Prop where
  G : GridAt C H g a (b % a)
  T : H t = some (.tup [.int a, .int b])
  G' : GridAt C H g' a' (b' % a')
  T' : H t' = some (.tup [.int a', .int b'])
  l : 1 ≤ a
  u : a ≤ big
  l' : 1 ≤ a'
  u' : a' ≤ big
theorem Pr.same {C : Addr} {H H' : Hp} {g t : Addr} {a b : Int} {g' t' : Addr} {a' b' : Int} (S : Same H H') (h : Pr C H g t a b g' t' a' b') : Pr C H' g t a b g' t' a' b' :=
  ⟨h.G.same S, S _ _ h.T, h.G'.same S, S _ _ h.T', h.l, h.u, h.l', h.u'⟩
theorem Pr.swap {C : Addr} {H : Hp} {g t : Addr} {a b : Int} {g' t' : Addr} {a' b' : Int} (h : Pr C H g t a b g' t' a' b') : Pr C H g' t' a' b' g t a b := ⟨h.G', h.T', h.G, h.T, h.l', h.u', h.l, h.u⟩
theorem Pr.cm {C : Addr} {H : Hp} {g t : Addr} {a b : Int} {g' t' : Addr} {a' b' : Int} (h : Pr C H g t a b g' t' a' b') : Cm a (b % a) a' (b' % a') :=
  ⟨h.l, h.l', Int.emod_nonneg b (by have := h.l; omega), Int.emod_lt_of_pos b (by have := h.l; omega), Int.emod_nonneg b' (by have := h.l'; omega), Int.emod_lt_of_pos b' (by have := h.l'; omega), log_big (by have := h.l; omega) h.u, log_big (by have := h.l'; omega) h.u'⟩
theorem Pr.cs {C : Addr} {H : Hp} {g t : Addr} {a b : Int} {g' t' : Addr} {a' b' : Int} (h : Pr C H g t a b g' t' a' b') : Cm a (b % a) a (b % a) :=
  ⟨h.l, h.l, Int.emod_nonneg b (by have := h.l; omega), Int.emod_lt_of_pos b (by have := h.l; omega), Int.emod_nonneg b (by have := h.l; omega), Int.emod_lt_of_pos b (by have := h.l; omega), log_big (by have := h.l; omega) h.u, log_big (by have := h.l; omega) h.u⟩
theorem on_iff {x b a : Int} : ((x - b) % a = 0) ↔ x % a = b % a := Int.emod_eq_emod_iff_emod_sub_eq_zero.symm
/-- as the law asks it -/
theorem both_ne {a b a' b' t x : Int} (cm : Cm a (b % a) a' (b' % a')) (t0 : 0 ≤ t) (t1 : t < a * (a' / gd a a')) (t2 : t % a = b % a) (t3 : t % a' = b' % a') :
    (!(decide (x % (a * (a' / gd a a')) = t) == (decide ((x - b) % a = 0) && decide ((x - b') % a' = 0)))) = false := by
  have e := cm_iff (x := x) cm t0 t1 t2 t3
  by_cases h1 : (x - b) % a = 0
  · by_cases h2 : (x - b') % a' = 0
    · rw [decide_eq_true h1, decide_eq_true h2, decide_eq_true (e.mpr ⟨on_iff.mp h1, on_iff.mp h2⟩)]
      rfl
    · rw [decide_eq_true h1, decide_eq_false h2, decide_eq_false (fun z => h2 (on_iff.mpr (e.mp z).2))]
      rfl
  · rw [decide_eq_false h1, decide_eq_false (fun z => h1 (on_iff.mpr (e.mp z).1))]
    rfl
def spLaw (K : PySem.W.Frag) : Sp := fun vs H Q _ => ∃ (a : Addr) (ns : List Int), vs = [.ref a] ∧ SqL K H a (ns.map V.int) ∧ ns.length ≤ 63 ∧ ∀ H', Q (.bl true) H'
theorem same3 {H : Hp} {r r' : Addr} (h : H r = some (.lst [.bl true, .bl true, .bl false])) (h' : H r' = some (.lst [.bl true, .bl true, .bl false])) : SameAt H 2 (.ref r) (.ref r') := by
  refine .inr ⟨r, r', _, _, rfl, rfl, .inl ⟨h, h'⟩, by simp, rfl, fun i u v hu hv => ?_⟩
  cases hu.symm.trans hv
  have hm := List.mem_of_getElem? hu
  simp only [List.mem_cons, List.not_mem_nil, or_false] at hm
  rcases hm with e | e | e <;> subst e <;> exact .inl ⟨rfl, trivial⟩
section
variable {P : Program} {w : World} {K : PySem.W.Frag} {mg : Str → Option Value} {base : Heap} {C : Addr}
theorem ok_law {f : Addr} {fd : FuncData} (F : Fun K "law" "law" s_law f fd) (T : Txt mg) (G : GTxt K C) (g_Grid : mg "Grid" = some (.ref C))
    (f_law_box : Fn P w K mg base "_law_box" P_law_box [] 1 (spBox K)) (f_law_two : Fn P w K mg base "_law_two" P_law_two [] 4 spTwo) (f_law_near : Fn P w K mg base "_law_near" P_law_near [] 4 (spNear K)) (mk_Grid2 : Made P w K mg base "Grid" C P_Grid___init__ [] 1 (spInit C))
    (sm_Grid_common : SMth P w K mg base C "common" P_Grid_common 3 (spCommon C)) (o_Grid : Opr P w K mg base C "__contains__" P_Grid___contains__ 1 (spIn C)) (f_law_same : Fn P w K mg base "_law_same" P_law_same [] 3 (spSame 2)) (f_law_holds : Fn P w K mg base "_law_holds" P_law_holds [] 4 (spHolds C))
    (f_law_gcd : Fn P w K mg base "_law_gcd" P_law_gcd [] 1 spGcd) (f_law_on : Fn P w K mg base "_law_on" P_law_on [] 1 (spOn K)) (f_law_and : Fn P w K mg base "_law_and" P_law_and [] 5 (spAnd C)) (f_law_shared : Fn P w K mg base "_law_shared" P_law_shared [] 3 (spShared K C)) :
    FnOk P w K mg base CX0 6 f fd P_law (spLaw K) := by
  refine F.ok sc_law (fun vs H Q E h => ?_) (fun cdv A outer s H vs Q E hr h => ?_)
  · obtain ⟨a, ns, rfl, _⟩ := h
    rfl
  · obtain ⟨a, ns, rfl, ha, hl, k⟩ := h
    refine ⟨_, (pss_cons (ps_set (i := 1) sc_law.nd rfl (Or.inl rfl) (pe_fn f_law_box (hr.mono (by omega)) rfl (pa_cons (pv 0) (pa_cons pe_int pa_nil))))
    (pss_cons (ps_set (i := 2) sc_law.nd rfl (Or.inl rfl) (pe_fn f_law_two (hr.mono (by omega)) rfl (pa_cons (pv 1) pa_nil)))
    (pss_cons (ps_setLc (i := 3) (own := [("_law_row", 17)]) (g := gName 17) rfl sc_law.nd rfl rfl (sw_true rfl rfl rfl (by decide +kernel)) (pi_list (pv 2)) (blkOk_by (own := [("_law_row", 17)]) (N := N_law) (sc := defScope s_law) (by decide +kernel)) (fun _ _ _ _ _ => pg_name (i := 17) sc_law.nd rfl (Or.inl rfl)) (fun _ _ _ _ _ => pts_nil) (fun _ _ _ _ _ => (pe_mk mk_Grid2 (hr.mono (by omega)) rfl (pa_cons (pe_ix (r := rIxT K) ix_tup (pv 17) pe_int (fun _ _ => rfl)) (pa_cons (pe_ix (r := rIxT K) ix_tup (pv 17) pe_int (fun _ _ => rfl)) pa_nil)))))
    (pss_cons (ps_set (i := 4) sc_law.nd rfl (Or.inl rfl) (pe_fn f_law_gcd (hr.mono (by omega)) rfl (pa_cons (pe_ix ix_tup (pe_ix ix_list (pv 2) pe_int (fun _ _ => rfl)) pe_int (fun _ _ => rfl)) (pa_cons (pe_ix ix_tup (pe_ix ix_list (pv 2) pe_int (fun _ _ => rfl)) pe_int (fun _ _ => rfl)) pa_nil))))
    (pss_cons (ps_set (i := 5) sc_law.nd rfl (Or.inl rfl) (pe_op op_mulW (pe_op op_fdivW (pe_ix ix_tup (pe_ix ix_list (pv 2) pe_int (fun _ _ => rfl)) pe_int (fun _ _ => rfl)) (pv 4)) (pe_ix ix_tup (pe_ix ix_list (pv 2) pe_int (fun _ _ => rfl)) pe_int (fun _ _ => rfl))))
    (pss_cons (ps_set (i := 6) sc_law.nd rfl (Or.inl rfl) (pe_cmpR op_eq (pe_op op_mod (pe_callTy c_int rfl T.b_int (by decide +kernel) (pa_cons (pe_op op_sub (pe_ix ix_tup (pe_ix ix_list (pv 2) pe_int (fun _ _ => rfl)) pe_int (fun _ _ => rfl)) (pe_ix ix_tup (pe_ix ix_list (pv 2) pe_int (fun _ _ => rfl)) pe_int (fun _ _ => rfl))) pa_nil)) (pv 4)) pe_int (nomark _)))
    (pss_cons (ps_set (i := 1) sc_law.nd rfl (Or.inl rfl) (pe_fn f_law_box (hr.mono (by omega)) rfl (pa_cons (pv 0) (pa_cons pe_int pa_nil))))
    (pss_cons (ps_set (i := 7) sc_law.nd rfl (Or.inl rfl) (pe_lst pa_nil))
    (pss_cons (ps_for PassesOwn.never rfl (pi_range1 rfl T.b_range (pa_cons pe_int pa_nil)) (pg_name (i := 8) sc_law.nd rfl (Or.inl rfl)) (pss_cons (ps_expr (pe_bm PySem.F.plainAttrs_list PySem.F.slot_list_append PySem.F.type_list_append mt_append (pv 7) (pa_cons (pe_fn f_law_near (hr.mono (by omega)) rfl (pa_cons (pv 1) (pa_cons (pe_ix ix_list (pv 2) pe_int (fun _ _ => rfl)) pa_nil))) pa_nil)))
    (pss_one (ps_expr (pe_bm PySem.F.plainAttrs_list PySem.F.slot_list_append PySem.F.type_list_append mt_append (pv 7) (pa_cons (pe_fn f_law_near (hr.mono (by omega)) rfl (pa_cons (pv 1) (pa_cons (pe_ix ix_list (pv 2) pe_int (fun _ _ => rfl)) pa_nil))) pa_nil))))))
    (pss_cons (ps_for PassesOwn.never rfl (pi_range1 rfl T.b_range (pa_cons pe_int pa_nil)) (pg_name (i := 8) sc_law.nd rfl (Or.inl rfl)) (pss_cons (ps_set (i := 9) sc_law.nd rfl (Or.inl rfl) (pe_ix ix_list (pv 2) (pv 8) (fun _ _ => rfl)))
    (pss_cons (ps_set (i := 10) sc_law.nd rfl (Or.inl rfl) (pe_ix ix_list (pv 2) (pe_op op_sub pe_int (pv 8)) (fun _ _ => rfl)))
    (pss_cons (ps_set (i := 11) sc_law.nd rfl (Or.inl rfl) (pe_smth sm_Grid_common (hr.mono (by omega)) (pe_glob (v := .ref C) rfl g_Grid rfl) (pa_cons (pe_ix ix_list (pv 3) (pv 8) (fun _ _ => rfl)) (pa_cons (pe_ix ix_list (pv 3) (pe_op op_sub pe_int (pv 8)) (fun _ _ => rfl)) pa_nil))))
    (pss_cons (ps_set (i := 12) sc_law.nd rfl (Or.inl rfl) (pe_fn f_law_and (hr.mono (by omega)) rfl (pa_cons (pe_ix ix_list (pv 3) (pv 8) (fun _ _ => rfl)) (pa_cons (pe_ix ix_list (pv 3) (pe_op op_sub pe_int (pv 8)) (fun _ _ => rfl)) pa_nil))))
    (pss_mid (ps_if (pt_not (pt_val (pv 6))) (pss_cons (ps_set (i := 13) sc_law.nd rfl (Or.inl rfl) (pe_ix ix_list (pv 12) pe_int (fun _ _ => rfl)))
    (pss_cons (ps_if (PW.pt (pw_or (pt_cmpR o_notN (pv 11) pe_non (nomark _)) (pw_or (pt_cmpR o_notN (pe_ix ix_list (pv 12) pe_int (fun _ _ => rfl)) pe_non (nomark _)) (pw_or1 (pt_cmpR o_isN (pv 13) pe_non (nomark _)))))) (pss_one (ps_ret pe_bl)) pss_nil)
    (pss_cons (ps_if (PW.pt (pw_or (pt_not (pt_val (pe_fn f_law_holds (hr.mono (by omega)) rfl (pa_cons (pe_ix ix_list (pv 13) pe_int (fun _ _ => rfl)) (pa_cons (pe_ix ix_tup (pv 9) pe_int (fun _ _ => rfl)) (pa_cons (pe_op op_mod (pe_callTy c_int rfl T.b_int (by decide +kernel) (pa_cons (pe_ix ix_tup (pv 9) pe_int (fun _ _ => rfl)) pa_nil)) (pe_ix ix_tup (pv 9) pe_int (fun _ _ => rfl))) pa_nil)))))) (pw_or1 (pt_not (pt_val (pe_fn f_law_same (hr.mono (by omega)) rfl (pa_cons (pe_slice sl_list (pv 13) (po_some pe_int) po_none) (pa_cons (pe_lst (pa_cons pe_bl (pa_cons pe_bl (pa_cons pe_bl pa_nil)))) pa_nil)))))))) (pss_one (ps_ret pe_bl)) pss_nil)
    (pss_one (ps_if (pt_not (pt_val (pe_fn f_law_holds (hr.mono (by omega)) rfl (pa_cons (pe_ix ix_list (pv 13) pe_int (fun _ _ => rfl)) (pa_cons (pe_ix ix_tup (pv 10) pe_int (fun _ _ => rfl)) (pa_cons (pe_op op_mod (pe_callTy c_int rfl T.b_int (by decide +kernel) (pa_cons (pe_ix ix_tup (pv 10) pe_int (fun _ _ => rfl)) pa_nil)) (pe_ix ix_tup (pv 10) pe_int (fun _ _ => rfl))) pa_nil)))))) (pss_one (ps_ret pe_bl)) pss_nil))))) (pss_cons (ps_if (pt_cmpR o_notN (pe_ix ix_list (pv 12) pe_int (fun _ _ => rfl)) pe_non (nomark _)) (pss_one (ps_ret pe_bl)) pss_nil)
    (pss_one (ps_for PassesOwn.never rfl (pi_tup (pe_tup (pa_cons (pv 11) (pa_cons (pe_ix ix_list (pv 12) pe_int (fun _ _ => rfl)) pa_nil)))) (pg_name (i := 14) sc_law.nd rfl (Or.inl rfl)) (pss_cons (ps_if (pt_not (pt_val (pe_fn f_law_shared (hr.mono (by omega)) rfl (pa_cons (pv 14) (pa_cons (pv 9) (pa_cons (pv 10) (pa_cons (pv 5) pa_nil))))))) (pss_one (ps_ret pe_bl)) pss_nil)
    (pss_one (ps_for PassesOwn.never rfl (pi_list (pv 7)) (pg_name (i := 15) sc_law.nd rfl (Or.inl rfl)) (pss_one (ps_if (pt_cmpR op_ne (pe_cmpR (op_in o_Grid (hr.mono (by omega))) (pv 15) (pv 14) (by rfl)) (pe_and (pe_fn f_law_on (hr.mono (by omega)) rfl (pa_cons (pv 9) (pa_cons (pv 15) pa_nil))) (pe_one (pe_fn f_law_on (hr.mono (by omega)) rfl (pa_cons (pv 10) (pa_cons (pv 15) pa_nil))))) (nomark _)) (pss_one (ps_ret pe_bl)) pss_nil)))))))))
    (pss_cons (ps_for PassesOwn.never rfl (pi_tup (pe_tup (pa_cons (pe_smth sm_Grid_common (hr.mono (by omega)) (pe_glob (v := .ref C) rfl g_Grid rfl) (pa_cons (pe_ix ix_list (pv 3) (pv 8) (fun _ _ => rfl)) (pa_cons (pe_ix ix_list (pv 3) (pv 8) (fun _ _ => rfl)) pa_nil))) (pa_cons (pe_ix ix_list (pe_fn f_law_and (hr.mono (by omega)) rfl (pa_cons (pe_ix ix_list (pv 3) (pv 8) (fun _ _ => rfl)) (pa_cons (pe_mk mk_Grid2 (hr.mono (by omega)) rfl (pa_cons (pe_ix ix_tup (pv 9) pe_int (fun _ _ => rfl)) (pa_cons (pe_ix ix_tup (pv 9) pe_int (fun _ _ => rfl)) pa_nil))) pa_nil))) pe_int (fun _ _ => rfl)) (pa_cons (pe_ix ix_list (pv 3) (pv 8) (fun _ _ => rfl)) pa_nil))))) (pg_name (i := 16) sc_law.nd rfl (Or.inl rfl)) (pss_one (ps_if (pt_not (pt_val (pe_fn f_law_holds (hr.mono (by omega)) rfl (pa_cons (pv 16) (pa_cons (pe_ix ix_tup (pv 9) pe_int (fun _ _ => rfl)) (pa_cons (pe_op op_mod (pe_callTy c_int rfl T.b_int (by decide +kernel) (pa_cons (pe_ix ix_tup (pv 9) pe_int (fun _ _ => rfl)) pa_nil)) (pe_ix ix_tup (pv 9) pe_int (fun _ _ => rfl))) pa_nil)))))) (pss_one (ps_ret pe_bl)) pss_nil)))
    (pss_one (ps_if (pt_not (pt_val (pe_fn f_law_holds (hr.mono (by omega)) rfl (pa_cons (pe_ix ix_list (pv 3) (pe_op op_sub pe_int (pv 8)) (fun _ _ => rfl)) (pa_cons (pe_ix ix_tup (pv 10) pe_int (fun _ _ => rfl)) (pa_cons (pe_op op_mod (pe_callTy c_int rfl T.b_int (by decide +kernel) (pa_cons (pe_ix ix_tup (pv 10) pe_int (fun _ _ => rfl)) pa_nil)) (pe_ix ix_tup (pv 10) pe_int (fun _ _ => rfl))) pa_nil)))))) (pss_one (ps_ret pe_bl)) pss_nil)))))))))
    (pss_one (ps_ret pe_bl)))))))))))), ?_⟩
    refine Bar.rStart (σ := [some (.ref a), none, none, none, none, none, none, none, none, none, none, none, none, none, none, none, none, none]) rfl ?_
    walk_at "rd"
    refine ⟨a, ns, 0, rfl, ha, fun b H1 c z S1 hb hb1 => ?_⟩
    walk_at "rd"
    refine ⟨b, c, z, 0, rfl, hb1, fun R t1 t2 a1 b1 a2 b2 H2 ⟨K2, c2, n2, hb2⟩ hR hT1 hT2 a1l a1u a2l a2u => ?_⟩
    walk_at "rd"
    refine Bar.lcL (xs := [V.ref t1, .ref t2]) (τ := [some (.ref a), some (.ref b), some (.ref R), none, none, none, none, none, none, none, none, none, none, none, none, none, none, none]) rfl (SqL.of hR) (fun D hD => ⟨fun i H' => Same H2 H' ∧ ((i = 0 ∧ H' D = some (.lst [])) ∨ (i = 1 ∧ ∃ g1, H' D = some (.lst [.ref g1]) ∧ GridAt C H' g1 a1 (b1 % a1)) ∨ (i = 2 ∧ ∃ g1 g2, H' D = some (.lst [.ref g1, .ref g2]) ∧ GridAt C H' g1 a1 (b1 % a1) ∧ GridAt C H' g2 a2 (b2 % a2))),
      ⟨fun _ _ z => Bar.lkNew hD z, .inl ⟨rfl, upd_same⟩⟩, fun i H' _ ⟨S, _⟩ => SqL.of (S _ _ hR), ?_, ?_⟩)
    · rintro i x H' hx ⟨S, hh⟩
      have nD : ∀ {p : Addr} {o : HO}, H2 p = some o → p ≠ D := fun z => ne_of_none z hD
      rcases hh with ⟨rfl, hd⟩ | ⟨rfl, g1, hd, G1⟩ | ⟨rfl, _⟩
      · cases hx
        have hT1' := S _ _ hT1
        walk_at "rd"
        refine ⟨rfl, ?_⟩
        walk_at "rd"
        refine mkG a1l fun g H3 hg S3 G3 => ?_
        refine ⟨_, S3 _ _ hd, by decide, fun p o z => ?_, .inr (.inl ⟨rfl, g, upd_same, ?_⟩)⟩
        · rw [upd_ne (nD z)]
          exact S3 _ _ (S _ _ z)
        · obtain ⟨dx, q⟩ := G3
          exact ⟨dx, by rw [upd_ne (ne_of q (S3 _ _ hd) (by intro w; cases w))]; exact q⟩
      · cases hx
        have hT2' := S _ _ hT2
        walk_at "rd"
        refine ⟨rfl, ?_⟩
        walk_at "rd"
        refine mkG a2l fun g H3 hg S3 G3 => ?_
        have kG : ∀ {q : Addr} {x y : Int}, GridAt C H3 q x y → GridAt C (upd H3 D (.lst ([.ref g1] ++ [.ref g]))) q x y := by
          rintro q x y ⟨dx, q⟩
          exact ⟨dx, by rw [upd_ne (ne_of q (S3 _ _ hd) (by intro w; cases w))]; exact q⟩
        refine ⟨_, S3 _ _ hd, by simp; decide, fun p o z => ?_, .inr (.inr ⟨rfl, g1, g, upd_same, kG (G1.same S3), kG G3⟩)⟩
        rw [upd_ne (nD z)]
        exact S3 _ _ (S _ _ z)
      · cases hx
    · rintro H3 ⟨S3, hh⟩
      obtain ⟨g1, g2, hM, G1, G2⟩ : ∃ g1 g2, H3 D = some (.lst [.ref g1, .ref g2]) ∧ GridAt C H3 g1 a1 (b1 % a1) ∧ GridAt C H3 g2 a2 (b2 % a2) := by
        rcases hh with ⟨e, _⟩ | ⟨e, _⟩ | ⟨_, h⟩
        · cases e
        · cases e
        · exact h
      clear hh
      have hRx := S3 _ _ hR
      have hT1x := S3 _ _ hT1
      have hT2x := S3 _ _ hT2
      walk_at "rd"
      refine ⟨a1, a2, rfl, a1l, a2l, a1u, a2u, ?_⟩
      have gp := gd_pos (b := a2) a1l
      have gs : (gd a1 a2).natAbs < 2 ^ 1400 := by
        refine Nat.lt_of_le_of_lt ?_ (Nat.lt_of_lt_of_le (log_big (by omega) a1u) (Nat.pow_le_pow_right (by decide) (show 1326 ≤ 1400 by decide)))
        show (((Nat.gcd a1.natAbs a2.natAbs : Nat) : Int)).natAbs ≤ _
        rw [Int.natAbs_natCast]
        exact Nat.gcd_le_left _ (by omega)
      have a2s : a2.natAbs < 2 ^ 1400 := Nat.lt_of_lt_of_le (log_big (by omega) a2u) (Nat.pow_le_pow_right (by decide) (by decide))
      have q1s : (a1 / gd a1 a2).natAbs < 2 ^ 1400 := quot_size a1l (log_big (by omega) a1u)
      walk_at "rd"
      refine Bar.rI_ (divW_ok (by omega) gs) ?_
      walk_at "rd"
      refine Bar.rI_ (mulW_ok q1s a2s) ?_
      walk_at "rd"
      refine ⟨a, ns, 1, rfl, Bar.sqKf (((Kp.of_same S1).trans K2).trans (Kp.of_same S3)) hb ha, fun b' H9 c' z' S9 hb' hb9 => ?_⟩
      have TW : Two C b' t1 t2 R D g1 g2 a1 b1 a2 b2 H9 := Two.of hb9 (by simp) (by simp) (S9 _ _ hT1x) (S9 _ _ hT2x) (S9 _ _ hRx) (S9 _ _ hM) (G1.same S9) (G2.same S9)
      have eL := least_eq (a2 := a2) a1l
      clear hRx hT1x hT2x hM G1 G2 S9 hb' hT1 hT2 hR S3 K2 S1 hb hb1 hb2 ha hD gs a2s q1s
      walk_at "rd"
      intro L hL
      walk_at "rd"
      have nL : L ≠ b' := fun e => by
        rw [e, hb9] at hL
        cases hL
      have nL' := nL.symm
      have lL : ∀ {p : Addr} {o : HO}, H9 p = some o → p ≠ L := fun z => ne_of_none z hL
      refine Bar.forR 3 rfl (fun i σ H2 => Kp2 b' L H9 H2 ∧ ∃ (is : List Int) (c n : Int) (x8 : Option V), is.length = 2 * i ∧ H2 L = some (.lst (is.map V.int)) ∧ H2 b' = some (box c z' n) ∧ σ = [some (.ref a), some (.ref b'), some (.ref R), some (.ref D), some (.int (gd a1 a2)), some (.int (a1 / gd a1 a2 * a2)), some (.bl (decide ((b1 - b2) % gd a1 a2 = 0))), some (.ref L), x8, none, none, none, none, none, none, none, none, none]) (by decide) ⟨fun p o n m e => by rw [upd_ne m]; exact e, [], _, _, _, rfl, upd_same, Bar.lkNew hL hb9, rfl⟩ ?_ ?_
      · rintro i σ H2 hi ⟨KK, is, c1, n1, x8, hlen, hLs, hbs', rfl⟩
        have TR' : H2 R = some (.lst [.ref t1, .ref t2]) := KK _ _ TW.nR (lL TW.TR) TW.TR
        have T1' : H2 t1 = some (.tup [.int a1, .int b1]) := KK _ _ TW.n1 (lL TW.T1) TW.T1
        have T2' : H2 t2 = some (.tup [.int a2, .int b2]) := KK _ _ TW.n2 (lL TW.T2) TW.T2
        walk_at "rd"
        refine ⟨b', t1, c1, z', n1, a1, b1, rfl, hbs', SqT.of T1', a1l, a1u, fun r H3 _ _ ⟨K1, c2, n2, hb1⟩ => ?_⟩
        walk_at "rd"
        have hLs1 := K1 _ _ nL hLs
        refine Bar.rAppend_ hLs1 (Bar.szLt (by rw [List.length_map]; omega)) ?_
        have TR2 := Bar.lkNe (o := .lst (is.map V.int ++ [V.int r])) (lL TW.TR) (K1 _ _ TW.nR TR')
        walk_at "rd"
        refine ⟨b', t2, c2, z', n2, a2, b2, rfl, Bar.lkNe nL' hb1, SqT.of (Bar.lkNe (lL TW.T2) (K1 _ _ TW.n2 T2')), a2l, a2u, fun r' H4 _ _ ⟨K2, c3, n3, hb2⟩ => ?_⟩
        walk_at "rd"
        have hLs2 := K2 _ _ nL upd_same
        refine Bar.rAppend_ hLs2 (Bar.szLt (by rw [List.length_append, List.length_map]; show _ + 1 < _; omega)) ?_
        walk_at "rd"
        refine ⟨((KK.kp K1).set.kp K2).set, is ++ [r] ++ [r'], c3, n3, _, ?_, ?_, Bar.lkNe nL' hb2, rfl⟩
        · rw [List.length_append, List.length_append, hlen]
          show 2 * i + 1 + 1 = _
          omega
        · rw [upd_same, List.map_append, List.map_append]
          rfl
      · rintro σ H2 ⟨KK, is, c1, n1, x8, hlen, hLs, hbs', rfl⟩
        replace TW : Two C b' t1 t2 R D g1 g2 a1 b1 a2 b2 H2 := TW.kp2 KK hL
        clear KK lL hL hb9 hbs' hlen
        walk_at "rd"
        refine Bar.forR 2 rfl (fun _ σ H3 => Same H2 H3 ∧ ∃ x8 x9 x10 x11 x12 x13 x14 x15 x16 : Option V, σ = [some (.ref a), some (.ref b'), some (.ref R), some (.ref D), some (.int (gd a1 a2)), some (.int (a1 / gd a1 a2 * a2)), some (.bl (decide ((b1 - b2) % gd a1 a2 = 0))), some (.ref L), x8, x9, x10, x11, x12, x13, x14, x15, x16, none]) (by decide) ⟨fun _ _ z => z, _, _, _, _, _, _, _, _, _, rfl⟩ ?_ ?_
        · rintro q σ H3 hq ⟨S3, x8, x9, x10, x11, x12, x13, x14, x15, x16, rfl⟩
          have hq3 : q = 0 ∨ q = 1 := by omega
          have P0 : Pr C H3 g1 t1 a1 b1 g2 t2 a2 b2 := Pr.same S3 ⟨TW.G1, TW.T1, TW.G2, TW.T2, a1l, a1u, a2l, a2u⟩
          have sel : ∃ g t a b g' t' a' b', Pr C H3 g t a b g' t' a' b' ∧ atI [V.ref g1, .ref g2] (q : Int) = some (.ref g) ∧ atI [V.ref g1, .ref g2] (1 - (q : Int)) = some (.ref g') ∧ atI [V.ref t1, .ref t2] (q : Int) = some (.ref t) ∧ atI [V.ref t1, .ref t2] (1 - (q : Int)) = some (.ref t') ∧
              a1 / gd a1 a2 * a2 = a * (a' / gd a a') ∧ ((b1 - b2) % gd a1 a2 = 0 ↔ (b' % a' - b % a) % gd a a' = 0) := by
            rcases hq3 with e | e <;> subst e
            · exact ⟨g1, t1, a1, b1, g2, t2, a2, b2, P0, rfl, rfl, rfl, rfl, eL, meet_iff⟩
            · refine ⟨g2, t2, a2, b2, g1, t1, a1, b1, P0.swap, rfl, rfl, rfl, rfl, least_eq2 a1l, ?_⟩
              rw [meet_iff, gd_comm a2 a1, neg_mod, Int.neg_sub]
          obtain ⟨g, t, aa, bb, g', t', aa', bb', PR, ig, ig', it, it', eq1, eq2⟩ := sel
          clear P0
          have TM' := S3 _ _ TW.TM
          have TR' := S3 _ _ TW.TR
          walk_at "rd"
          refine Bar.rIxL_ (SqL.of TR') it ?_
          walk_at "rd"
          refine Bar.rIxL_ (SqL.of TR') it' ?_
          walk_at "rd"
          refine ⟨rfl, ?_⟩
          walk_at "rd"
          refine Bar.rIxL_ (SqL.of TM') ig ?_
          walk_at "rd"
          refine Bar.rIxL_ (SqL.of TM') ig' ?_
          walk_at "rd"
          have Tt := PR.T
          have Tt' := PR.T'
          have la := PR.l
          have la' := PR.l'
          have lp : 0 < aa := by omega
          have lp' : 0 < aa' := by omega
          refine ⟨g, g', aa, bb % aa, aa', bb' % aa', rfl, PR.G, PR.G', PR.cm, PR.u, fun hd => ?_, fun hd p tk H4 S4 Gp p0 p1 p2 p3 => ?_⟩
          · walk_at "rd"
            refine Bar.rIxL_ (SqL.of TM') ig ?_
            walk_at "rd"
            refine Bar.rIxL_ (SqL.of TM') ig' ?_
            walk_at "rd"
            refine ⟨g, g', aa, bb % aa, aa', bb' % aa', rfl, PR.G, PR.G', PR.cm, PR.u, fun _ r td H4 S4 hr4 ht4 => ?_, fun z => absurd z hd⟩
            walk_at "rd"
            refine ⟨fun σ H5 => Same H3 H5 ∧ ∃ x11 x12 x13 x14 x15 : Option V, σ = [some (.ref a), some (.ref b'), some (.ref R), some (.ref D), some (.int (gd a1 a2)), some (.int (a1 / gd a1 a2 * a2)), some (.bl (decide ((b1 - b2) % gd a1 a2 = 0))), some (.ref L), some (.int q), some (.ref t), some (.ref t'), x11, x12, x13, x14, x15, x16, none], ?_, ?_⟩
            · walk_at "rd"
              refine Bar.iteBT (show (!decide ((b1 - b2) % gd a1 a2 = 0)) = true by rw [decide_eq_false (fun z => hd (eq2.mp z))]; rfl) ?_
              walk_at "rd"
              refine ⟨g, aa, bb % aa, rfl, PR.G.same S4, fun H5 S5 => ?_⟩
              have ht5 := S5 _ _ ht4
              have Tt5 := S5 _ _ (S4 _ _ Tt')
              walk_at "rd"
              refine Bar.rSlL_ (SqL.of ht5) fun l hl => ?_
              walk_at "rd"
              intro l2 hl2
              walk_at "rd"
              refine ⟨_, _, rfl, same3 (Bar.lkNew hl2 upd_same) upd_same, ?_⟩
              have ht6 := Bar.lkNew (o := .lst [.bl true, .bl true, .bl false]) hl2 (Bar.lkNew (o := .lst (cutV [V.ref g, .ref g', .bl true, .bl true, .bl false] (some 2) none)) hl ht5)
              have Tt6 := Bar.lkNew (o := .lst [.bl true, .bl true, .bl false]) hl2 (Bar.lkNew (o := .lst (cutV [V.ref g, .ref g', .bl true, .bl true, .bl false] (some 2) none)) hl Tt5)
              walk_at "rd"
              refine ⟨g', aa', bb' % aa', rfl, (((PR.G'.same S4).same S5).new hl).new hl2, fun H7 S7 => ?_⟩
              walk_at "rd"
              exact ⟨fun b u z => S7 _ _ (Bar.lkNew hl2 (Bar.lkNew hl (S5 _ _ (S4 _ _ z)))), _, _, _, _, _, rfl⟩
            · rintro σ H5 ⟨S5, x11, x12, x13, x14, x15, rfl⟩
              have PR5 := PR.same S5
              have TM5 := S5 _ _ TM'
              have Tt5 := PR5.T
              have z0 : (bb % aa - bb % aa) % gd aa aa = 0 := by
                rw [Int.sub_self, Int.zero_emod]
              have gs : aa * (aa / gd aa aa) = aa := by
                rw [gd_self PR.l, Int.ediv_self (by have := PR.l; omega), Int.mul_one]
              walk_at "rd"
              refine ⟨rfl, ?_⟩
              walk_at "rd"
              refine Bar.rIxL_ (SqL.of TM5) ig ?_
              walk_at "rd"
              refine Bar.rIxL_ (SqL.of TM5) ig ?_
              walk_at "rd"
              refine ⟨g, g, aa, bb % aa, aa, bb % aa, rfl, PR5.G, PR5.G, PR.cs, PR.u, fun z => absurd z0 z, fun _ pa ta H6 S6 Ga ga0 ga1 ga2 ga3 => ?_⟩
              have TM6 := S6 _ _ TM5
              have Tt6 := S6 _ _ Tt5
              walk_at "rd"
              refine Bar.rIxL_ (SqL.of TM6) ig ?_
              walk_at "rd"
              refine mkG PR.l fun gn H7 hgn S7 Gn => ?_
              walk_at "rd"
              refine ⟨g, gn, aa, bb % aa, aa, bb % aa, rfl, (PR5.G.same S6).same S7, Gn, PR.cs, PR.u, fun z => absurd z0 z, fun _ rb pb tb H8 S8 hrb Gb gb0 gb1 gb2 gb3 => ?_⟩
              rw [gs] at Ga Gb ga1 gb1
              rw [Int.emod_eq_of_lt ga0 ga1] at ga2
              rw [Int.emod_eq_of_lt gb0 gb1] at gb2
              subst ga2 gb2
              have TM8 := S8 _ _ (S7 _ _ TM6)
              have Tt8 := S8 _ _ (S7 _ _ Tt6)
              walk_at "rd"
              refine Bar.rIxL_ (SqL.of TM8) ig ?_
              walk_at "rd"
              intro tp htp
              walk_at "rd"
              have S58 : Same H5 H8 := fun b u z => S8 _ _ (S7 _ _ (S6 _ _ z))
              refine Bar.forT (xs := [.ref pa, .ref pb, .ref g]) (fun _ σ H9 => Same H8 H9 ∧ H9 tp = some (.tup [.ref pa, .ref pb, .ref g]) ∧ ∃ x16 : Option V, σ = [some (.ref a), some (.ref b'), some (.ref R), some (.ref D), some (.int (gd a1 a2)), some (.int (a1 / gd a1 a2 * a2)), some (.bl (decide ((b1 - b2) % gd a1 a2 = 0))), some (.ref L), some (.int q), some (.ref t), some (.ref t'), x11, x12, x13, x14, x15, x16, none]) (SqT.of upd_same) ⟨fun _ _ z => Bar.lkNew htp z, upd_same, _, rfl⟩ (fun i σ H' _ ⟨_, e, _⟩ => SqT.of e) ?_ ?_
              · rintro j v σ H9 hv ⟨S9, htp', x16, rfl⟩
                obtain ⟨pp, rfl, Gx⟩ : ∃ pp, v = V.ref pp ∧ GridAt C H9 pp aa (bb % aa) := by
                  have hm := List.mem_of_getElem? hv
                  simp only [List.mem_cons, List.not_mem_nil, or_false] at hm
                  rcases hm with e | e | e
                  · exact ⟨pa, e, ((Ga.same S7).same S8).same S9⟩
                  · exact ⟨pb, e, Gb.same S9⟩
                  · exact ⟨g, e, (PR5.G.same S58).same S9⟩
                have Tt9 := S9 _ _ Tt8
                walk_at "rd"
                refine ⟨pp, aa, bb % aa, rfl, Gx, fun H10 S10 => ?_⟩
                walk_at "rd"
                exact ⟨fun b u z => S10 _ _ (S9 _ _ z), S10 _ _ htp', _, rfl⟩
              · rintro σ H9 ⟨S9, htp', x16, rfl⟩
                have TM9 := S9 _ _ TM8
                have Tt9' := S9 _ _ (S58 _ _ PR5.T')
                walk_at "rd"
                refine Bar.rIxL_ (SqL.of TM9) ig' ?_
                walk_at "rd"
                refine ⟨g', aa', bb' % aa', rfl, (PR5.G'.same S58).same S9, fun H10 S10 => ?_⟩
                walk_at "rd"
                exact ⟨fun b u z => S10 _ _ (S9 _ _ (S58 _ _ (S5 _ _ (S3 _ _ z)))), _, _, _, _, _, _, _, _, _, rfl⟩
          · have PR4 := PR.same S4
            have TM4 := S4 _ _ TM'
            walk_at "rd"
            refine Bar.rIxL_ (SqL.of TM4) ig ?_
            walk_at "rd"
            refine Bar.rIxL_ (SqL.of TM4) ig' ?_
            walk_at "rd"
            refine ⟨g, g', aa, bb % aa, aa', bb' % aa', rfl, PR4.G, PR4.G', PR4.cm, PR.u, fun z => absurd hd z, fun _ r p' tk' H5 S5 hr5 Gp' p0' p1' p2' p3' => ?_⟩
            walk_at "rd"
            refine ⟨fun σ H5 => Same H3 H5 ∧ ∃ x11 x12 x13 x14 x15 : Option V, σ = [some (.ref a), some (.ref b'), some (.ref R), some (.ref D), some (.int (gd a1 a2)), some (.int (a1 / gd a1 a2 * a2)), some (.bl (decide ((b1 - b2) % gd a1 a2 = 0))), some (.ref L), some (.int q), some (.ref t), some (.ref t'), x11, x12, x13, x14, x15, x16, none], ?_, ?_⟩
            · walk_at "rd"
              refine Bar.iteBF (show (!decide ((b1 - b2) % gd a1 a2 = 0)) = false by rw [decide_eq_true (eq2.mpr hd)]; rfl) ?_
              walk_at "rd"
              intro tp htp
              walk_at "rd"
              have Gp5 := Gp.same S5
              refine Bar.forT (xs := [.ref p, .ref p']) (fun _ σ H6 => Same H5 H6 ∧ H6 tp = some (.tup [.ref p, .ref p']) ∧ ∃ x14 x15 : Option V, σ = [some (.ref a), some (.ref b'), some (.ref R), some (.ref D), some (.int (gd a1 a2)), some (.int (a1 / gd a1 a2 * a2)), some (.bl (decide ((b1 - b2) % gd a1 a2 = 0))), some (.ref L), some (.int q), some (.ref t), some (.ref t'), some (.ref p), some (.ref r), x13, x14, x15, x16, none]) (SqT.of upd_same) ⟨fun _ _ z => Bar.lkNew htp z, upd_same, _, _, rfl⟩ (fun i σ H' _ ⟨_, e, _⟩ => SqT.of e) ?_ ?_
              · rintro j v σ H6 hv ⟨S6, htp', x14, x15, rfl⟩
                obtain ⟨pp, tt, rfl, Gx, y0, y1, y2, y3⟩ : ∃ pp tt, v = V.ref pp ∧ GridAt C H6 pp (aa * (aa' / gd aa aa')) tt ∧ 0 ≤ tt ∧ tt < aa * (aa' / gd aa aa') ∧ tt % aa = bb % aa ∧ tt % aa' = bb' % aa' := by
                  have hm := List.mem_of_getElem? hv
                  simp only [List.mem_cons, List.not_mem_nil, or_false] at hm
                  rcases hm with e | e
                  · exact ⟨p, tk, e, Gp5.same S6, p0, p1, p2, p3⟩
                  · exact ⟨p', tk', e, Gp'.same S6, p0', p1', p2', p3'⟩
                have T6 := S6 _ _ (S5 _ _ PR4.T)
                have T6' := S6 _ _ (S5 _ _ PR4.T')
                walk_at "rd"
                refine ⟨pp, t, t', _, tt, aa, bb, aa', bb', rfl, eq1 ▸ Gx, SqT.of T6, SqT.of T6', PR.l, PR.l', y0, eq1 ▸ y1, on_iff.mpr y2, on_iff.mpr y3, ?_⟩
                have hL6 := S6 _ _ (S5 _ _ (S4 _ _ (S3 _ _ hLs)))
                walk_at "rd"
                refine Bar.forL (xs := is.map V.int) (fun _ σ H7 => H7 = H6 ∧ ∃ x15 : Option V, σ = [some (.ref a), some (.ref b'), some (.ref R), some (.ref D), some (.int (gd a1 a2)), some (.int (a1 / gd a1 a2 * a2)), some (.bl (decide ((b1 - b2) % gd a1 a2 = 0))), some (.ref L), some (.int q), some (.ref t), some (.ref t'), some (.ref p), some (.ref r), x13, some (.ref pp), x15, x16, none]) (SqL.of hL6) ⟨rfl, _, rfl⟩ (fun i σ H2 _ ⟨e, _⟩ => by rw [e]; exact SqL.of hL6) ?_ ?_
                · rintro m v σ H7 hv ⟨rfl, x15, rfl⟩
                  obtain ⟨u, hu, rfl⟩ : ∃ u, u ∈ is ∧ v = V.int u := by
                    obtain ⟨u, hu, e⟩ := List.mem_map.mp (List.mem_of_getElem? hv)
                    exact ⟨u, hu, e.symm⟩
                  walk_at "rd"
                  refine rInG Gx (by omega) ?_
                  walk_at "rd"
                  refine ⟨t, aa, bb, u, rfl, SqT.of T6, PR.l, ?_⟩
                  have bn := both_ne (x := u) PR.cm y0 y1 y2 y3
                  walk_at "rd"
                  refine ite2 (fun h1 => ?_) (fun h1 => ?_)
                  · walk_at "rd"
                    refine ⟨t', aa', bb', u, rfl, SqT.of T6', PR.l', ?_⟩
                    rw [h1, Bool.true_and] at bn
                    walk_at "rd"
                    refine Bar.iteBF bn ?_
                    walk_at "rd"
                    exact ⟨rfl, _, rfl⟩
                  · rw [Bool.eq_false_iff.mpr h1, Bool.false_and] at bn
                    walk_at "rd"
                    refine Bar.iteBF bn ?_
                    walk_at "rd"
                    exact ⟨rfl, _, rfl⟩
                · rintro σ H7 ⟨rfl, x15, rfl⟩
                  walk_at "rd"
                  exact ⟨S6, htp', _, _, rfl⟩
              · rintro σ H6 ⟨S6, htp', x14, x15, rfl⟩
                walk_at "rd"
                exact ⟨fun b u z => S6 _ _ (S5 _ _ (S4 _ _ z)), _, _, _, _, _, rfl⟩
            · rintro σ H5 ⟨S5, x11, x12, x13, x14, x15, rfl⟩
              have PR5 := PR.same S5
              have TM5 := S5 _ _ TM'
              have Tt5 := PR5.T
              have z0 : (bb % aa - bb % aa) % gd aa aa = 0 := by
                rw [Int.sub_self, Int.zero_emod]
              have gs : aa * (aa / gd aa aa) = aa := by
                rw [gd_self PR.l, Int.ediv_self (by have := PR.l; omega), Int.mul_one]
              walk_at "rd"
              refine ⟨rfl, ?_⟩
              walk_at "rd"
              refine Bar.rIxL_ (SqL.of TM5) ig ?_
              walk_at "rd"
              refine Bar.rIxL_ (SqL.of TM5) ig ?_
              walk_at "rd"
              refine ⟨g, g, aa, bb % aa, aa, bb % aa, rfl, PR5.G, PR5.G, PR.cs, PR.u, fun z => absurd z0 z, fun _ pa ta H6 S6 Ga ga0 ga1 ga2 ga3 => ?_⟩
              have TM6 := S6 _ _ TM5
              have Tt6 := S6 _ _ Tt5
              walk_at "rd"
              refine Bar.rIxL_ (SqL.of TM6) ig ?_
              walk_at "rd"
              refine mkG PR.l fun gn H7 hgn S7 Gn => ?_
              walk_at "rd"
              refine ⟨g, gn, aa, bb % aa, aa, bb % aa, rfl, (PR5.G.same S6).same S7, Gn, PR.cs, PR.u, fun z => absurd z0 z, fun _ rb pb tb H8 S8 hrb Gb gb0 gb1 gb2 gb3 => ?_⟩
              rw [gs] at Ga Gb ga1 gb1
              rw [Int.emod_eq_of_lt ga0 ga1] at ga2
              rw [Int.emod_eq_of_lt gb0 gb1] at gb2
              subst ga2 gb2
              have TM8 := S8 _ _ (S7 _ _ TM6)
              have Tt8 := S8 _ _ (S7 _ _ Tt6)
              walk_at "rd"
              refine Bar.rIxL_ (SqL.of TM8) ig ?_
              walk_at "rd"
              intro tp htp
              walk_at "rd"
              have S58 : Same H5 H8 := fun b u z => S8 _ _ (S7 _ _ (S6 _ _ z))
              refine Bar.forT (xs := [.ref pa, .ref pb, .ref g]) (fun _ σ H9 => Same H8 H9 ∧ H9 tp = some (.tup [.ref pa, .ref pb, .ref g]) ∧ ∃ x16 : Option V, σ = [some (.ref a), some (.ref b'), some (.ref R), some (.ref D), some (.int (gd a1 a2)), some (.int (a1 / gd a1 a2 * a2)), some (.bl (decide ((b1 - b2) % gd a1 a2 = 0))), some (.ref L), some (.int q), some (.ref t), some (.ref t'), x11, x12, x13, x14, x15, x16, none]) (SqT.of upd_same) ⟨fun _ _ z => Bar.lkNew htp z, upd_same, _, rfl⟩ (fun i σ H' _ ⟨_, e, _⟩ => SqT.of e) ?_ ?_
              · rintro j v σ H9 hv ⟨S9, htp', x16, rfl⟩
                obtain ⟨pp, rfl, Gx⟩ : ∃ pp, v = V.ref pp ∧ GridAt C H9 pp aa (bb % aa) := by
                  have hm := List.mem_of_getElem? hv
                  simp only [List.mem_cons, List.not_mem_nil, or_false] at hm
                  rcases hm with e | e | e
                  · exact ⟨pa, e, ((Ga.same S7).same S8).same S9⟩
                  · exact ⟨pb, e, Gb.same S9⟩
                  · exact ⟨g, e, (PR5.G.same S58).same S9⟩
                have Tt9 := S9 _ _ Tt8
                walk_at "rd"
                refine ⟨pp, aa, bb % aa, rfl, Gx, fun H10 S10 => ?_⟩
                walk_at "rd"
                exact ⟨fun b u z => S10 _ _ (S9 _ _ z), S10 _ _ htp', _, rfl⟩
              · rintro σ H9 ⟨S9, htp', x16, rfl⟩
                have TM9 := S9 _ _ TM8
                have Tt9' := S9 _ _ (S58 _ _ PR5.T')
                walk_at "rd"
                refine Bar.rIxL_ (SqL.of TM9) ig' ?_
                walk_at "rd"
                refine ⟨g', aa', bb' % aa', rfl, (PR5.G'.same S58).same S9, fun H10 S10 => ?_⟩
                walk_at "rd"
                exact ⟨fun b u z => S10 _ _ (S9 _ _ (S58 _ _ (S5 _ _ (S3 _ _ z)))), _, _, _, _, _, _, _, _, _, rfl⟩
        · rintro σ H3 ⟨S3, x8, x9, x10, x11, x12, x13, x14, x15, x16, rfl⟩
          walk_at "rd"
          exact k _
end
end Lw


namespace Lw
open PySem L2 Bar

abbrev lawLevel : Nat := 6
theorem all_mk {l : PySem.W.OpenLaw} {w : World} {K : PySem.W.Frag} {h : Heap} {mg : Str → Option Value} {fa f_law f_law_box f_law_draw f_law_size f_law_number f_law_step f_law_near C_Grid f_Grid___init__ dT8 f_law_int f_law_same f_law_holds f_Grid___contains__ f_Grid_tick_of f_inverse f_Grid_common p_Grid_common f_Grid___and__ C_BarclipsError C_Apart f_Apart___init__ C_OffGrid f_law_gcd f_law_two f_law_on f_law_and f_law_shared : Addr} (X : K.In h) (G : h.Ns mainGlobals mg) (hfa : mg "law" = some (.ref fa))
    {od1 an1 : Option Addr} {sl1 : Array (Option Value)} {oc1 kV1 dc1 pm1 cd1 ct1 : Value} {od2 an2 : Option Addr} {sl2 : Array (Option Value)} {oc2 kV2 dc2 pm2 cd2 ct2 : Value} {od3 an3 : Option Addr} {sl3 : Array (Option Value)} {oc3 kV3 dc3 pm3 cd3 ct3 : Value} {od4 an4 : Option Addr} {sl4 : Array (Option Value)} {oc4 kV4 dc4 pm4 cd4 ct4 : Value} {od5 an5 : Option Addr} {sl5 : Array (Option Value)} {oc5 kV5 dc5 pm5 cd5 ct5 : Value} {od6 an6 : Option Addr} {sl6 : Array (Option Value)} {oc6 kV6 dc6 pm6 cd6 ct6 : Value} {od7 an7 : Option Addr} {sl7 : Array (Option Value)} {oc7 kV7 dc7 pm7 cd7 ct7 : Value} {od8 an8 : Option Addr} {sl8 : Array (Option Value)} {oc8 kV8 dc8 pm8 cd8 ct8 : Value} {td8 : Option Addr} {ts8 : Array (Option Value)} {tc8 : Value} {tn8 : Nat} {tk8_0 : Tok} {od9 an9 : Option Addr} {sl9 : Array (Option Value)} {oc9 kV9 dc9 pm9 cd9 ct9 : Value} {od10 an10 : Option Addr} {sl10 : Array (Option Value)} {oc10 kV10 dc10 pm10 cd10 ct10 : Value} {od11 an11 : Option Addr} {sl11 : Array (Option Value)} {oc11 kV11 dc11 pm11 cd11 ct11 : Value} {od12 an12 : Option Addr} {sl12 : Array (Option Value)} {oc12 kV12 dc12 pm12 cd12 ct12 : Value} {od13 an13 : Option Addr} {sl13 : Array (Option Value)} {oc13 kV13 dc13 pm13 cd13 ct13 : Value} {od14 an14 : Option Addr} {sl14 : Array (Option Value)} {oc14 kV14 dc14 pm14 cd14 ct14 : Value} {od15 an15 : Option Addr} {sl15 : Array (Option Value)} {oc15 kV15 dc15 pm15 cd15 ct15 : Value} {rs15 : List Value} {od16 an16 : Option Addr} {sl16 : Array (Option Value)} {oc16 kV16 dc16 pm16 cd16 ct16 : Value} {xn17 xq17 : Str} {xN17 : Addr} {xb17 : List Value} {xs17 : List Str} {xu17 : List Value} {xa17 : Bool} {xc17 : Option Bool} {xd17 : Option Addr} {xk17a xk17b xk17c xk17d xk17e : Option Value} {od18 an18 : Option Addr} {sl18 : Array (Option Value)} {oc18 kV18 dc18 pm18 cd18 ct18 : Value} {xn19 xq19 : Str} {xN19 : Addr} {xb19 : List Value} {xs19 : List Str} {xu19 : List Value} {xa19 : Bool} {xc19 : Option Bool} {xd19 : Option Addr} {xk19a xk19b xk19c xk19d xk19e : Option Value} {od20 an20 : Option Addr} {sl20 : Array (Option Value)} {oc20 kV20 dc20 pm20 cd20 ct20 : Value} {od21 an21 : Option Addr} {sl21 : Array (Option Value)} {oc21 kV21 dc21 pm21 cd21 ct21 : Value} {od22 an22 : Option Addr} {sl22 : Array (Option Value)} {oc22 kV22 dc22 pm22 cd22 ct22 : Value} {od23 an23 : Option Addr} {sl23 : Array (Option Value)} {oc23 kV23 dc23 pm23 cd23 ct23 : Value} {od24 an24 : Option Addr} {sl24 : Array (Option Value)} {oc24 kV24 dc24 pm24 cd24 ct24 : Value}
    (a1 : PySem.W.nsIn K mainGlobals "law" = some (some (.ref f_law)))
    (l1 : K.lookup f_law = some ⟨oc1, od1, .func (PySem.W.fnOf "law" "law" (defArgs s_law) (defBody s_law) (defScope s_law) .none kV1 dc1 pm1 an1 cd1 ct1), sl1⟩)
    (c1 : PySem.W.codeIn K cd1 "law" = true)
    (k1 : PySem.W.keepIn K (.ref f_law) = true)
    (a2 : PySem.W.nsIn K mainGlobals "_law_box" = some (some (.ref f_law_box)))
    (l2 : K.lookup f_law_box = some ⟨oc2, od2, .func (PySem.W.fnOf "_law_box" "_law_box" (defArgs s_law_box) (defBody s_law_box) (defScope s_law_box) .none kV2 dc2 pm2 an2 cd2 ct2), sl2⟩)
    (c2 : PySem.W.codeIn K cd2 "_law_box" = true)
    (k2 : PySem.W.keepIn K (.ref f_law_box) = true)
    (a3 : PySem.W.nsIn K mainGlobals "_law_draw" = some (some (.ref f_law_draw)))
    (l3 : K.lookup f_law_draw = some ⟨oc3, od3, .func (PySem.W.fnOf "_law_draw" "_law_draw" (defArgs s_law_draw) (defBody s_law_draw) (defScope s_law_draw) .none kV3 dc3 pm3 an3 cd3 ct3), sl3⟩)
    (c3 : PySem.W.codeIn K cd3 "_law_draw" = true)
    (k3 : PySem.W.keepIn K (.ref f_law_draw) = true)
    (a4 : PySem.W.nsIn K mainGlobals "_law_size" = some (some (.ref f_law_size)))
    (l4 : K.lookup f_law_size = some ⟨oc4, od4, .func (PySem.W.fnOf "_law_size" "_law_size" (defArgs s_law_size) (defBody s_law_size) (defScope s_law_size) .none kV4 dc4 pm4 an4 cd4 ct4), sl4⟩)
    (c4 : PySem.W.codeIn K cd4 "_law_size" = true)
    (k4 : PySem.W.keepIn K (.ref f_law_size) = true)
    (a5 : PySem.W.nsIn K mainGlobals "_law_number" = some (some (.ref f_law_number)))
    (l5 : K.lookup f_law_number = some ⟨oc5, od5, .func (PySem.W.fnOf "_law_number" "_law_number" (defArgs s_law_number) (defBody s_law_number) (defScope s_law_number) .none kV5 dc5 pm5 an5 cd5 ct5), sl5⟩)
    (c5 : PySem.W.codeIn K cd5 "_law_number" = true)
    (k5 : PySem.W.keepIn K (.ref f_law_number) = true)
    (a6 : PySem.W.nsIn K mainGlobals "_law_step" = some (some (.ref f_law_step)))
    (l6 : K.lookup f_law_step = some ⟨oc6, od6, .func (PySem.W.fnOf "_law_step" "_law_step" (defArgs s_law_step) (defBody s_law_step) (defScope s_law_step) .none kV6 dc6 pm6 an6 cd6 ct6), sl6⟩)
    (c6 : PySem.W.codeIn K cd6 "_law_step" = true)
    (k6 : PySem.W.keepIn K (.ref f_law_step) = true)
    (a7 : PySem.W.nsIn K mainGlobals "_law_near" = some (some (.ref f_law_near)))
    (l7 : K.lookup f_law_near = some ⟨oc7, od7, .func (PySem.W.fnOf "_law_near" "_law_near" (defArgs s_law_near) (defBody s_law_near) (defScope s_law_near) .none kV7 dc7 pm7 an7 cd7 ct7), sl7⟩)
    (c7 : PySem.W.codeIn K cd7 "_law_near" = true)
    (k7 : PySem.W.keepIn K (.ref f_law_near) = true)
    (g_Grid : PySem.W.nsIn K mainGlobals "Grid" = some (some (.ref C_Grid)))
    (pg_Grid : PySem.W.plainGet K C_Grid Str.empty = true)
    (hd_Grid : PySem.W.hasDictIn K C_Grid = true)
    (po_Grid : PySem.W.plainOver K C_Grid = true)
    (sa_Grid : PySem.W.findIn K (.ref C_Grid) "__setattr__" = some (some (.builtin "object.__setattr__")))
    (mk_Grid : PySem.W.makesIn K C_Grid = true)
    (kp_Grid : PySem.W.keepIn K (.ref C_Grid) = true)
    (a8 : PySem.W.findIn K (.ref C_Grid) "__init__" = some (some (.ref f_Grid___init__)))
    (i8 : PySem.W.isFn K (.ref f_Grid___init__) = true)
    (l8 : K.lookup f_Grid___init__ = some ⟨oc8, od8, .func (PySem.W.fnOf "__init__" "Grid.__init__" (defArgs s_Grid___init__) (defBody s_Grid___init__) (defScope s_Grid___init__) (.ref dT8) kV8 dc8 pm8 an8 cd8 ct8), sl8⟩)
    (c8 : PySem.W.codeIn K cd8 "Grid.__init__" = true)
    (k8 : PySem.W.keepIn K (.ref f_Grid___init__) = true)
    (t8 : K.lookup dT8 = some ⟨tc8, td8, .seq (#[.int 0 tk8_0] : Array Value) tn8, ts8⟩)
    (no_Grid_step : PySem.W.findIn K (.ref C_Grid) "step" = some none)
    (no_Grid_offset : PySem.W.findIn K (.ref C_Grid) "offset" = some none)
    (z_len : PySem.W.nsIn K mainGlobals "len" = some none)
    (z_int : PySem.W.nsIn K mainGlobals "int" = some none)
    (z_abs : PySem.W.nsIn K mainGlobals "abs" = some none)
    (z_str : PySem.W.nsIn K mainGlobals "str" = some none)
    (z_range : PySem.W.nsIn K mainGlobals "range" = some none)
    (z_isinstance : PySem.W.nsIn K mainGlobals "isinstance" = some none)
    (z_bool : PySem.W.nsIn K mainGlobals "bool" = some none)
    (z_list : PySem.W.nsIn K mainGlobals "list" = some none)
    (z_tuple : PySem.W.nsIn K mainGlobals "tuple" = some none)
    (z_sum : PySem.W.nsIn K mainGlobals "sum" = some none)
    (z_min : PySem.W.nsIn K mainGlobals "min" = some none)
    (z_max : PySem.W.nsIn K mainGlobals "max" = some none)
    (z_any : PySem.W.nsIn K mainGlobals "any" = some none)
    (z_all : PySem.W.nsIn K mainGlobals "all" = some none)
    (z_sorted : PySem.W.nsIn K mainGlobals "sorted" = some none)
    (z_enumerate : PySem.W.nsIn K mainGlobals "enumerate" = some none)
    (z_ValueError : PySem.W.nsIn K mainGlobals "ValueError" = some none)
    (a9 : PySem.W.nsIn K mainGlobals "_law_int" = some (some (.ref f_law_int)))
    (l9 : K.lookup f_law_int = some ⟨oc9, od9, .func (PySem.W.fnOf "_law_int" "_law_int" (defArgs s_law_int) (defBody s_law_int) (defScope s_law_int) .none kV9 dc9 pm9 an9 cd9 ct9), sl9⟩)
    (c9 : PySem.W.codeIn K cd9 "_law_int" = true)
    (k9 : PySem.W.keepIn K (.ref f_law_int) = true)
    (a10 : PySem.W.nsIn K mainGlobals "_law_same" = some (some (.ref f_law_same)))
    (l10 : K.lookup f_law_same = some ⟨oc10, od10, .func (PySem.W.fnOf "_law_same" "_law_same" (defArgs s_law_same) (defBody s_law_same) (defScope s_law_same) .none kV10 dc10 pm10 an10 cd10 ct10), sl10⟩)
    (c10 : PySem.W.codeIn K cd10 "_law_same" = true)
    (k10 : PySem.W.keepIn K (.ref f_law_same) = true)
    (a11 : PySem.W.nsIn K mainGlobals "_law_holds" = some (some (.ref f_law_holds)))
    (l11 : K.lookup f_law_holds = some ⟨oc11, od11, .func (PySem.W.fnOf "_law_holds" "_law_holds" (defArgs s_law_holds) (defBody s_law_holds) (defScope s_law_holds) .none kV11 dc11 pm11 an11 cd11 ct11), sl11⟩)
    (c11 : PySem.W.codeIn K cd11 "_law_holds" = true)
    (k11 : PySem.W.keepIn K (.ref f_law_holds) = true)
    (i_ha : PySem.W.findIn K (.ref C_Grid) "__class__" = some (some (.builtin "object.__class__")))
    (i_hn : PySem.W.specialIn K (.builtin "object.__class__") "__get__" = some (some (.builtin "getset_descriptor.__get__")))
    (i_htk : PySem.W.takesIn K (.builtin "object.__class__") = some true)
    (i_hm : PySem.W.mroIn K C_Grid (.type "object") = some true)
    (a12 : PySem.W.findIn K (.ref C_Grid) "__contains__" = some (some (.ref f_Grid___contains__)))
    (i12 : PySem.W.isFn K (.ref f_Grid___contains__) = true)
    (l12 : K.lookup f_Grid___contains__ = some ⟨oc12, od12, .func (PySem.W.fnOf "__contains__" "Grid.__contains__" (defArgs s_Grid___contains__) (defBody s_Grid___contains__) (defScope s_Grid___contains__) .none kV12 dc12 pm12 an12 cd12 ct12), sl12⟩)
    (c12 : PySem.W.codeIn K cd12 "Grid.__contains__" = true)
    (k12 : PySem.W.keepIn K (.ref f_Grid___contains__) = true)
    (a13 : PySem.W.findIn K (.ref C_Grid) "tick_of" = some (some (.ref f_Grid_tick_of)))
    (i13 : PySem.W.isFn K (.ref f_Grid_tick_of) = true)
    (l13 : K.lookup f_Grid_tick_of = some ⟨oc13, od13, .func (PySem.W.fnOf "tick_of" "Grid.tick_of" (defArgs s_Grid_tick_of) (defBody s_Grid_tick_of) (defScope s_Grid_tick_of) .none kV13 dc13 pm13 an13 cd13 ct13), sl13⟩)
    (c13 : PySem.W.codeIn K cd13 "Grid.tick_of" = true)
    (k13 : PySem.W.keepIn K (.ref f_Grid_tick_of) = true)
    (rd_Grid : PySem.W.readsIn K C_Grid (.type "type") = true)
    (sg_Grid : PySem.W.specialIn K (.ref C_Grid) "__getattribute__" = some (some (.builtin "type.__getattribute__")))
    (gm_gcd : PySem.W.nsIn K mainGlobals "gcd" = some (some (.builtin "math.gcd")))
    (a14 : PySem.W.nsIn K mainGlobals "inverse" = some (some (.ref f_inverse)))
    (l14 : K.lookup f_inverse = some ⟨oc14, od14, .func (PySem.W.fnOf "inverse" "inverse" (defArgs s_inverse) (defBody s_inverse) (defScope s_inverse) .none kV14 dc14 pm14 an14 cd14 ct14), sl14⟩)
    (c14 : PySem.W.codeIn K cd14 "inverse" = true)
    (k14 : PySem.W.keepIn K (.ref f_inverse) = true)
    (a15 : PySem.W.findCls K (.ref C_Grid) (.type "type") "common" = some (.get (.builtin "staticmethod.__get__") (.ref p_Grid_common) .none (.ref C_Grid)))
    (b15 : PySem.W.recIn K p_Grid_common "staticmethod" = some (.ref f_Grid_common :: rs15))
    (l15 : K.lookup f_Grid_common = some ⟨oc15, od15, .func (PySem.W.fnOf "common" "Grid.common" (defArgs s_Grid_common) (defBody s_Grid_common) (defScope s_Grid_common) .none kV15 dc15 pm15 an15 cd15 ct15), sl15⟩)
    (c15 : PySem.W.codeIn K cd15 "Grid.common" = true)
    (k15 : PySem.W.keepIn K (.ref f_Grid_common) = true)
    (sf16 : PySem.W.selfFirst K C_Grid = true)
    (a16 : PySem.W.findIn K (.ref C_Grid) (PySem.dunder (Operator.info .BitAnd).2) = some (some (.ref f_Grid___and__)))
    (i16 : PySem.W.isFn K (.ref f_Grid___and__) = true)
    (l16 : K.lookup f_Grid___and__ = some ⟨oc16, od16, .func (PySem.W.fnOf "__and__" "Grid.__and__" (defArgs s_Grid___and__) (defBody s_Grid___and__) (defScope s_Grid___and__) .none kV16 dc16 pm16 an16 cd16 ct16), sl16⟩)
    (c16 : PySem.W.codeIn K cd16 "Grid.__and__" = true)
    (k16 : PySem.W.keepIn K (.ref f_Grid___and__) = true)
    (g_BarclipsError : PySem.W.nsIn K mainGlobals "BarclipsError" = some (some (.ref C_BarclipsError)))
    (rd_BarclipsError : PySem.W.readsIn K C_BarclipsError (.type "type") = true)
    (sg_BarclipsError : PySem.W.specialIn K (.ref C_BarclipsError) "__getattribute__" = some (some (.builtin "type.__getattribute__")))
    (vi_BarclipsError : PySem.W.findCls K (.ref C_BarclipsError) (.type "type") "__init__" = some (.val (.builtin "ValueError.__init__")))
    (ic_BarclipsError : PySem.W.isClsIn K C_BarclipsError = true)
    (ty_BarclipsError : PySem.W.typeIn K (.ref C_BarclipsError) = some (.type "type"))
    (e_hn : PySem.W.specialIn K (.builtin "object.__class__") "__get__" = some (some (.builtin "getset_descriptor.__get__")))
    (e_tk : PySem.W.takesIn K (.builtin "object.__class__") = some true)
    (g_Apart : PySem.W.nsIn K mainGlobals "Apart" = some (some (.ref C_Apart)))
    (lk_Apart : K.lookup C_Apart = some (excClassObj xn17 xq17 C_Apart xN17 xb17 [.ref C_BarclipsError, .type "ValueError", .type "Exception", .type "BaseException", .type "object"] true xs17 xu17 xa17 xc17 xd17 xk17a xk17b xk17c xk17d xk17e "ValueError.__new__"))
    (sa_Apart : PySem.W.findIn K (.ref C_Apart) "__setattr__" = some (some (.builtin "object.__setattr__")))
    (xb_Apart : PySem.W.subIn K (.ref C_Apart) (.type "BaseException") = some true)
    (ty_Apart : PySem.W.typeIn K (.ref C_Apart) = some (.type "type"))
    (kp_Apart : PySem.W.keepIn K (.ref C_Apart) = true)
    (ga_Apart : PySem.W.findIn K (.ref C_Apart) "__getattribute__" = some (some (.builtin "BaseException.__getattribute__")))
    (gg_Apart : PySem.W.findIn K (.ref C_Apart) "__getattr__" = some none)
    (hd_Apart : PySem.W.hasDictIn K C_Apart = true)
    (ic_Apart : PySem.W.isClsIn K C_Apart = true)
    (ac_Apart : PySem.W.findIn K (.ref C_Apart) "__class__" = some (some (.builtin "object.__class__")))
    (mo_Apart : PySem.W.mroIn K C_Apart (.type "object") = some true)
    (ss_Apart : PySem.W.subIn K (.ref C_Apart) (.ref C_Apart) = some true)
    (a18 : PySem.W.findIn K (.ref C_Apart) "__init__" = some (some (.ref f_Apart___init__)))
    (t18 : PySem.W.typeIn K (.ref f_Apart___init__) = some (.type "function"))
    (l18 : K.lookup f_Apart___init__ = some ⟨oc18, od18, .func (PySem.W.fnOf "__init__" "Apart.__init__" (defArgs s_Apart___init__) (defBody s_Apart___init__) (defScope s_Apart___init__) .none kV18 dc18 pm18 an18 cd18 ct18), sl18⟩)
    (c18 : PySem.W.codeIn K cd18 "Apart.__init__" = true)
    (k18 : PySem.W.keepIn K (.ref f_Apart___init__) = true)
    (no_Apart_first : PySem.W.findIn K (.ref C_Apart) "first" = some none)
    (no_Apart_second : PySem.W.findIn K (.ref C_Apart) "second" = some none)
    (g_OffGrid : PySem.W.nsIn K mainGlobals "OffGrid" = some (some (.ref C_OffGrid)))
    (lk_OffGrid : K.lookup C_OffGrid = some (excClassObj xn19 xq19 C_OffGrid xN19 xb19 [.ref C_BarclipsError, .type "ValueError", .type "Exception", .type "BaseException", .type "object"] true xs19 xu19 xa19 xc19 xd19 xk19a xk19b xk19c xk19d xk19e "ValueError.__new__"))
    (sa_OffGrid : PySem.W.findIn K (.ref C_OffGrid) "__setattr__" = some (some (.builtin "object.__setattr__")))
    (xb_OffGrid : PySem.W.subIn K (.ref C_OffGrid) (.type "BaseException") = some true)
    (ty_OffGrid : PySem.W.typeIn K (.ref C_OffGrid) = some (.type "type"))
    (kp_OffGrid : PySem.W.keepIn K (.ref C_OffGrid) = true)
    (ga_OffGrid : PySem.W.findIn K (.ref C_OffGrid) "__getattribute__" = some (some (.builtin "BaseException.__getattribute__")))
    (gg_OffGrid : PySem.W.findIn K (.ref C_OffGrid) "__getattr__" = some none)
    (hd_OffGrid : PySem.W.hasDictIn K C_OffGrid = true)
    (ic_OffGrid : PySem.W.isClsIn K C_OffGrid = true)
    (ac_OffGrid : PySem.W.findIn K (.ref C_OffGrid) "__class__" = some (some (.builtin "object.__class__")))
    (mo_OffGrid : PySem.W.mroIn K C_OffGrid (.type "object") = some true)
    (ss_OffGrid : PySem.W.subIn K (.ref C_OffGrid) (.ref C_OffGrid) = some true)
    (sb_Apart_BarclipsError : PySem.W.subIn K (.ref C_Apart) (.ref C_BarclipsError) = some true)
    (sb_Apart_ValueError : PySem.W.subIn K (.ref C_Apart) (.type "ValueError") = some true)
    (sb_Apart_OffGrid : PySem.W.subIn K (.ref C_Apart) (.ref C_OffGrid) = some false)
    (a20 : PySem.W.nsIn K mainGlobals "_law_gcd" = some (some (.ref f_law_gcd)))
    (l20 : K.lookup f_law_gcd = some ⟨oc20, od20, .func (PySem.W.fnOf "_law_gcd" "_law_gcd" (defArgs s_law_gcd) (defBody s_law_gcd) (defScope s_law_gcd) .none kV20 dc20 pm20 an20 cd20 ct20), sl20⟩)
    (c20 : PySem.W.codeIn K cd20 "_law_gcd" = true)
    (k20 : PySem.W.keepIn K (.ref f_law_gcd) = true)
    (a21 : PySem.W.nsIn K mainGlobals "_law_two" = some (some (.ref f_law_two)))
    (l21 : K.lookup f_law_two = some ⟨oc21, od21, .func (PySem.W.fnOf "_law_two" "_law_two" (defArgs s_law_two) (defBody s_law_two) (defScope s_law_two) .none kV21 dc21 pm21 an21 cd21 ct21), sl21⟩)
    (c21 : PySem.W.codeIn K cd21 "_law_two" = true)
    (k21 : PySem.W.keepIn K (.ref f_law_two) = true)
    (a22 : PySem.W.nsIn K mainGlobals "_law_on" = some (some (.ref f_law_on)))
    (l22 : K.lookup f_law_on = some ⟨oc22, od22, .func (PySem.W.fnOf "_law_on" "_law_on" (defArgs s_law_on) (defBody s_law_on) (defScope s_law_on) .none kV22 dc22 pm22 an22 cd22 ct22), sl22⟩)
    (c22 : PySem.W.codeIn K cd22 "_law_on" = true)
    (k22 : PySem.W.keepIn K (.ref f_law_on) = true)
    (a23 : PySem.W.nsIn K mainGlobals "_law_and" = some (some (.ref f_law_and)))
    (l23 : K.lookup f_law_and = some ⟨oc23, od23, .func (PySem.W.fnOf "_law_and" "_law_and" (defArgs s_law_and) (defBody s_law_and) (defScope s_law_and) .none kV23 dc23 pm23 an23 cd23 ct23), sl23⟩)
    (c23 : PySem.W.codeIn K cd23 "_law_and" = true)
    (k23 : PySem.W.keepIn K (.ref f_law_and) = true)
    (a24 : PySem.W.nsIn K mainGlobals "_law_shared" = some (some (.ref f_law_shared)))
    (l24 : K.lookup f_law_shared = some ⟨oc24, od24, .func (PySem.W.fnOf "_law_shared" "_law_shared" (defArgs s_law_shared) (defBody s_law_shared) (defScope s_law_shared) .none kV24 dc24 pm24 an24 cd24 ct24), sl24⟩)
    (c24 : PySem.W.codeIn K cd24 "_law_shared" = true)
    (k24 : PySem.W.keepIn K (.ref f_law_shared) = true) :
    ∃ fd : FuncData, (∀ (s : Shared) (v : Value), BindsTo s fd ⟨[v], []⟩ [("_law_script", v)]) ∧ ∀ base : Heap, K.In base → base.Ns mainGlobals mg → FnOk l.prog w K mg base CX0 lawLevel fa fd ["_law_script"] (spLaw K) := by
  have F_law := fun_mk (st := s_law) l1 c1 k1
  have g_law := PySem.W.mg_of X G a1
  have kp_law := k1
  have F_law_box := fun_mk (st := s_law_box) l2 c2 k2
  have b_law_box := F_law_box.binds (ps := P_law_box) fun _ _ _ _ _ _ us hl => match us, hl with | [_, _], _ => rfl
  have g_law_box := PySem.W.mg_of X G a2
  have kp_law_box := k2
  have F_law_draw := fun_mk (st := s_law_draw) l3 c3 k3
  have b_law_draw := F_law_draw.binds (ps := P_law_draw) fun _ _ _ _ _ _ us hl => match us, hl with | [_, _], _ => rfl
  have g_law_draw := PySem.W.mg_of X G a3
  have kp_law_draw := k3
  have F_law_size := fun_mk (st := s_law_size) l4 c4 k4
  have b_law_size := F_law_size.binds (ps := P_law_size) fun _ _ _ _ _ _ us hl => match us, hl with | [_], _ => rfl
  have g_law_size := PySem.W.mg_of X G a4
  have kp_law_size := k4
  have F_law_number := fun_mk (st := s_law_number) l5 c5 k5
  have b_law_number := F_law_number.binds (ps := P_law_number) fun _ _ _ _ _ _ us hl => match us, hl with | [_], _ => rfl
  have g_law_number := PySem.W.mg_of X G a5
  have kp_law_number := k5
  have F_law_step := fun_mk (st := s_law_step) l6 c6 k6
  have b_law_step := F_law_step.binds (ps := P_law_step) fun _ _ _ _ _ _ us hl => match us, hl with | [_], _ => rfl
  have g_law_step := PySem.W.mg_of X G a6
  have kp_law_step := k6
  have F_law_near := fun_mk (st := s_law_near) l7 c7 k7
  have b_law_near := F_law_near.binds (ps := P_law_near) fun _ _ _ _ _ _ us hl => match us, hl with | [_, _], _ => rfl
  have g_law_near := PySem.W.mg_of X G a7
  have kp_law_near := k7
  have cl_Grid : Cls K C_Grid := ⟨pg_Grid, hd_Grid, po_Grid, sa_Grid⟩
  have mg_Grid := PySem.W.mg_of X G g_Grid
  have F_Grid___init__ : FunD K "__init__" "Grid.__init__" (defArgs s_Grid___init__) (defBody s_Grid___init__) (defScope s_Grid___init__) [.int 0] [] f_Grid___init__ _ := ⟨⟨_, _, _, _, _, _, _, _, _, _, rfl, l8, c8, Or.inr ⟨by simp, _, _, _, _, rfl, t8, rfl, .cons ⟨_, rfl⟩ (.nil)⟩, Or.inl rfl⟩, k8⟩
  obtain ⟨ds_Grid___init___1, dr_Grid___init___1, b_Grid___init___1⟩ := F_Grid___init__.binds1 (ps := P_Grid___init__) 2 0 (by simp) rfl (fun T kV doc pm an cdv ct us its h1 h2 => match us, its, h1, h2 with | [_, _], [_], _, _ => ⟨_, rfl, rfl⟩)
  obtain ⟨ds_Grid___init___2, dr_Grid___init___2, b_Grid___init___2⟩ := F_Grid___init__.binds1 (ps := P_Grid___init__) 3 1 (by simp) rfl (fun T kV doc pm an cdv ct us its h1 h2 => match us, its, h1, h2 with | [_, _, _], [_], _, _ => ⟨_, rfl, rfl⟩)
  have mk_Grid___init__ : Mk K C_Grid f_Grid___init__ := ⟨mk_Grid, a8, i8, kp_Grid⟩
  have kp_Grid___init__ := k8
  have b_len := PySem.W.mg_none_of X G z_len
  have b_int := PySem.W.mg_none_of X G z_int
  have b_abs := PySem.W.mg_none_of X G z_abs
  have b_str := PySem.W.mg_none_of X G z_str
  have b_range := PySem.W.mg_none_of X G z_range
  have b_isinstance := PySem.W.mg_none_of X G z_isinstance
  have b_bool := PySem.W.mg_none_of X G z_bool
  have b_list := PySem.W.mg_none_of X G z_list
  have b_tuple := PySem.W.mg_none_of X G z_tuple
  have b_sum := PySem.W.mg_none_of X G z_sum
  have b_min := PySem.W.mg_none_of X G z_min
  have b_max := PySem.W.mg_none_of X G z_max
  have b_any := PySem.W.mg_none_of X G z_any
  have b_all := PySem.W.mg_none_of X G z_all
  have b_sorted := PySem.W.mg_none_of X G z_sorted
  have b_enumerate := PySem.W.mg_none_of X G z_enumerate
  have b_ValueError := PySem.W.mg_none_of X G z_ValueError
  have F_law_int := fun_mk (st := s_law_int) l9 c9 k9
  have b_law_int := F_law_int.binds (ps := P_law_int) fun _ _ _ _ _ _ us hl => match us, hl with | [_], _ => rfl
  have g_law_int := PySem.W.mg_of X G a9
  have kp_law_int := k9
  have F_law_same := fun_mk (st := s_law_same) l10 c10 k10
  have b_law_same := F_law_same.binds (ps := P_law_same) fun _ _ _ _ _ _ us hl => match us, hl with | [_, _], _ => rfl
  have g_law_same := PySem.W.mg_of X G a10
  have kp_law_same := k10
  have F_law_holds := fun_mk (st := s_law_holds) l11 c11 k11
  have b_law_holds := F_law_holds.binds (ps := P_law_holds) fun _ _ _ _ _ _ us hl => match us, hl with | [_, _, _], _ => rfl
  have g_law_holds := PySem.W.mg_of X G a11
  have kp_law_holds := k11
  have F_Grid___contains__ := fun_mk (st := s_Grid___contains__) l12 c12 k12
  have b_Grid___contains__ := F_Grid___contains__.binds (ps := P_Grid___contains__) fun _ _ _ _ _ _ us hl => match us, hl with | [_, _], _ => rfl
  have g_Grid___contains__ := (⟨a12, i12, k12⟩ : Meth K C_Grid "__contains__" f_Grid___contains__)
  have o_Grid___contains__ : Own K C_Grid "__contains__" f_Grid___contains__ := ⟨a12, i12⟩
  have kp_Grid___contains__ := k12
  have F_Grid_tick_of := fun_mk (st := s_Grid_tick_of) l13 c13 k13
  have b_Grid_tick_of := F_Grid_tick_of.binds (ps := P_Grid_tick_of) fun _ _ _ _ _ _ us hl => match us, hl with | [_, _], _ => rfl
  have g_Grid_tick_of := (⟨a13, i13, k13⟩ : Meth K C_Grid "tick_of" f_Grid_tick_of)
  have o_Grid_tick_of : Own K C_Grid "tick_of" f_Grid_tick_of := ⟨a13, i13⟩
  have kp_Grid_tick_of := k13
  have cr_Grid : ClX.CRead K C_Grid (.type "type") := ⟨rd_Grid, sg_Grid⟩
  have g_gcd := PySem.W.mg_of X G gm_gcd
  have F_inverse := fun_mk (st := s_inverse) l14 c14 k14
  have b_inverse := F_inverse.binds (ps := P_inverse) fun _ _ _ _ _ _ us hl => match us, hl with | [_, _], _ => rfl
  have g_inverse := PySem.W.mg_of X G a14
  have kp_inverse := k14
  have F_Grid_common := fun_mk (st := s_Grid_common) l15 c15 k15
  have b_Grid_common := F_Grid_common.binds (ps := P_Grid_common) fun _ _ _ _ _ _ us hl => match us, hl with | [_, _], _ => rfl
  have fc_Grid_common := a15
  have rc_Grid_common := b15
  have kp_Grid_common := k15
  have F_Grid___and__ := fun_mk (st := s_Grid___and__) l16 c16 k16
  have b_Grid___and__ := F_Grid___and__.binds (ps := P_Grid___and__) fun _ _ _ _ _ _ us hl => match us, hl with | [_, _], _ => rfl
  have o_Grid___and__ : OwnS K C_Grid .BitAnd f_Grid___and__ := ⟨sf16, a16, i16⟩
  have eb : EBase K mg "BarclipsError" C_BarclipsError := ⟨PySem.W.mg_of X G g_BarclipsError, ⟨rd_BarclipsError, sg_BarclipsError⟩, vi_BarclipsError⟩
  have mg_BarclipsError := PySem.W.mg_of X G g_BarclipsError
  have mg_Apart := PySem.W.mg_of X G g_Apart
  have oc_Apart : OexC K C_Apart := ⟨⟨_, _, _, _, _, _, _, _, _, _, _, _, _, _, _, lk_Apart, by first | rfl | decide⟩, sa_Apart, xb_Apart, ty_Apart, kp_Apart⟩
  have ee_Apart : ETxt K mg "Apart" C_Apart := ⟨mg_Apart, oc_Apart, ⟨⟨ga_Apart, gg_Apart, xb_Apart, hd_Apart⟩, ic_Apart, ac_Apart, e_hn, e_tk, mo_Apart⟩, exm_own xb_Apart ic_Apart ty_Apart ss_Apart⟩
  have F_Apart___init__ := fun_mk (st := s_Apart___init__) l18 c18 k18
  have b_Apart___init__ := F_Apart___init__.binds (ps := P_Apart___init__) fun _ _ _ _ _ _ us hl => match us, hl with | [_, _, _], _ => rfl
  have gi_Apart___init__ := a18
  have ti_Apart___init__ := t18
  have mg_OffGrid := PySem.W.mg_of X G g_OffGrid
  have oc_OffGrid : OexC K C_OffGrid := ⟨⟨_, _, _, _, _, _, _, _, _, _, _, _, _, _, _, lk_OffGrid, by first | rfl | decide⟩, sa_OffGrid, xb_OffGrid, ty_OffGrid, kp_OffGrid⟩
  have ee_OffGrid : ETxt K mg "OffGrid" C_OffGrid := ⟨mg_OffGrid, oc_OffGrid, ⟨⟨ga_OffGrid, gg_OffGrid, xb_OffGrid, hd_OffGrid⟩, ic_OffGrid, ac_OffGrid, e_hn, e_tk, mo_OffGrid⟩, exm_own xb_OffGrid ic_OffGrid ty_OffGrid ss_OffGrid⟩
  have ki_Apart_BarclipsError := kit_xC ic_BarclipsError ty_BarclipsError sb_Apart_BarclipsError (fun _ => rfl)
  have ki_Apart_ValueError := kit_xT (C := C_Apart) sb_Apart_ValueError
  have ki_Apart_OffGrid := kit_xC ic_OffGrid ty_OffGrid sb_Apart_OffGrid (fun e => by rw [e, ss_OffGrid] at sb_Apart_OffGrid; cases sb_Apart_OffGrid)
  have F_law_gcd := fun_mk (st := s_law_gcd) l20 c20 k20
  have b_law_gcd := F_law_gcd.binds (ps := P_law_gcd) fun _ _ _ _ _ _ us hl => match us, hl with | [_, _], _ => rfl
  have g_law_gcd := PySem.W.mg_of X G a20
  have kp_law_gcd := k20
  have F_law_two := fun_mk (st := s_law_two) l21 c21 k21
  have b_law_two := F_law_two.binds (ps := P_law_two) fun _ _ _ _ _ _ us hl => match us, hl with | [_], _ => rfl
  have g_law_two := PySem.W.mg_of X G a21
  have kp_law_two := k21
  have F_law_on := fun_mk (st := s_law_on) l22 c22 k22
  have b_law_on := F_law_on.binds (ps := P_law_on) fun _ _ _ _ _ _ us hl => match us, hl with | [_, _], _ => rfl
  have g_law_on := PySem.W.mg_of X G a22
  have kp_law_on := k22
  have F_law_and := fun_mk (st := s_law_and) l23 c23 k23
  have b_law_and := F_law_and.binds (ps := P_law_and) fun _ _ _ _ _ _ us hl => match us, hl with | [_, _], _ => rfl
  have g_law_and := PySem.W.mg_of X G a23
  have kp_law_and := k23
  have F_law_shared := fun_mk (st := s_law_shared) l24 c24 k24
  have b_law_shared := F_law_shared.binds (ps := P_law_shared) fun _ _ _ _ _ _ us hl => match us, hl with | [_, _, _, _], _ => rfl
  have g_law_shared := PySem.W.mg_of X G a24
  have kp_law_shared := k24
  cases hfa.symm.trans g_law
  have T : Txt mg := ⟨b_len, b_int, b_abs, b_str, b_range, b_isinstance, b_bool, b_list, b_tuple, b_sum, b_min, b_max, b_any, b_all, b_sorted, b_enumerate⟩
  have GT : GTxt K C_Grid := ⟨cl_Grid, no_Grid_step, no_Grid_offset⟩
  refine ⟨PySem.W.fnOf "law" "law" (defArgs s_law) (defBody s_law) (defScope s_law) .none kV1 dc1 pm1 an1 cd1 ct1, fun s v => .of_eq rfl, fun base _ _ => ?_⟩
  have fDraw : Fn l.prog w K mg base "_law_draw" P_law_draw [] 1 spDraw := ⟨_, _, _, g_law_draw, kp_law_draw, b_law_draw, .nil, ok_draw F_law_draw T⟩
  have fBox : Fn l.prog w K mg base "_law_box" P_law_box [] 1 (spBox K) := ⟨_, _, _, g_law_box, kp_law_box, b_law_box, .nil, ok_box F_law_box T⟩
  have fSize : Fn l.prog w K mg base "_law_size" P_law_size [] 2 spSize := ⟨_, _, _, g_law_size, kp_law_size, b_law_size, .nil, ok_size F_law_size T fDraw⟩
  have fNum : Fn l.prog w K mg base "_law_number" P_law_number [] 3 spNum := ⟨_, _, _, g_law_number, kp_law_number, b_law_number, .nil, ok_number F_law_number T fDraw fSize⟩
  have fStep : Fn l.prog w K mg base "_law_step" P_law_step [] 3 spStep := ⟨_, _, _, g_law_step, kp_law_step, b_law_step, .nil, ok_step F_law_step T fDraw fSize⟩
  have fNear : Fn l.prog w K mg base "_law_near" P_law_near [] 4 (spNear K) := ⟨_, _, _, g_law_near, kp_law_near, b_law_near, .nil, ok_near F_law_near T fDraw fNum⟩
  have mk2 : Made l.prog w K mg base "Grid" C_Grid P_Grid___init__ [] 1 (spInit C_Grid) := ⟨_, _, _, mg_Grid, mk_Grid___init__, b_Grid___init___2, dr_Grid___init___2, ok_init F_Grid___init__ GT⟩
  have mk1 : Made l.prog w K mg base "Grid" C_Grid P_Grid___init__ [.int 0] 1 (spInit C_Grid) := ⟨_, _, _, mg_Grid, mk_Grid___init__, b_Grid___init___1, dr_Grid___init___1, ok_init F_Grid___init__ GT⟩

  have fInt : Fn l.prog w K mg base "_law_int" P_law_int [] 1 spInt := ⟨_, _, _, g_law_int, kp_law_int, b_law_int, .nil, ok_int F_law_int T⟩
  have fSame := fn_same (P := l.prog) (w := w) (base := base) F_law_same T g_law_same b_law_same fInt
  have gi : GIsi K mg C_Grid := ⟨mg_Grid, cl_Grid, i_ha, i_hn, i_htk, i_hm⟩
  have fHolds : Fn l.prog w K mg base "_law_holds" P_law_holds [] 4 (spHolds C_Grid) := ⟨_, _, _, g_law_holds, kp_law_holds, b_law_holds, .nil, ok_holds F_law_holds T GT gi (fSame 2)⟩
  have oIn : Opr l.prog w K mg base C_Grid "__contains__" P_Grid___contains__ 1 (spIn C_Grid) := ⟨_, _, o_Grid___contains__, b_Grid___contains__, ok_in F_Grid___contains__ GT⟩
  have mT : Mth l.prog w K mg base C_Grid "tick_of" P_Grid_tick_of [] 1 (spTick C_Grid) := ⟨cl_Grid, _, _, _, g_Grid_tick_of, b_Grid_tick_of, .nil, ok_tick_of F_Grid_tick_of GT⟩
  have fInv : Fn l.prog w K mg base "inverse" P_inverse [] 1 spInv := ⟨_, _, _, g_inverse, kp_inverse, b_inverse, .nil, ok_inverse F_inverse T⟩
  have sC : SMth l.prog w K mg base C_Grid "common" P_Grid_common 3 (spCommon C_Grid) := ⟨cr_Grid, _, _, _, _, fc_Grid_common, rc_Grid_common, kp_Grid_common, b_Grid_common, ok_common F_Grid_common T GT g_gcd fInv mk2 mT⟩
  have er : Err l.prog w K mg base "Apart" C_Apart P_Apart___init__ 1 (spErr2 C_Apart "first" "second" (fun _ _ => True)) := ⟨_, _, mg_Apart, oc_Apart, gi_Apart___init__, ti_Apart___init__, b_Apart___init__, ok_eApart F_Apart___init__ eb oc_Apart no_Apart_first no_Apart_second⟩
  have oA : OprSX l.prog w K mg base C_Grid .BitAnd P_Grid___and__ 4 (spAndX C_Grid C_Apart) := ⟨_, _, o_Grid___and__, b_Grid___and__, ok_andX F_Grid___and__ T mg_Grid sC er⟩
  have fAnd : Fn l.prog w K mg base "_law_and" P_law_and [] 5 (spAnd C_Grid) := ⟨_, _, _, g_law_and, kp_law_and, b_law_and, .nil, ok_and F_law_and T oA ee_Apart eb ee_OffGrid no_Apart_first no_Apart_second b_ValueError ki_Apart_BarclipsError ki_Apart_ValueError ki_Apart_OffGrid⟩
  have fGcd : Fn l.prog w K mg base "_law_gcd" P_law_gcd [] 1 spGcd := ⟨_, _, _, g_law_gcd, kp_law_gcd, b_law_gcd, .nil, ok_gcd F_law_gcd T⟩
  have fTwo : Fn l.prog w K mg base "_law_two" P_law_two [] 4 spTwo := ⟨_, _, _, g_law_two, kp_law_two, b_law_two, .nil, ok_two F_law_two T (drawA fDraw) fStep fNum⟩
  have fOn : Fn l.prog w K mg base "_law_on" P_law_on [] 1 (spOn K) := ⟨_, _, _, g_law_on, kp_law_on, b_law_on, .nil, ok_on F_law_on T⟩
  have fSh : Fn l.prog w K mg base "_law_shared" P_law_shared [] 3 (spShared K C_Grid) := ⟨_, _, _, g_law_shared, kp_law_shared, b_law_shared, .nil, ok_shared F_law_shared T GT gi oIn (fSame 1) fInt fOn⟩
  exact ok_law F_law T GT mg_Grid fBox fTwo fNear mk2 sC oIn (fSame 2) fHolds fGcd fOn fAnd fSh
theorem walk {l : PySem.W.OpenLaw} {q : Program} {loose : List Str} {XP : (Str → Option Value) → Heap → Prop} {YP : World → Heap → Prop} {d : DefRec} {K : Params → PySem.W.Frag} (hn : l.most = some 63) (hdf : d.params.defaults = [])
    (hY : ∀ (w : World) (h : Heap), YP w h → (K w.params).In h)
    (F : ∀ (w : World) (mg : Str → Option Value) (fa : Addr) (h : Heap), (K w.params).In h → h.Ns mainGlobals mg → mg d.name = some (.ref fa) →
      ∃ fd : FuncData, (∀ (s : Shared) (u : Value), BindsTo s fd ⟨[u], []⟩ [("_law_script", u)]) ∧ ∀ base : Heap, (K w.params).In base → base.Ns mainGlobals mg → FnOk l.prog w (K w.params) mg base CX0 lawLevel fa fd ["_law_script"] (spLaw (K w.params))) :
    PySem.W.WalkO q loose XP YP l.row.toRowW d [] (fun f vs => PySem.call f vs) :=
  L2.walk_of (n := 63) (k := lawLevel) (x := "_law_script") (CX := fun _ => CX0) (sp := fun w => spLaw (K w.params)) hn (by decide) hdf ⟨rfl, by decide, by decide⟩ hY F (fun _ _ a ns hl _ hS => ⟨a, ns, rfl, hS, hl, fun _ => rfl⟩) fun _ _ _ _ _ z => z
end Lw

open PySem PySem.W PyProof.Rows in
set_option maxRecDepth 100000 in
set_option maxHeartbeats 0 in
theorem PySem.Challenge.cw_barclips_k08_common_ticks_holds : PySem.Challenge.rw_barclips_k08_common_ticks.Holds := by
  w_on; o_law; k_head; (case hw => w_witness2)
  k_fill
  refine Lw.walk (l := PySem.Challenge.rw_barclips_k08_common_ticks) rfl rfl (fun w h Y => PySem.W.kIn_of Y) ?F
  case F =>
    intro w mg fa h KX G hmg
    refine' Lw.all_mk KX G hmg ?a1 ?l1 ?c1 ?k1 ?a2 ?l2 ?c2 ?k2 ?a3 ?l3 ?c3 ?k3 ?a4 ?l4 ?c4 ?k4 ?a5 ?l5 ?c5 ?k5 ?a6 ?l6 ?c6 ?k6 ?a7 ?l7 ?c7 ?k7 ?g_Grid ?pg_Grid ?hd_Grid ?po_Grid ?sa_Grid ?mk_Grid ?kp_Grid ?a8 ?i8 ?l8 ?c8 ?k8 ?t8 ?no_Grid_step ?no_Grid_offset ?z_len ?z_int ?z_abs ?z_str ?z_range ?z_isinstance ?z_bool ?z_list ?z_tuple ?z_sum ?z_min ?z_max ?z_any ?z_all ?z_sorted ?z_enumerate ?z_ValueError ?a9 ?l9 ?c9 ?k9 ?a10 ?l10 ?c10 ?k10 ?a11 ?l11 ?c11 ?k11 ?i_ha ?i_hn ?i_htk ?i_hm ?a12 ?i12 ?l12 ?c12 ?k12 ?a13 ?i13 ?l13 ?c13 ?k13 ?rd_Grid ?sg_Grid ?gm_gcd ?a14 ?l14 ?c14 ?k14 ?a15 ?b15 ?l15 ?c15 ?k15 ?sf16 ?a16 ?i16 ?l16 ?c16 ?k16 ?g_BarclipsError ?rd_BarclipsError ?sg_BarclipsError ?vi_BarclipsError ?ic_BarclipsError ?ty_BarclipsError ?e_hn ?e_tk ?g_Apart ?lk_Apart ?sa_Apart ?xb_Apart ?ty_Apart ?kp_Apart ?ga_Apart ?gg_Apart ?hd_Apart ?ic_Apart ?ac_Apart ?mo_Apart ?ss_Apart ?a18 ?t18 ?l18 ?c18 ?k18 ?no_Apart_first ?no_Apart_second ?g_OffGrid ?lk_OffGrid ?sa_OffGrid ?xb_OffGrid ?ty_OffGrid ?kp_OffGrid ?ga_OffGrid ?gg_OffGrid ?hd_OffGrid ?ic_OffGrid ?ac_OffGrid ?mo_OffGrid ?ss_OffGrid ?sb_Apart_BarclipsError ?sb_Apart_ValueError ?sb_Apart_OffGrid ?a20 ?l20 ?c20 ?k20 ?a21 ?l21 ?c21 ?k21 ?a22 ?l22 ?c22 ?k22 ?a23 ?l23 ?c23 ?k23 ?a24 ?l24 ?c24 ?k24
    (case a1 => k_is)
    (case l1 => k_is)
    (case c1 => k_is)
    (case k1 => k_is)
    (case a2 => k_is)
    (case l2 => k_is)
    (case c2 => k_is)
    (case k2 => k_is)
    (case a3 => k_is)
    (case l3 => k_is)
    (case c3 => k_is)
    (case k3 => k_is)
    (case a4 => k_is)
    (case l4 => k_is)
    (case c4 => k_is)
    (case k4 => k_is)
    (case a5 => k_is)
    (case l5 => k_is)
    (case c5 => k_is)
    (case k5 => k_is)
    (case a6 => k_is)
    (case l6 => k_is)
    (case c6 => k_is)
    (case k6 => k_is)
    (case a7 => k_is)
    (case l7 => k_is)
    (case c7 => k_is)
    (case k7 => k_is)
    (case g_Grid => k_is)
    (case pg_Grid => k_is)
    (case hd_Grid => k_is)
    (case po_Grid => k_is)
    (case sa_Grid => k_is)
    (case mk_Grid => k_is)
    (case kp_Grid => k_is)
    (case a8 => k_is)
    (case i8 => k_is)
    (case l8 => k_is)
    (case c8 => k_is)
    (case k8 => k_is)
    (case t8 => k_is)
    (case no_Grid_step => k_is)
    (case no_Grid_offset => k_is)
    (case z_len => k_is)
    (case z_int => k_is)
    (case z_abs => k_is)
    (case z_str => k_is)
    (case z_range => k_is)
    (case z_isinstance => k_is)
    (case z_bool => k_is)
    (case z_list => k_is)
    (case z_tuple => k_is)
    (case z_sum => k_is)
    (case z_min => k_is)
    (case z_max => k_is)
    (case z_any => k_is)
    (case z_all => k_is)
    (case z_sorted => k_is)
    (case z_enumerate => k_is)
    (case z_ValueError => k_is)
    (case a9 => k_is)
    (case l9 => k_is)
    (case c9 => k_is)
    (case k9 => k_is)
    (case a10 => k_is)
    (case l10 => k_is)
    (case c10 => k_is)
    (case k10 => k_is)
    (case a11 => k_is)
    (case l11 => k_is)
    (case c11 => k_is)
    (case k11 => k_is)
    (case i_ha => k_is)
    (case i_hn => k_is)
    (case i_htk => k_is)
    (case i_hm => k_is)
    (case a12 => k_is)
    (case i12 => k_is)
    (case l12 => k_is)
    (case c12 => k_is)
    (case k12 => k_is)
    (case a13 => k_is)
    (case i13 => k_is)
    (case l13 => k_is)
    (case c13 => k_is)
    (case k13 => k_is)
    (case rd_Grid => k_is)
    (case sg_Grid => k_is)
    (case gm_gcd => k_is)
    (case a14 => k_is)
    (case l14 => k_is)
    (case c14 => k_is)
    (case k14 => k_is)
    (case a15 => k_is)
    (case b15 => k_is)
    (case l15 => k_is)
    (case c15 => k_is)
    (case k15 => k_is)
    (case sf16 => k_is)
    (case a16 => k_is)
    (case i16 => k_is)
    (case l16 => k_is)
    (case c16 => k_is)
    (case k16 => k_is)
    (case g_BarclipsError => k_is)
    (case rd_BarclipsError => k_is)
    (case sg_BarclipsError => k_is)
    (case vi_BarclipsError => k_is)
    (case ic_BarclipsError => k_is)
    (case ty_BarclipsError => k_is)
    (case e_hn => k_is)
    (case e_tk => k_is)
    (case g_Apart => k_is)
    (case lk_Apart => k_is)
    (case sa_Apart => k_is)
    (case xb_Apart => k_is)
    (case ty_Apart => k_is)
    (case kp_Apart => k_is)
    (case ga_Apart => k_is)
    (case gg_Apart => k_is)
    (case hd_Apart => k_is)
    (case ic_Apart => k_is)
    (case ac_Apart => k_is)
    (case mo_Apart => k_is)
    (case ss_Apart => k_is)
    (case a18 => k_is)
    (case t18 => k_is)
    (case l18 => k_is)
    (case c18 => k_is)
    (case k18 => k_is)
    (case no_Apart_first => k_is)
    (case no_Apart_second => k_is)
    (case g_OffGrid => k_is)
    (case lk_OffGrid => k_is)
    (case sa_OffGrid => k_is)
    (case xb_OffGrid => k_is)
    (case ty_OffGrid => k_is)
    (case kp_OffGrid => k_is)
    (case ga_OffGrid => k_is)
    (case gg_OffGrid => k_is)
    (case hd_OffGrid => k_is)
    (case ic_OffGrid => k_is)
    (case ac_OffGrid => k_is)
    (case mo_OffGrid => k_is)
    (case ss_OffGrid => k_is)
    (case sb_Apart_BarclipsError => k_is)
    (case sb_Apart_ValueError => k_is)
    (case sb_Apart_OffGrid => k_is)
    (case a20 => k_is)
    (case l20 => k_is)
    (case c20 => k_is)
    (case k20 => k_is)
    (case a21 => k_is)
    (case l21 => k_is)
    (case c21 => k_is)
    (case k21 => k_is)
    (case a22 => k_is)
    (case l22 => k_is)
    (case c22 => k_is)
    (case k22 => k_is)
    (case a23 => k_is)
    (case l23 => k_is)
    (case c23 => k_is)
    (case k23 => k_is)
    (case a24 => k_is)
    (case l24 => k_is)
    (case c24 => k_is)
    (case k24 => k_is)
