import PyProof.Rows.All
import Wide.All
import OpenK.AllK
import Wide.FinOn
import HandS.ForMost
import HandS.Wide
import HandS.Gcd
import HandS.OwnEq
import HandS.IsInst
import HandS.Defaults
import HandS.Exc
import HandS.ExcInit
import HandS.ExcField
import HandS.ExcOwn
import HandS.ClsMeth
import HandS.WordsExc
import HandS.FStr
import HandS.Style
import PyProof.LongRange
import HandS.MakeKw
import HandS.Conv
import KE.KExcIs
import HandS.TryMany
import PySem.Challenge.RW_barclips_k17_nth_gap
set_option Elab.async false
set_option linter.all false
set_option maxRecDepth 100000
set_option maxHeartbeats 4000000
set_option exponentiation.threshold 2000
set_option Elab.async false
set_option linter.all false
set_option maxRecDepth 100000
set_option maxHeartbeats 4000000
namespace Bar
open PySem L2

/-! ### one step of a reading -/
section
variable {D : Ends} {σ σ' : L2.St} {H : Hp} {Q : VK} {t u : TS} {te ta tb tc : TE} {tt tu : TT} {g : TG} {v x y : V} {i j : Int} {n : Nat}
theorem rSeq (h : t ⟨u D, D.rt, D.bk, D.ct⟩ σ H) : tSeq t u D σ H := h
theorem rNext (h : D.nx σ H) : tNext D σ H := h
theorem rNx {f : L2.St → Hp → Prop} {r : VK} {b c : L2.St → Hp → Prop} (h : f σ H) : Ends.nx ⟨f, r, b, c⟩ σ H := h
theorem rCt {f : L2.St → Hp → Prop} {r : VK} {b c : L2.St → Hp → Prop} (h : c σ H) : Ends.ct ⟨f, r, b, c⟩ σ H := h
theorem rBk {f : L2.St → Hp → Prop} {r : VK} {b c : L2.St → Hp → Prop} (h : b σ H) : Ends.bk ⟨f, r, b, c⟩ σ H := h
theorem rRt {f : L2.St → Hp → Prop} {r : VK} {b c : L2.St → Hp → Prop} (h : r v H) : Ends.rt ⟨f, r, b, c⟩ v H := h
theorem rBreak (h : D.bk σ H) : tBreak D σ H := h
theorem rCont (h : D.ct σ H) : tCont D σ H := h
theorem rAsg (h : te σ H fun x H1 => g x σ H1 D.nx) : tAsg te g D σ H := h
theorem rDrop (h : te σ H fun _ H1 => D.nx σ H1) : tDrop te D σ H := h
theorem rRet (h : te σ H D.rt) : tRet te D σ H := h
theorem rRetN (h : D.rt .non H) : tRetN D σ H := h
theorem rIfS (h : tt σ H fun b H1 => if b = true then t D σ H1 else u D σ H1) : tIfS tt t u D σ H := h
theorem rVar (e : σ[n]? = some (some v)) (h : Q v H) : tVar n σ H Q := ⟨v, e, h⟩
theorem rC (h : Q v H) : tC v σ H Q := h
theorem rOp {r : R2} (h : ta σ H fun x H1 => tb σ H1 fun y H2 => r x y H2 Q) : tOp r ta tb σ H Q := h
theorem rUn {r : V → Hp → VK → Prop} (h : ta σ H fun x H1 => r x H1 Q) : tUn r ta σ H Q := h
theorem rI0_ {f : Int → Int → V} (h : Q (f i j) H) : rI0 f (.int i) (.int j) H Q := ⟨i, j, rfl, rfl, h⟩
theorem rI_ {C : Int → Int → Prop} {f : Int → Int → V} (c : C i j) (h : Q (f i j) H) : rI C f (.int i) (.int j) H Q := ⟨i, j, rfl, rfl, c, h⟩
theorem rU_ {f : Int → V} (h : Q (f i) H) : rU f (.int i) H Q := ⟨i, rfl, h⟩
theorem rEq_ (e : scal x y = true) (h : Q (.bl (decide (x = y))) H) : rEq x y H Q := ⟨e, h⟩
theorem rNe_ (e : scal x y = true) (h : Q (.bl (!decide (x = y))) H) : rNe x y H Q := ⟨e, h⟩
theorem rEqI (h : Q (.bl (decide (i = j))) H) : rEq (.int i) (.int j) H Q := ⟨rfl, by
  have e : decide (V.int i = V.int j) = decide (i = j) := by
    by_cases q : i = j
    · subst q; rw [decide_eq_true rfl, decide_eq_true rfl]
    · rw [decide_eq_false q, decide_eq_false (fun z => q (V.int.inj z))]
  rw [e]
  exact h⟩
theorem rNeI (h : Q (.bl (!decide (i = j))) H) : rNe (.int i) (.int j) H Q := ⟨rfl, by
  have e : decide (V.int i = V.int j) = decide (i = j) := by
    by_cases q : i = j
    · subst q; rw [decide_eq_true rfl, decide_eq_true rfl]
    · rw [decide_eq_false q, decide_eq_false (fun z => q (V.int.inj z))]
  rw [e]
  exact h⟩
theorem dBl (a b : Bool) : decide (V.bl a = V.bl b) = (a == b) := by
  cases a <;> cases b <;> decide
theorem rEqBl {a b : Bool} (h : Q (.bl (a == b)) H) : rEq (.bl a) (.bl b) H Q := ⟨rfl, by
  rw [dBl]
  exact h⟩
theorem rNeBl {a b : Bool} (h : Q (.bl (!(a == b))) H) : rNe (.bl a) (.bl b) H Q := ⟨rfl, by
  rw [dBl]
  exact h⟩
theorem rTest {Q : Bool → Hp → Prop} (h : te σ H fun x H' => ∃ k, x = .bl k ∧ Q k H') : tTest te σ H Q := h
theorem rB {Q : Bool → Hp → Prop} (h : te σ H fun x H' => ∃ k, x = .bl k ∧ Q k H') : tB te σ H Q := h
theorem rBl {b : Bool} {P : Bool → Prop} (h : P b) : ∃ k, V.bl b = .bl k ∧ P k := ⟨b, rfl, h⟩
theorem rNot {Q : Bool → Hp → Prop} (h : tt σ H fun c H1 => Q (!c) H1) : tNot tt σ H Q := h
theorem rAnd {Q : Bool → Hp → Prop} (h : tt σ H fun c H1 => if c = true then tu σ H1 Q else Q false H1) : tAnd tt tu σ H Q := h
theorem rOr {Q : Bool → Hp → Prop} (h : tt σ H fun c H1 => if c = true then Q true H1 else tu σ H1 Q) : tOr tt tu σ H Q := h
theorem rAndV (h : ta σ H fun x H1 => ∃ c, x = .bl c ∧ if c = true then tb σ H1 Q else Q (.bl false) H1) : tAndV ta tb σ H Q := h
theorem rOrV (h : ta σ H fun x H1 => ∃ c, x = .bl c ∧ if c = true then Q (.bl true) H1 else tb σ H1 Q) : tOrV ta tb σ H Q := h
theorem rNotV (h : ta σ H fun x H1 => ∃ c, x = .bl c ∧ Q (.bl (!c)) H1) : tNotV ta σ H Q := h
theorem rIfE (h : tt σ H fun c H1 => if c = true then ta σ H1 Q else tb σ H1 Q) : tIf tt ta tb σ H Q := h
theorem rCB {r : List V → Hp → VK → Prop} {t : TA} (h : t σ H fun vs H1 => r vs H1 Q) : tCB r t σ H Q := h
theorem rNil {Q : List V → Hp → Prop} (h : Q [] H) : tNil σ H Q := h
theorem rCons {t : TA} {Q : List V → Hp → Prop} (h : te σ H fun x H1 => t σ H1 fun xs H2 => Q (x :: xs) H2) : tCons te t σ H Q := h
theorem rTup {t : TA} (h : t σ H fun xs H1 => xs.length ≤ sizeLine ∧ ∀ p, H1 p = none → Q (.ref p) (upd H1 p (.tup xs))) : tTup t σ H Q := h
theorem rLst {t : TA} (h : t σ H fun xs H1 => xs.length ≤ sizeLine ∧ ∀ p, H1 p = none → Q (.ref p) (upd H1 p (.lst xs))) : tLst t σ H Q := h
theorem rNew {xs : List V} {R : Addr → Prop} (l : xs.length ≤ sizeLine) (h : ∀ p, H p = none → R p) : xs.length ≤ sizeLine ∧ ∀ p, H p = none → R p := ⟨l, h⟩
theorem rCall {sp : Sp} {dvs : List V} {E : XK} {t : TA} (h : t σ H fun vs H1 => sp (vs ++ dvs) H1 Q E) : tCall sp dvs E t σ H Q := h
theorem rMake {C : Addr} {sp : Sp} {dvs : List V} {E : XK} {t : TA} (h : t σ H fun vs H1 => ∀ x dx, H1 x = none → H1 dx = none → dx ≠ x → sp (.ref x :: (vs ++ dvs)) (upd (upd H1 dx (.own x)) x (.ins C dx [])) (fun v H2 => v = .non ∧ Q (.ref x) H2) E) : tMake C sp dvs E t σ H Q := h
theorem rIxL_ {K : PySem.W.Frag} {a : Addr} {xs : List V} (h1 : SqL K H a xs) (h2 : atI xs i = some v) (h : Q v H) : rIxL K (.ref a) (.int i) H Q := ⟨a, xs, i, v, rfl, rfl, h1, h2, h⟩
theorem rIxT_ {K : PySem.W.Frag} {a : Addr} {xs : List V} (h1 : SqT K H a xs) (h2 : atI xs i = some v) (h : Q v H) : rIxT K (.ref a) (.int i) H Q := ⟨a, xs, i, v, rfl, rfl, h1, h2, h⟩
theorem rFldS {K : PySem.W.Frag} {ta tv : TE} {f : Str} (h : tv σ H fun y H1 => ta σ H1 fun x H2 => ∃ a C dx fs, x = .ref a ∧ H2 a = some (.ins C dx fs) ∧ Cls K C ∧ NoAttr K C f ∧ fs.length < 1000 ∧ D.nx σ (upd H2 a (.ins C dx (putF f y fs)))) : sFld K ta tv f D σ H := h
theorem rFld_ {K : PySem.W.Frag} {f : Str} (h : te σ H fun x H1 => ∃ a C dx fs v, x = .ref a ∧ H1 a = some (.ins C dx fs) ∧ Cls K C ∧ NoAttr K C f ∧ fs.lookup f = some v ∧ Q v H1) : tFld K te f σ H Q := h
theorem rFldV {K : PySem.W.Frag} {f : Str} {a C dx : Addr} {fs : List (Str × V)} {R : V → Prop} (h1 : H a = some (.ins C dx fs)) (c : Cls K C) (nA : NoAttr K C f) (l : fs.lookup f = some v) (h : R v) :
    ∃ a' C dx fs v, V.ref a = .ref a' ∧ H a' = some (.ins C dx fs) ∧ Cls K C ∧ NoAttr K C f ∧ fs.lookup f = some v ∧ R v := ⟨a, C, dx, fs, v, rfl, h1, c, nA, l, h⟩
theorem gN {i : Nat} {Q : L2.St → Hp → Prop} (e : σ.set i (some v) = σ') (h : Q σ' H) : gName i v σ H Q := by
  subst e
  exact h
theorem gN0 {a : Option V} {Q : L2.St → Hp → Prop} (h : Q (some v :: σ) H) : gName 0 v (a :: σ) H Q := h
theorem gN1 {a b : Option V} {Q : L2.St → Hp → Prop} (h : Q (a :: some v :: σ) H) : gName 1 v (a :: b :: σ) H Q := h
theorem gN2 {a b c : Option V} {Q : L2.St → Hp → Prop} (h : Q (a :: b :: some v :: σ) H) : gName 2 v (a :: b :: c :: σ) H Q := h
theorem gN3 {a b c d : Option V} {Q : L2.St → Hp → Prop} (h : Q (a :: b :: c :: some v :: σ) H) : gName 3 v (a :: b :: c :: d :: σ) H Q := h
theorem gN4 {a b c d e : Option V} {Q : L2.St → Hp → Prop} (h : Q (a :: b :: c :: d :: some v :: σ) H) : gName 4 v (a :: b :: c :: d :: e :: σ) H Q := h
theorem gN5 {a b c d e f : Option V} {Q : L2.St → Hp → Prop} (h : Q (a :: b :: c :: d :: e :: some v :: σ) H) : gName 5 v (a :: b :: c :: d :: e :: f :: σ) H Q := h
theorem gN6 {a b c d e f k : Option V} {Q : L2.St → Hp → Prop} (h : Q (a :: b :: c :: d :: e :: f :: some v :: σ) H) : gName 6 v (a :: b :: c :: d :: e :: f :: k :: σ) H Q := h
theorem gN7 {a b c d e f k l : Option V} {Q : L2.St → Hp → Prop} (h : Q (a :: b :: c :: d :: e :: f :: k :: some v :: σ) H) : gName 7 v (a :: b :: c :: d :: e :: f :: k :: l :: σ) H Q := h
theorem gN8 {a b c d e f k l m : Option V} {Q : L2.St → Hp → Prop} (h : Q (a :: b :: c :: d :: e :: f :: k :: l :: some v :: σ) H) : gName 8 v (a :: b :: c :: d :: e :: f :: k :: l :: m :: σ) H Q := h
theorem gN9 {a b c d e f k l m o : Option V} {Q : L2.St → Hp → Prop} (h : Q (a :: b :: c :: d :: e :: f :: k :: l :: m :: some v :: σ) H) : gName 9 v (a :: b :: c :: d :: e :: f :: k :: l :: m :: o :: σ) H Q := h
theorem gN10 {a b c d e f k l m o p : Option V} {Q : L2.St → Hp → Prop} (h : Q (a :: b :: c :: d :: e :: f :: k :: l :: m :: o :: some v :: σ) H) : gName 10 v (a :: b :: c :: d :: e :: f :: k :: l :: m :: o :: p :: σ) H Q := h
theorem gN11 {a b c d e f k l m o p q : Option V} {Q : L2.St → Hp → Prop} (h : Q (a :: b :: c :: d :: e :: f :: k :: l :: m :: o :: p :: some v :: σ) H) : gName 11 v (a :: b :: c :: d :: e :: f :: k :: l :: m :: o :: p :: q :: σ) H Q := h
theorem rStart {N : List Str} {vs : List V} (e : start N vs = σ) (h : t D σ H) : t D (start N vs) H := by
  rw [e]
  exact h
theorem iteBT {A B : Prop} {b : Bool} (e : b = true) (h : A) : if b = true then A else B := by
  rw [if_pos e]
  exact h
theorem iteBF {A B : Prop} {b : Bool} (e : b = false) (h : B) : if b = true then A else B := by
  rw [e, if_neg Bool.false_ne_true]
  exact h
end

/-! ### a def that is called by its name -/
structure Fn (P : Program) (w : World) (K : PySem.W.Frag) (mg : Str → Option Value) (base : Heap) (x : Str) (ps : List Str) (dvs : List V) (k : Nat) (sp : Sp) : Prop where
  ex : ∃ (f : Addr) (fd : FuncData) (ds : List Value), mg x = some (.ref f) ∧ PySem.W.keepIn K (.ref f) = true ∧ Binds K fd ps ds ∧ Vals dvs ds ∧ FnOk P w K mg base CX0 k f fd ps sp
section
variable {X : Cx} {k : Nat} {sp : Sp} {ps : List Str} {dvs : List V} {x : Str} {p pos : Pos} {e : Expr} {es : List Expr} {t : TA}
theorem pe_fn (F : Fn X.prog X.w X.K X.mg X.base x ps dvs k sp) (hr : Room k X.A) (hg : Gl X x) (ha : PA X (e :: es) t) (hdb : (x == ("__debug__" : Str)) = false := by decide)
    (he : starEach (e :: es) X.env = (false, eval e X.env) :: starEach es X.env := by rfl) (hpl : (backTo pos (starEach es X.env)).any (·.1) = false := by rfl) : PE X (.Call (.Name x p) (e :: es) [] pos) (tCall sp dvs E0 t) := by
  obtain ⟨f, fd, ds, hm, hk, hb, hd, ok⟩ := F.ex
  exact pe_call ok hr hg hm hk hb hd pass0 ha hdb he hpl
end

/-! ### what is kept beside b -/
def Kp (b : Addr) (H H' : Hp) : Prop := ∀ a o, a ≠ b → H a = some o → H' a = some o
theorem Kp.refl {b : Addr} {H : Hp} : Kp b H H := fun _ _ _ h => h
theorem Kp.trans {b : Addr} {H H1 H2 : Hp} (h : Kp b H H1) (k : Kp b H1 H2) : Kp b H H2 := fun a o n e => k a o n (h a o n e)
theorem Kp.upd {b : Addr} {H : Hp} {o : HO} : Kp b H (upd H b o) := fun a u n e => by
  rw [upd_ne n]
  exact e
theorem Kp.new {b p : Addr} {H : Hp} {o : HO} (hp : H p = none) : Kp b H (L2.upd H p o) := fun a u n e => by
  rw [upd_ne (ne_of_none e hp)]
  exact e
theorem Kp.of_same {b : Addr} {H H' : Hp} (h : Same H H') : Kp b H H' := fun a u _ e => h a u e
theorem Kp.free {b p : Addr} {H H' : Hp} (k : Kp b H H') {o u : HO} (hb : H b = some o) (hb' : H' b = some u) (hp : H' p = none) : H p = none := by
  cases q : H p with
  | none => rfl
  | some z =>
    have n : p ≠ b := fun e => by rw [e, hb'] at hp; cases hp
    rw [k p z n q] at hp
    cases hp
theorem lkKp {b a : Addr} {H H' : Hp} {o u : HO} (k : Kp b H H') (h : H a = some o) (hb : H b = some u) (d : o ≠ u) : H' a = some o := k a o (ne_of h hb d) h
theorem lkKn {b a : Addr} {H H' : Hp} {o : HO} (k : Kp b H H') (n : a ≠ b) (h : H a = some o) : H' a = some o := k a o n h
theorem lkSm {a : Addr} {H H' : Hp} {o : HO} (k : Same H H') (h : H a = some o) : H' a = some o := k a o h
theorem sqSame {K : PySem.W.Frag} {a : Addr} {xs : List V} {H H' : Hp} (k : Same H H') (h : SqL K H a xs) : SqL K H' a xs := k.seq h
theorem Kp.trans' {b : Addr} {H H1 H2 : Hp} (h : Same H H1) (k : Kp b H1 H2) : Kp b H H2 := fun a o n e => k a o n (h a o e)
theorem sqKf {K : PySem.W.Frag} {b a : Addr} {xs : List V} {H H' : Hp} (k : Kp b H H') (hb : H b = none) (h : SqL K H a xs) : SqL K H' a xs := by
  rcases h with (h | ⟨o, h⟩) | h
  · exact .inl (.inl (k a _ (ne_of_none h hb) h))
  · exact .inl (.inr ⟨o, k a _ (ne_of_none h hb) h⟩)
  · exact .inr h
theorem Kp.sqT {K : PySem.W.Frag} {b t : Addr} {xs ys : List V} {H H' : Hp} (k : Kp b H H') (hb : H b = some (.lst ys)) (h : SqT K H t xs) : SqT K H' t xs := by
  rcases h with (h | ⟨o, h⟩) | h
  · exact .inl (.inl (k t _ (ne_of h hb (by intro z; cases z)) h))
  · exact .inl (.inr ⟨o, k t _ (ne_of h hb (by intro z; cases z)) h⟩)
  · exact .inr h
theorem Kp.sqL {K : PySem.W.Frag} {b t : Addr} {xs : List V} {H H' : Hp} (k : Kp b H H') (n : t ≠ b) (h : SqL K H t xs) : SqL K H' t xs := by
  rcases h with (h | ⟨o, h⟩) | h
  · exact .inl (.inl (k t _ n h))
  · exact .inl (.inr ⟨o, k t _ n h⟩)
  · exact .inr h
theorem szLe {n : Nat} (h : n ≤ 1000) : n ≤ sizeLine := Nat.le_trans h (by decide)
theorem szLt {n : Nat} (h : n < 1000) : n < sizeLine := Nat.lt_of_lt_of_le h (by decide)
def Kp2 (b l : Addr) (H H' : Hp) : Prop := ∀ a o, a ≠ b → a ≠ l → H a = some o → H' a = some o
theorem Kp2.refl {b l : Addr} {H : Hp} : Kp2 b l H H := fun _ _ _ _ h => h
theorem Kp2.kp {b l : Addr} {H H1 H2 : Hp} (k : Kp2 b l H H1) (h : Kp b H1 H2) : Kp2 b l H H2 := fun a o n m e => h a o n (k a o n m e)
theorem Kp2.set {b l : Addr} {H H1 : Hp} {u : HO} (k : Kp2 b l H H1) : Kp2 b l H (L2.upd H1 l u) := fun a o n m e => by
  rw [upd_ne m]
  exact k a o n m e
theorem freeNew {p q : Addr} {H : Hp} {o : HO} (h : L2.upd H q o p = none) : H p = none := by
  by_cases e : p = q
  · subst e
    rw [upd_same] at h
    cases h
  · rwa [upd_ne e] at h
theorem lkNew {p a : Addr} {H : Hp} {o u : HO} (hp : H p = none) (h : H a = some u) : L2.upd H p o a = some u := by
  rw [upd_ne (ne_of_none h hp)]
  exact h
theorem lkNe {p a : Addr} {H : Hp} {o u : HO} (n : a ≠ p) (h : H a = some u) : L2.upd H p o a = some u := by
  rw [upd_ne n]
  exact h

/-! ### powers of great ints -/
def CPowW (i j : Int) : Prop := 0 ≤ j ∧ (Builtin.Int.intBits i : Int) * j ≤ 2 ^ 27
theorem op_powW {X : Cx} : OpR X (binaryOp .Pow) (rI CPowW fun i j => .int (i ^ j.toNat)) := opI fun _ _ _ _ _ _ _ hc q => PyProof.Rows.pow_int hc.1 hc.2 q
theorem powW_ok {i j : Int} (n : Nat) (h0 : 0 ≤ j) (h : i.natAbs < 2 ^ n) (hb : (n : Int) * j ≤ 2 ^ 27) : CPowW i j := by
  refine ⟨h0, Int.le_trans (Int.mul_le_mul_of_nonneg_right ?_ h0) hb⟩
  have := PyProof.Rows.intBits_le h
  omega

/-! ### own operators -/
structure Own (K : PySem.W.Frag) (C : Addr) (m : Str) (f : Addr) : Prop where
  find : PySem.W.findIn K (.ref C) m = some (some (.ref f))
  fn : PySem.W.isFn K (.ref f) = true
/-- x in o, by an own __contains__ that gives a truth value -/
def rOwnIn (C : Addr) (sp : Sp) : R2 := fun x y H Q => ∃ a dx fs, y = .ref a ∧ H a = some (.ins C dx fs) ∧ sp [y, x] H (fun v H' => ∃ c, v = .bl c ∧ Q (.bl c) H') E0
section
variable {X : Cx} {C f : Addr} {fd : FuncData} {ps : List Str} {k : Nat} {sp : Sp}
theorem op_in_own (O : Own X.K C "__contains__" f) (F : FnOk X.prog X.w X.K X.mg X.base CX0 k f fd ps sp) (hr : Room k X.A) (hb : Binds X.K fd ps []) : OpR X (compareOp .In) (rOwnIn C sp) := by
  intro pins s σ H x y v u Q I rx ry h
  obtain ⟨a, dx, fs, rfl, ea, q⟩ := h
  obtain rfl : u = Value.ref a := ry
  obtain ⟨mA, O', _⟩ := ins_get I.hok ea
  obtain ⟨od, J, _⟩ := O'.look
  obtain ⟨m, Fr⟩ := I.fr
  refine PySem.W.in_K Fr I.mod.kin J O.find O.fn ?_
  refine thn (run_fn (us := [.ref a, v]) (vs := [.ref a, x]) F hr hb .nil pass0 I (.cons rfl (.cons rx .nil)) q) fun u' s' hq => ?_
  obtain ⟨v', H', I', rv, hv⟩ := hq
  obtain ⟨b, hb, q'⟩ := hv
  subst hb
  obtain rfl : u' = Value.bool b := rv
  exact wpAny_truthy_bool ⟨.bl b, H', I', rfl, q'⟩
end

/-! ### an own class that is called, a method that is called -/
structure Made (P : Program) (w : World) (K : PySem.W.Frag) (mg : Str → Option Value) (base : Heap) (x : Str) (C : Addr) (ps : List Str) (dvs : List V) (k : Nat) (sp : Sp) : Prop where
  ex : ∃ (f : Addr) (fd : FuncData) (ds : List Value), mg x = some (.ref C) ∧ Mk K C f ∧ Binds K fd ps ds ∧ Vals dvs ds ∧ FnOk P w K mg base CX0 k f fd ps sp
structure Mth (P : Program) (w : World) (K : PySem.W.Frag) (mg : Str → Option Value) (base : Heap) (C : Addr) (m : Str) (ps : List Str) (dvs : List V) (k : Nat) (sp : Sp) : Prop where
  cl : Cls K C
  ex : ∃ (f : Addr) (fd : FuncData) (ds : List Value), Meth K C m f ∧ Binds K fd ps ds ∧ Vals dvs ds ∧ FnOk P w K mg base CX0 k f fd ps sp
structure Opr (P : Program) (w : World) (K : PySem.W.Frag) (mg : Str → Option Value) (base : Heap) (C : Addr) (m : Str) (ps : List Str) (k : Nat) (sp : Sp) : Prop where
  ex : ∃ (f : Addr) (fd : FuncData), Own K C m f ∧ Binds K fd ps [] ∧ FnOk P w K mg base CX0 k f fd ps sp
section
variable {X : Cx} {k : Nat} {sp : Sp} {ps : List Str} {dvs : List V} {C : Addr} {x m : Str} {p pos apos : Pos} {e o : Expr} {es : List Expr} {t : TA} {ta : TE}
theorem pe_mk (F : Made X.prog X.w X.K X.mg X.base x C ps dvs k sp) (hr : Room (k + 1) X.A) (hg : Gl X x) (ha : PA X (e :: es) t) (hdb : (x == ("__debug__" : Str)) = false := by decide)
    (he : starEach (e :: es) X.env = (false, eval e X.env) :: starEach es X.env := by rfl) (hpl : (backTo pos (starEach es X.env)).any (·.1) = false := by rfl) : PE X (.Call (.Name x p) (e :: es) [] pos) (tMake C sp dvs E0 t) := by
  obtain ⟨f, fd, ds, hm, hk, hb, hd, ok⟩ := F.ex
  exact pe_make hk ok hr hg hm hb hd pass0 ha hdb he hpl
theorem pe_mth {pl : Sem Bool} (F : Mth X.prog X.w X.K X.mg X.base C m ps dvs k sp) (he : PE X o ta) (hr : Room k X.A) (ha : PA X (e :: es) t)
    (hst : starEach (e :: es) X.env = (false, eval e X.env) :: starEach es X.env := by rfl) (hpl : (backTo pos (starEach es X.env)).any (·.1) = false := by rfl)
    (ht : eval (.Call (.Attribute o m apos) (e :: es) [] pos) X.env = (do
      let ov ← eval o X.env
      standAt apos.atName
      let (f, first) ← holding [ov] (getMethod ov m pl)
      callWith pos f first (backTo pos (starEach (e :: es) X.env)) (backToKw pos (keywordEach [] X.env))) := by rfl) :
    PE X (.Call (.Attribute o m apos) (e :: es) [] pos) (tMeth C m sp dvs E0 ta t) := by
  obtain ⟨f, fd, ds, hm, hb, hd, ok⟩ := F.ex
  exact pe_meth he F.cl hm ok hr hb hd pass0 ha hst hpl ht
theorem op_in (F : Opr X.prog X.w X.K X.mg X.base C "__contains__" ps k sp) (hr : Room k X.A) : OpR X (compareOp .In) (rOwnIn C sp) := by
  obtain ⟨f, fd, O, hb, ok⟩ := F.ex
  exact op_in_own O ok hr hb
end
theorem rMeth {C : Addr} {m : Str} {sp : Sp} {dvs : List V} {E : XK} {ta : TE} {t : TA} {σ : L2.St} {H : Hp} {Q : VK} (h : ta σ H fun x H1 => ∃ a dx fs, x = .ref a ∧ H1 a = some (.ins C dx fs) ∧ fs.lookup m = none ∧ t σ H1 fun vs H2 => sp (x :: (vs ++ dvs)) H2 Q E) :
  tMeth C m sp dvs E ta t σ H Q := h
theorem lkMut {p a : Addr} {H : Hp} {o u o' : HO} (h : H a = some u) (hp : H p = some o') (d : u ≠ o') : L2.upd H p o a = some u := lkNe (ne_of h hp d) h
def rInt : List V → Hp → VK → Prop := fun xs H Q => (∃ i, xs = [.int i] ∧ Q (.int i) H) ∨ ∃ k : Bool, xs = [.bl k] ∧ Q (.int (if k then 1 else 0)) H
theorem c_int {X : Cx} : CallR X (.type "int") rInt := call_int1
theorem rInt_ {i : Int} {H : Hp} {Q : VK} (h : Q (.int i) H) : rInt [.int i] H Q := Or.inl ⟨i, rfl, h⟩
def rAbs : List V → Hp → VK → Prop := fun xs H Q => ∃ i, xs = [.int i] ∧ Q (.int (if i < 0 then -i else i)) H
theorem c_abs {X : Cx} : CallR X (.builtin "abs") rAbs := call_abs
theorem rAbs_ {i : Int} {H : Hp} {Q : VK} (h : Q (.int (if i < 0 then -i else i)) H) : rAbs [.int i] H Q := ⟨i, rfl, h⟩
def rStr : List V → Hp → VK → Prop := fun xs H Q => ∃ i : Int, xs = [.int i] ∧ i.natAbs.log2 < 1920 ∧ Q (.str (toString i)) H
theorem c_str {X : Cx} : CallR X (.type "str") rStr := call_str_int
theorem rStr_ {i : Int} {H : Hp} {Q : VK} (l : i.natAbs.log2 < 1920) (h : Q (.str (toString i)) H) : rStr [.int i] H Q := ⟨i, rfl, l, h⟩
def rLenStr : List V → Hp → VK → Prop := fun xs H Q => ∃ z : Str, xs = [.str z] ∧ z.length ≤ sizeLine ∧ Q (.int z.length) H
theorem c_lenStr {X : Cx} : CallR X (.builtin "len") rLenStr := call_len_str
theorem rLenStr_ {z : Str} {H : Hp} {Q : VK} (l : z.length ≤ sizeLine) (h : Q (.int z.length) H) : rLenStr [.str z] H Q := ⟨z, rfl, l, h⟩
def rLen (K : PySem.W.Frag) : List V → Hp → VK → Prop := fun xs H Q => ∃ p ys, xs = [.ref p] ∧ (SqL K H p ys ∨ SqT K H p ys) ∧ Q (.int ys.length) H
theorem c_len {X : Cx} : CallR X (.builtin "len") (rLen X.K) := call_len_seq
theorem rLenL {K : PySem.W.Frag} {a : Addr} {ys : List V} {H : Hp} {Q : VK} (h1 : SqL K H a ys) (h : Q (.int ys.length) H) : rLen K [.ref a] H Q := ⟨a, ys, rfl, Or.inl h1, h⟩
theorem rLenT {K : PySem.W.Frag} {a : Addr} {ys : List V} {H : Hp} {Q : VK} (h1 : SqT K H a ys) (h : Q (.int ys.length) H) : rLen K [.ref a] H Q := ⟨a, ys, rfl, Or.inr h1, h⟩
theorem rSub {to ti : TE} {t : TSet} {v : V} {σ : L2.St} {H : Hp} {Q : L2.St → Hp → Prop} (h : to σ H fun o H1 => ti σ H1 fun i H2 => t o i v H2 fun H3 => Q σ H3) : gSub to ti t v σ H Q := h
theorem rSetL_ {a : Addr} {xs : List V} {k : Int} {j : Nat} {v : V} {H : Hp} {Q : Hp → Prop} (h1 : H a = some (.lst xs)) (h2 : ixN xs.length k = some j) (h : Q (upd H a (.lst (xs.set j v)))) : rSetL (.ref a) (.int k) v H Q := ⟨a, xs, k, j, rfl, rfl, h1, h2, h⟩
theorem rAppend_ {a : Addr} {xs : List V} {y : V} {H : Hp} {Q : VK} (h1 : H a = some (.lst xs)) (l : xs.length < sizeLine) (h : Q .non (upd H a (.lst (xs ++ [y])))) : rAppend (.ref a) [y] H Q := ⟨a, xs, y, rfl, rfl, h1, l, h⟩
theorem rBM {K : PySem.W.Frag} {T : String} {r : V → List V → Hp → VK → Prop} {to : TE} {t : TA} {σ : L2.St} {H : Hp} {Q : VK} (h : to σ H fun x H1 => tyV K T x H1 ∧ t σ H1 fun xs H2 => r x xs H2 Q) : tBM K T r to t σ H Q := h
theorem tyL {K : PySem.W.Frag} {a : Addr} {xs : List V} {H : Hp} {R : Prop} (h1 : SqL K H a xs) (h : R) : tyV K "list" (.ref a) H ∧ R := ⟨Or.inl ⟨rfl, _, h1⟩, h⟩
theorem sqW (x : Int) {m : Int} (h0 : 0 < m) (h : m ≤ 2147483647) : CMulW (x % m) (x % m) := by
  have h1 := Int.emod_nonneg x (Int.ne_of_gt h0)
  have h2 := Int.emod_lt_of_pos x h0
  have h3 : (x % m).natAbs < 2 ^ 31 := by omega
  exact wide_mul h3 h3 (by decide) (by decide) (by decide)
theorem rSl {r : V → Option Int → Option Int → Hp → VK → Prop} {te : TE} {tl th : TO} {σ : L2.St} {H : Hp} {Q : VK} (h : te σ H fun x H1 => tl σ H1 fun l H2 => th σ H2 fun u H3 => r x l u H3 Q) : tSl r te tl th σ H Q := h
theorem rNoPart {σ : L2.St} {H : Hp} {Q : Option Int → Hp → Prop} (h : Q none H) : tNoPart σ H Q := h
theorem rPart {t : TE} {σ : L2.St} {H : Hp} {Q : Option Int → Hp → Prop} (h : t σ H fun x H1 => ∃ i, x = .int i ∧ Q (some i) H1) : tPart t σ H Q := h
theorem rInI {i : Int} {R : Int → Prop} (h : R i) : ∃ j, V.int i = .int j ∧ R j := ⟨i, rfl, h⟩
theorem rSlL_ {K : PySem.W.Frag} {a : Addr} {xs : List V} {lo hi : Option Int} {H : Hp} {Q : VK} (h1 : SqL K H a xs) (h : ∀ p, H p = none → Q (.ref p) (upd H p (.lst (cutV xs lo hi)))) : rSlL K (.ref a) lo hi H Q := ⟨a, xs, rfl, h1, h⟩
theorem cut_mem {xs : List V} {lo hi : Option Int} {v : V} (h : v ∈ cutV xs lo hi) : v ∈ xs := List.mem_of_mem_drop (List.mem_of_mem_take h)
theorem cut_int {ns : List Int} {lo hi : Option Int} {i : Nat} {v : V} (h : (cutV (ns.map V.int) lo hi)[i]? = some v) : ∃ u, v = .int u := by
  have h1 := cut_mem (List.mem_of_getElem? h)
  obtain ⟨u, _, e⟩ := List.mem_map.mp h1
  exact ⟨u, e.symm⟩
theorem at_map {ns : List Int} {j : Nat} (h : j < ns.length) : atI (ns.map V.int) (j : Int) = some (.int ns[j]) := atI_nat (by
  rw [List.getElem?_map, List.getElem?_eq_getElem h]
  rfl)
/-! ### loops -/
section
variable {σ : L2.St} {H : Hp} {D : Ends} {g : TG} {tb : TS} {K : PySem.W.Frag}
theorem rFor {wi : TI} (h : wi σ H fun J H1 => ∃ W : Nat → Nat → L2.St → Hp → Prop, (∃ m, W 0 m σ H1) ∧ ∀ i m σ H, W i m σ H →
  (J.stop i H ∧ D.nx σ H) ∨ (J.go i H ∧ ∃ N : L2.St → Hp → Prop, (∀ σ' H', N σ' H' → ∃ m', m' < m ∧ W (i + 1) m' σ' H') ∧ ∀ x H', J.yld i H x H' → g x σ H' fun σ2 H2 => tb { D with nx := N, ct := N, bk := D.nx } σ2 H2)) : tFor wi g tb D σ H := h
theorem rRng1 {ta : TA} {R : It → Hp → Prop} (h : ta σ H fun vs H1 => ∃ j : Int, vs = [.int j] ∧ -(2 ^ 62) ≤ j ∧ j < 2 ^ 62 ∧ R (Itr 0 j.toNat) H1) : iRng1 ta σ H R := h
theorem rRng2 {ta : TA} {R : It → Hp → Prop} (h : ta σ H fun vs H1 => ∃ i j : Int, vs = [.int i, .int j] ∧ (-(2 ^ 62) ≤ i ∧ i < 2 ^ 62 ∧ -(2 ^ 62) ≤ j ∧ j < 2 ^ 62) ∧ R (Itr i (j - i).toNat) H1) : iRng2 ta σ H R := h
theorem rLst1 {tl : TE} {R : It → Hp → Prop} (h : tl σ H fun x H1 => ∃ a, x = .ref a ∧ (∃ xs, SqL K H1 a xs) ∧ R (Itl K a) H1) : iList K tl σ H R := h
theorem rTup1 {tl : TE} {R : It → Hp → Prop} (h : tl σ H fun x H1 => ∃ a, x = .ref a ∧ (∃ xs, SqT K H1 a xs) ∧ R (Itt K a) H1) : iTup K tl σ H R := h
/-- a loop over range(j), the turn's number an int -/
theorem forR {j : Int} (n : Nat) (e : j.toNat = n) (Pv : Nat → L2.St → Hp → Prop) (b : -(2 ^ 62) ≤ j ∧ j < 2 ^ 62) (h0 : Pv 0 σ H)
    (hs : ∀ i σ H, i < n → Pv i σ H → g (.int (i : Int)) σ H fun σ2 H2 => tb ⟨Pv (i + 1), D.rt, D.nx, Pv (i + 1)⟩ σ2 H2) (hd : ∀ σ H, Pv n σ H → D.nx σ H) :
    ∃ j', [V.int j] = [V.int j'] ∧ -(2 ^ 62) ≤ j' ∧ j' < 2 ^ 62 ∧ ∃ W : Nat → Nat → L2.St → Hp → Prop, (∃ m, W 0 m σ H) ∧ ∀ i m σ H, W i m σ H →
      ((Itr 0 j'.toNat).stop i H ∧ D.nx σ H) ∨ ((Itr 0 j'.toNat).go i H ∧ ∃ N : L2.St → Hp → Prop, (∀ σ' H', N σ' H' → ∃ m', m' < m ∧ W (i + 1) m' σ' H') ∧ ∀ x H', (Itr 0 j'.toNat).yld i H x H' → g x σ H' fun σ2 H2 => tb { D with nx := N, ct := N, bk := D.nx } σ2 H2) := by
  subst e
  refine ⟨j, rfl, b.1, b.2, for_range (lo := 0) (n := j.toNat) Pv h0 (fun i σ H hi p => ?_) hd⟩
  have e : (0 : Int) + (i : Int) = (i : Int) := Int.zero_add _
  rw [e]
  exact hs i σ H hi p
/-- a loop over a list that stands still -/
theorem forL {a : Addr} {xs : List V} (Pv : Nat → L2.St → Hp → Prop) (hx : SqL K H a xs) (h0 : Pv 0 σ H) (hl : ∀ i σ H, i ≤ xs.length → Pv i σ H → SqL K H a xs)
    (hs : ∀ i x σ H, xs[i]? = some x → Pv i σ H → g x σ H fun σ2 H2 => tb ⟨Pv (i + 1), D.rt, D.nx, Pv (i + 1)⟩ σ2 H2) (hd : ∀ σ H, Pv xs.length σ H → D.nx σ H) :
    ∃ a', V.ref a = V.ref a' ∧ (∃ xs, SqL K H a' xs) ∧ ∃ W : Nat → Nat → L2.St → Hp → Prop, (∃ m, W 0 m σ H) ∧ ∀ i m σ H, W i m σ H →
      ((Itl K a').stop i H ∧ D.nx σ H) ∨ ((Itl K a').go i H ∧ ∃ N : L2.St → Hp → Prop, (∀ σ' H', N σ' H' → ∃ m', m' < m ∧ W (i + 1) m' σ' H') ∧ ∀ x H', (Itl K a').yld i H x H' → g x σ H' fun σ2 H2 => tb { D with nx := N, ct := N, bk := D.nx } σ2 H2) :=
  ⟨a, rfl, ⟨xs, hx⟩, for_list Pv h0 hl hs hd⟩
theorem forT {a : Addr} {xs : List V} (Pv : Nat → L2.St → Hp → Prop) (hx : SqT K H a xs) (h0 : Pv 0 σ H) (hl : ∀ i σ H, i ≤ xs.length → Pv i σ H → SqT K H a xs)
    (hs : ∀ i x σ H, xs[i]? = some x → Pv i σ H → g x σ H fun σ2 H2 => tb ⟨Pv (i + 1), D.rt, D.nx, Pv (i + 1)⟩ σ2 H2) (hd : ∀ σ H, Pv xs.length σ H → D.nx σ H) :
    ∃ a', V.ref a = V.ref a' ∧ (∃ xs, SqT K H a' xs) ∧ ∃ W : Nat → Nat → L2.St → Hp → Prop, (∃ m, W 0 m σ H) ∧ ∀ i m σ H, W i m σ H →
      ((Itt K a').stop i H ∧ D.nx σ H) ∨ ((Itt K a').go i H ∧ ∃ N : L2.St → Hp → Prop, (∀ σ' H', N σ' H' → ∃ m', m' < m ∧ W (i + 1) m' σ' H') ∧ ∀ x H', (Itt K a').yld i H x H' → g x σ H' fun σ2 H2 => tb { D with nx := N, ct := N, bk := D.nx } σ2 H2) :=
  ⟨a, rfl, ⟨xs, hx⟩, for_tup Pv h0 hl hs hd⟩
end
/-! ### isinstance, is None -/
theorem kit_int_int : kitB "int" "int" = some true := by decide +kernel
theorem kit_int_bool : kitB "int" "bool" = some false := by decide +kernel
theorem kit_int_str : kitB "int" "str" = some false := by decide +kernel
theorem kit_int_list : kitB "int" "list" = some false := by decide +kernel
theorem kit_int_tuple : kitB "int" "tuple" = some false := by decide +kernel
theorem kit_bool_int : kitB "bool" "int" = some true := by decide +kernel
theorem kit_bool_bool : kitB "bool" "bool" = some true := by decide +kernel
theorem kit_bool_str : kitB "bool" "str" = some false := by decide +kernel
theorem kit_bool_list : kitB "bool" "list" = some false := by decide +kernel
theorem kit_bool_tuple : kitB "bool" "tuple" = some false := by decide +kernel
theorem kit_str_int : kitB "str" "int" = some false := by decide +kernel
theorem kit_str_bool : kitB "str" "bool" = some false := by decide +kernel
theorem kit_str_str : kitB "str" "str" = some true := by decide +kernel
theorem kit_str_list : kitB "str" "list" = some false := by decide +kernel
theorem kit_str_tuple : kitB "str" "tuple" = some false := by decide +kernel
theorem kit_list_int : kitB "list" "int" = some false := by decide +kernel
theorem kit_list_bool : kitB "list" "bool" = some false := by decide +kernel
theorem kit_list_str : kitB "list" "str" = some false := by decide +kernel
theorem kit_list_list : kitB "list" "list" = some true := by decide +kernel
theorem kit_list_tuple : kitB "list" "tuple" = some false := by decide +kernel
theorem kit_tuple_int : kitB "tuple" "int" = some false := by decide +kernel
theorem kit_tuple_bool : kitB "tuple" "bool" = some false := by decide +kernel
theorem kit_tuple_str : kitB "tuple" "str" = some false := by decide +kernel
theorem kit_tuple_list : kitB "tuple" "list" = some false := by decide +kernel
theorem kit_tuple_tuple : kitB "tuple" "tuple" = some true := by decide +kernel
theorem kit_NoneType_int : kitB "NoneType" "int" = some false := by decide +kernel
theorem kit_NoneType_bool : kitB "NoneType" "bool" = some false := by decide +kernel
theorem kit_NoneType_str : kitB "NoneType" "str" = some false := by decide +kernel
theorem kit_NoneType_list : kitB "NoneType" "list" = some false := by decide +kernel
theorem kit_NoneType_tuple : kitB "NoneType" "tuple" = some false := by decide +kernel
section
variable {X : Cx} {K : PySem.W.Frag} {H : Hp} {Q : VK} {b : String} {r : Bool} {σ : L2.St}
theorem isiTy {x : V} {a : String} (t : TyX K H x (.type a)) (h : kitB a b = some r) (q : Q (.bl r) H) : rIsi K [x, .ty b] H Q := ⟨x, .ty b, _, _, r, rfl, .ty b, t, kit_ty h, q⟩
theorem isiI {i : Int} (h : kitB "int" b = some r) (q : Q (.bl r) H) : rIsi K [.int i, .ty b] H Q := isiTy (.base (.int i)) h q
theorem isiB {i : Bool} (h : kitB "bool" b = some r) (q : Q (.bl r) H) : rIsi K [.bl i, .ty b] H Q := isiTy (.base (.bl i)) h q
theorem isiS {i : Str} (h : kitB "str" b = some r) (q : Q (.bl r) H) : rIsi K [.str i, .ty b] H Q := isiTy (.base (.str i)) h q
theorem isiN (h : kitB "NoneType" b = some r) (q : Q (.bl r) H) : rIsi K [.non, .ty b] H Q := isiTy (.base .non) h q
theorem isiL {a : Addr} {xs : List V} (e : H a = some (.lst xs)) (h : kitB "list" b = some r) (q : Q (.bl r) H) : rIsi K [.ref a, .ty b] H Q := isiTy (.base (.lst e)) h q
theorem isiT {a : Addr} {xs : List V} (e : H a = some (.tup xs)) (h : kitB "tuple" b = some r) (q : Q (.bl r) H) : rIsi K [.ref a, .ty b] H Q := isiTy (.base (.tup e)) h q
def rIsNone : R2 := fun x y H Q => y = .non ∧ Q (.bl (decide (x = .non))) H
def rNotNone : R2 := fun x y H Q => y = .non ∧ Q (.bl (!decide (x = .non))) H
theorem o_isN : OpR X (compareOp .Is) rIsNone := op_isN
theorem o_notN : OpR X (compareOp .IsNot) rNotNone := op_notN
theorem rIsN_n (q : Q (.bl true) H) : rIsNone .non .non H Q := ⟨rfl, q⟩
theorem rIsN_i {i : Int} (q : Q (.bl false) H) : rIsNone (.int i) .non H Q := ⟨rfl, q⟩
theorem rIsN_b {i : Bool} (q : Q (.bl false) H) : rIsNone (.bl i) .non H Q := ⟨rfl, q⟩
theorem rIsN_s {i : Str} (q : Q (.bl false) H) : rIsNone (.str i) .non H Q := ⟨rfl, q⟩
theorem rIsN_r {i : Addr} (q : Q (.bl false) H) : rIsNone (.ref i) .non H Q := ⟨rfl, q⟩
theorem rNoN_n (q : Q (.bl false) H) : rNotNone .non .non H Q := ⟨rfl, q⟩
theorem rNoN_i {i : Int} (q : Q (.bl true) H) : rNotNone (.int i) .non H Q := ⟨rfl, q⟩
theorem rNoN_b {i : Bool} (q : Q (.bl true) H) : rNotNone (.bl i) .non H Q := ⟨rfl, q⟩
theorem rNoN_s {i : Str} (q : Q (.bl true) H) : rNotNone (.str i) .non H Q := ⟨rfl, q⟩
theorem rNoN_r {i : Addr} (q : Q (.bl true) H) : rNotNone (.ref i) .non H Q := ⟨rfl, q⟩
theorem rIxSL {a : Addr} {xs : List V} {i : Int} {v : V} (h1 : H a = some (.lst xs)) (h2 : atI xs i = some v) (h : Q v H) : rIx K (.ref a) (.int i) H Q := .inl ⟨a, xs, i, v, rfl, rfl, SqL.of h1, h2, h⟩
theorem rIxST {a : Addr} {xs : List V} {i : Int} {v : V} (h1 : H a = some (.tup xs)) (h2 : atI xs i = some v) (h : Q v H) : rIx K (.ref a) (.int i) H Q := .inr (.inl ⟨a, xs, i, v, rfl, rfl, SqT.of h1, h2, h⟩)
theorem rEqS {s : Str} (q : Q (.bl true) H) : rEq (.str s) (.str s) H Q := ⟨rfl, by
  rw [decide_eq_true rfl]
  exact q⟩
theorem fn_false {P : Program} {w : World} {mg : Str → Option Value} {base : Heap} {k : Nat} {f : Addr} {fd : FuncData} {ps : List Str} {sp : Sp} (h : ∀ vs H Q E, ¬ sp vs H Q E) : FnOk P w K mg base CX0 k f fd ps sp :=
  ⟨fun _ _ _ _ q => (h _ _ _ _ q).elim, fun _ _ _ _ _ _ _ _ _ _ _ _ _ q => (h _ _ _ _ q).elim⟩
end
/-! ### the steps that ask nothing, found by their form -/
class Rd (p : Prop) (q : outParam Prop) : Prop where
  imp : q → p
theorem rd {p q : Prop} [h : Rd p q] (x : q) : p := h.imp x
/-- what stands in a slot -/
class At (σ : L2.St) (i : Nat) (v : outParam V) : Prop where
  eq : σ[i]? = some (some v)
instance {v : V} {σ : L2.St} : At (some v :: σ) 0 v := ⟨rfl⟩
instance {v : V} {a : Option V} {σ : L2.St} {i : Nat} [h : At σ i v] : At (a :: σ) (i + 1) v := ⟨h.eq⟩
class Put (σ : L2.St) (i : Nat) (v : V) (τ : outParam L2.St) : Prop where
  eq : σ.set i (some v) = τ
instance {v : V} {a : Option V} {σ : L2.St} : Put (a :: σ) 0 v (some v :: σ) := ⟨rfl⟩
instance {v : V} {a : Option V} {σ τ : L2.St} {i : Nat} [h : Put σ i v τ] : Put (a :: σ) (i + 1) v (a :: τ) := ⟨congrArg (List.cons a) h.eq⟩
section
variable {D : Ends} {σ τ : L2.St} {H : Hp} {Q : VK} {QB : Bool → Hp → Prop} {QL : List V → Hp → Prop} {QS : L2.St → Hp → Prop} {QI : It → Hp → Prop} {QO : Option Int → Hp → Prop} {t u : TS} {te ta tb tc : TE} {tt tu : TT} {g : TG} {v x y : V} {i j : Int} {n : Nat} {K : PySem.W.Frag}
instance : Rd (tSeq t u D σ H) (t ⟨u D, D.rt, D.bk, D.ct⟩ σ H) := ⟨fun h => h⟩
instance : Rd (tNext D σ H) (D.nx σ H) := ⟨fun h => h⟩
instance : Rd (tBreak D σ H) (D.bk σ H) := ⟨fun h => h⟩
instance : Rd (tCont D σ H) (D.ct σ H) := ⟨fun h => h⟩
instance {f b c : L2.St → Hp → Prop} {r : VK} : Rd (Ends.nx ⟨f, r, b, c⟩ σ H) (f σ H) := ⟨fun h => h⟩
instance {f b c : L2.St → Hp → Prop} {r : VK} : Rd (Ends.ct ⟨f, r, b, c⟩ σ H) (c σ H) := ⟨fun h => h⟩
instance {f b c : L2.St → Hp → Prop} {r : VK} : Rd (Ends.bk ⟨f, r, b, c⟩ σ H) (b σ H) := ⟨fun h => h⟩
instance {f b c : L2.St → Hp → Prop} {r : VK} : Rd (Ends.rt ⟨f, r, b, c⟩ v H) (r v H) := ⟨fun h => h⟩
instance : Rd (tAsg te g D σ H) (te σ H fun x H1 => g x σ H1 D.nx) := ⟨fun h => h⟩
instance : Rd (tDrop te D σ H) (te σ H fun _ H1 => D.nx σ H1) := ⟨fun h => h⟩
instance : Rd (tRet te D σ H) (te σ H D.rt) := ⟨fun h => h⟩
instance : Rd (tRetN D σ H) (D.rt .non H) := ⟨fun h => h⟩
instance : Rd (tIfS tt t u D σ H) (tt σ H fun b H1 => if b = true then t D σ H1 else u D σ H1) := ⟨fun h => h⟩
instance [h : At σ n v] : Rd (tVar n σ H Q) (Q v H) := ⟨fun q => ⟨v, h.eq, q⟩⟩
instance [h : Put σ n v τ] : Rd (gName n v σ H QS) (QS τ H) := ⟨fun q => by rw [← h.eq] at q; exact q⟩
instance : Rd (tC v σ H Q) (Q v H) := ⟨fun h => h⟩
instance {r : R2} : Rd (tOp r ta tb σ H Q) (ta σ H fun x H1 => tb σ H1 fun y H2 => r x y H2 Q) := ⟨fun h => h⟩
instance {r : V → Hp → VK → Prop} : Rd (tUn r ta σ H Q) (ta σ H fun x H1 => r x H1 Q) := ⟨fun h => h⟩
instance {f : Int → Int → V} : Rd (rI0 f (.int i) (.int j) H Q) (Q (f i j) H) := ⟨rI0_⟩
instance {f : Int → V} : Rd (rU f (.int i) H Q) (Q (f i) H) := ⟨rU_⟩
instance : Rd (rEq (.int i) (.int j) H Q) (Q (.bl (decide (i = j))) H) := ⟨rEqI⟩
instance : Rd (rNe (.int i) (.int j) H Q) (Q (.bl (!decide (i = j))) H) := ⟨rNeI⟩
instance {a b : Bool} : Rd (rEq (.bl a) (.bl b) H Q) (Q (.bl (a == b)) H) := ⟨rEqBl⟩
instance {a b : Bool} : Rd (rNe (.bl a) (.bl b) H Q) (Q (.bl (!(a == b))) H) := ⟨rNeBl⟩
instance {s : Str} : Rd (rEq (.str s) (.str s) H Q) (Q (.bl true) H) := ⟨rEqS⟩
instance : Rd (tTest te σ H QB) (te σ H fun x H' => ∃ k, x = .bl k ∧ QB k H') := ⟨fun h => h⟩
instance : Rd (tB te σ H QB) (te σ H fun x H' => ∃ k, x = .bl k ∧ QB k H') := ⟨fun h => h⟩
instance {b : Bool} {P : Bool → Prop} : Rd (∃ k, V.bl b = .bl k ∧ P k) (P b) := ⟨rBl⟩
instance {P : Int → Prop} : Rd (∃ k, V.int i = .int k ∧ P k) (P i) := ⟨rInI⟩
instance : Rd (tNot tt σ H QB) (tt σ H fun c H1 => QB (!c) H1) := ⟨fun h => h⟩
instance : Rd (tAnd tt tu σ H QB) (tt σ H fun c H1 => if c = true then tu σ H1 QB else QB false H1) := ⟨fun h => h⟩
instance : Rd (tOr tt tu σ H QB) (tt σ H fun c H1 => if c = true then QB true H1 else tu σ H1 QB) := ⟨fun h => h⟩
instance : Rd (tAndV ta tb σ H Q) (ta σ H fun x H1 => ∃ c, x = .bl c ∧ if c = true then tb σ H1 Q else Q (.bl false) H1) := ⟨fun h => h⟩
instance : Rd (tOrV ta tb σ H Q) (ta σ H fun x H1 => ∃ c, x = .bl c ∧ if c = true then Q (.bl true) H1 else tb σ H1 Q) := ⟨fun h => h⟩
instance : Rd (tNotV ta σ H Q) (ta σ H fun x H1 => ∃ c, x = .bl c ∧ Q (.bl (!c)) H1) := ⟨fun h => h⟩
instance : Rd (tIf tt ta tb σ H Q) (tt σ H fun c H1 => if c = true then ta σ H1 Q else tb σ H1 Q) := ⟨fun h => h⟩
instance {r : List V → Hp → VK → Prop} {t : TA} : Rd (tCB r t σ H Q) (t σ H fun vs H1 => r vs H1 Q) := ⟨fun h => h⟩
instance : Rd (tNil σ H QL) (QL [] H) := ⟨fun h => h⟩
instance {t : TA} : Rd (tCons te t σ H QL) (te σ H fun x H1 => t σ H1 fun xs H2 => QL (x :: xs) H2) := ⟨fun h => h⟩
instance {t : TA} : Rd (tTup t σ H Q) (t σ H fun xs H1 => xs.length ≤ sizeLine ∧ ∀ p, H1 p = none → Q (.ref p) (upd H1 p (.tup xs))) := ⟨fun h => h⟩
instance {t : TA} : Rd (tLst t σ H Q) (t σ H fun xs H1 => xs.length ≤ sizeLine ∧ ∀ p, H1 p = none → Q (.ref p) (upd H1 p (.lst xs))) := ⟨fun h => h⟩
instance {sp : Sp} {dvs : List V} {E : XK} {t : TA} : Rd (tCall sp dvs E t σ H Q) (t σ H fun vs H1 => sp (vs ++ dvs) H1 Q E) := ⟨fun h => h⟩
instance {C : Addr} {sp : Sp} {dvs : List V} {E : XK} {t : TA} : Rd (tMake C sp dvs E t σ H Q) (t σ H fun vs H1 => ∀ x dx, H1 x = none → H1 dx = none → dx ≠ x → sp (.ref x :: (vs ++ dvs)) (upd (upd H1 dx (.own x)) x (.ins C dx [])) (fun v H2 => v = .non ∧ Q (.ref x) H2) E) := ⟨fun h => h⟩
instance {C : Addr} {m : Str} {sp : Sp} {dvs : List V} {E : XK} {t : TA} : Rd (tMeth C m sp dvs E ta t σ H Q) (ta σ H fun x H1 => ∃ a dx fs, x = .ref a ∧ H1 a = some (.ins C dx fs) ∧ fs.lookup m = none ∧ t σ H1 fun vs H2 => sp (x :: (vs ++ dvs)) H2 Q E) := ⟨fun h => h⟩
instance {f : Str} : Rd (tFld K te f σ H Q) (te σ H fun x H1 => ∃ a C dx fs v, x = .ref a ∧ H1 a = some (.ins C dx fs) ∧ Cls K C ∧ NoAttr K C f ∧ fs.lookup f = some v ∧ Q v H1) := ⟨fun h => h⟩
instance {f : Str} : Rd (sFld K ta te f D σ H) (te σ H fun y H1 => ta σ H1 fun x H2 => ∃ a C dx fs, x = .ref a ∧ H2 a = some (.ins C dx fs) ∧ Cls K C ∧ NoAttr K C f ∧ fs.length < 1000 ∧ D.nx σ (upd H2 a (.ins C dx (putF f y fs)))) := ⟨fun h => h⟩
instance {r r' : R2} : Rd (tChain r r' ta tb tc σ H Q) (ta σ H fun x H1 => tb σ H1 fun y H2 => r x y H2 fun z H3 => ∃ k, z = .bl k ∧ (if k = true then tc σ H3 fun w' H4 => r' y w' H4 Q else Q (.bl false) H3)) := ⟨fun h => h⟩
instance : Rd (rInt [.int i] H Q) (Q (.int i) H) := ⟨rInt_⟩
instance : Rd (rAbs [.int i] H Q) (Q (.int (if i < 0 then -i else i)) H) := ⟨rAbs_⟩
instance {to ti : TE} {t : TSet} : Rd (gSub to ti t v σ H QS) (to σ H fun o H1 => ti σ H1 fun i H2 => t o i v H2 fun H3 => QS σ H3) := ⟨fun h => h⟩
instance {T : String} {r : V → List V → Hp → VK → Prop} {to : TE} {t : TA} : Rd (tBM K T r to t σ H Q) (to σ H fun x H1 => tyV K T x H1 ∧ t σ H1 fun xs H2 => r x xs H2 Q) := ⟨fun h => h⟩
instance {T : String} {r : V → List V → Hp → VK → Prop} {to : TE} : Rd (tBM0 K T r to σ H Q) (to σ H fun x H1 => tyV K T x H1 ∧ r x [] H1 Q) := ⟨fun h => h⟩
instance {r : V → Option Int → Option Int → Hp → VK → Prop} {tl th : TO} : Rd (tSl r te tl th σ H Q) (te σ H fun x H1 => tl σ H1 fun l H2 => th σ H2 fun u H3 => r x l u H3 Q) := ⟨fun h => h⟩
instance : Rd (tNoPart σ H QO) (QO none H) := ⟨fun h => h⟩
instance : Rd (tPart te σ H QO) (te σ H fun x H1 => ∃ i, x = .int i ∧ QO (some i) H1) := ⟨fun h => h⟩
instance {wi : TI} : Rd (tFor wi g t D σ H) (wi σ H fun J H1 => ∃ W : Nat → Nat → L2.St → Hp → Prop, (∃ m, W 0 m σ H1) ∧ ∀ i m σ H, W i m σ H →
  (J.stop i H ∧ D.nx σ H) ∨ (J.go i H ∧ ∃ N : L2.St → Hp → Prop, (∀ σ' H', N σ' H' → ∃ m', m' < m ∧ W (i + 1) m' σ' H') ∧ ∀ x H', J.yld i H x H' → g x σ H' fun σ2 H2 => t { D with nx := N, ct := N, bk := D.nx } σ2 H2)) := ⟨fun h => h⟩
instance {ta : TA} : Rd (iRng1 ta σ H QI) (ta σ H fun vs H1 => ∃ j : Int, vs = [.int j] ∧ -(2 ^ 62) ≤ j ∧ j < 2 ^ 62 ∧ QI (Itr 0 j.toNat) H1) := ⟨fun h => h⟩
instance {ta : TA} : Rd (iRng2 ta σ H QI) (ta σ H fun vs H1 => ∃ i j : Int, vs = [.int i, .int j] ∧ (-(2 ^ 62) ≤ i ∧ i < 2 ^ 62 ∧ -(2 ^ 62) ≤ j ∧ j < 2 ^ 62) ∧ QI (Itr i (j - i).toNat) H1) := ⟨fun h => h⟩
instance : Rd (iList K te σ H QI) (te σ H fun x H1 => ∃ a, x = .ref a ∧ (∃ xs, SqL K H1 a xs) ∧ QI (Itl K a) H1) := ⟨fun h => h⟩
instance : Rd (iTup K te σ H QI) (te σ H fun x H1 => ∃ a, x = .ref a ∧ (∃ xs, SqT K H1 a xs) ∧ QI (Itt K a) H1) := ⟨fun h => h⟩
instance : Rd (rIsNone .non .non H Q) (Q (.bl true) H) := ⟨rIsN_n⟩
instance : Rd (rIsNone (.int i) .non H Q) (Q (.bl false) H) := ⟨rIsN_i⟩
instance {b : Bool} : Rd (rIsNone (.bl b) .non H Q) (Q (.bl false) H) := ⟨rIsN_b⟩
instance {b : Str} : Rd (rIsNone (.str b) .non H Q) (Q (.bl false) H) := ⟨rIsN_s⟩
instance {b : Addr} : Rd (rIsNone (.ref b) .non H Q) (Q (.bl false) H) := ⟨rIsN_r⟩
instance : Rd (rNotNone .non .non H Q) (Q (.bl false) H) := ⟨rNoN_n⟩
instance : Rd (rNotNone (.int i) .non H Q) (Q (.bl true) H) := ⟨rNoN_i⟩
instance {b : Bool} : Rd (rNotNone (.bl b) .non H Q) (Q (.bl true) H) := ⟨rNoN_b⟩
instance {b : Str} : Rd (rNotNone (.str b) .non H Q) (Q (.bl true) H) := ⟨rNoN_s⟩
instance {b : Addr} : Rd (rNotNone (.ref b) .non H Q) (Q (.bl true) H) := ⟨rNoN_r⟩
instance : Rd (rIsi K [.int i, .ty "int"] H Q) (Q (.bl true) H) := ⟨isiI kit_int_int⟩
instance : Rd (rIsi K [.int i, .ty "bool"] H Q) (Q (.bl false) H) := ⟨isiI kit_int_bool⟩
instance : Rd (rIsi K [.int i, .ty "str"] H Q) (Q (.bl false) H) := ⟨isiI kit_int_str⟩
instance : Rd (rIsi K [.int i, .ty "list"] H Q) (Q (.bl false) H) := ⟨isiI kit_int_list⟩
instance : Rd (rIsi K [.int i, .ty "tuple"] H Q) (Q (.bl false) H) := ⟨isiI kit_int_tuple⟩
instance {bb : Bool} : Rd (rIsi K [.bl bb, .ty "int"] H Q) (Q (.bl true) H) := ⟨isiB kit_bool_int⟩
instance {bb : Bool} : Rd (rIsi K [.bl bb, .ty "bool"] H Q) (Q (.bl true) H) := ⟨isiB kit_bool_bool⟩
instance {bb : Bool} : Rd (rIsi K [.bl bb, .ty "str"] H Q) (Q (.bl false) H) := ⟨isiB kit_bool_str⟩
instance {bb : Bool} : Rd (rIsi K [.bl bb, .ty "list"] H Q) (Q (.bl false) H) := ⟨isiB kit_bool_list⟩
instance {bb : Bool} : Rd (rIsi K [.bl bb, .ty "tuple"] H Q) (Q (.bl false) H) := ⟨isiB kit_bool_tuple⟩
instance {ss : Str} : Rd (rIsi K [.str ss, .ty "int"] H Q) (Q (.bl false) H) := ⟨isiS kit_str_int⟩
instance {ss : Str} : Rd (rIsi K [.str ss, .ty "bool"] H Q) (Q (.bl false) H) := ⟨isiS kit_str_bool⟩
instance {ss : Str} : Rd (rIsi K [.str ss, .ty "str"] H Q) (Q (.bl true) H) := ⟨isiS kit_str_str⟩
instance {ss : Str} : Rd (rIsi K [.str ss, .ty "list"] H Q) (Q (.bl false) H) := ⟨isiS kit_str_list⟩
instance {ss : Str} : Rd (rIsi K [.str ss, .ty "tuple"] H Q) (Q (.bl false) H) := ⟨isiS kit_str_tuple⟩
instance : Rd (rIsi K [.non, .ty "int"] H Q) (Q (.bl false) H) := ⟨isiN kit_NoneType_int⟩
instance : Rd (rIsi K [.non, .ty "bool"] H Q) (Q (.bl false) H) := ⟨isiN kit_NoneType_bool⟩
instance : Rd (rIsi K [.non, .ty "str"] H Q) (Q (.bl false) H) := ⟨isiN kit_NoneType_str⟩
instance : Rd (rIsi K [.non, .ty "list"] H Q) (Q (.bl false) H) := ⟨isiN kit_NoneType_list⟩
instance : Rd (rIsi K [.non, .ty "tuple"] H Q) (Q (.bl false) H) := ⟨isiN kit_NoneType_tuple⟩
theorem iteLit : True := trivial
instance {A B : Prop} {d : Decidable ((true) = true)} : Rd (@ite Prop ((true) = true) d A B) A := ⟨fun h => by rw [if_pos (show _ from by first | rfl | (intro z; cases z))]; exact h⟩
instance {A B : Prop} {d : Decidable ((false) = true)} : Rd (@ite Prop ((false) = true) d A B) B := ⟨fun h => by rw [if_neg (show _ from by first | rfl | (intro z; cases z))]; exact h⟩
instance {A B : Prop} {d : Decidable ((!true) = true)} : Rd (@ite Prop ((!true) = true) d A B) B := ⟨fun h => by rw [if_neg (show _ from by first | rfl | (intro z; cases z))]; exact h⟩
instance {A B : Prop} {d : Decidable ((!false) = true)} : Rd (@ite Prop ((!false) = true) d A B) A := ⟨fun h => by rw [if_pos (show _ from by first | rfl | (intro z; cases z))]; exact h⟩
instance {A B : Prop} {d : Decidable ((true == true) = true)} : Rd (@ite Prop ((true == true) = true) d A B) A := ⟨fun h => by rw [if_pos (show _ from by first | rfl | (intro z; cases z))]; exact h⟩
instance {A B : Prop} {d : Decidable ((!(true == true)) = true)} : Rd (@ite Prop ((!(true == true)) = true) d A B) B := ⟨fun h => by rw [if_neg (show _ from by first | rfl | (intro z; cases z))]; exact h⟩
instance {A B : Prop} {d : Decidable ((true == false) = true)} : Rd (@ite Prop ((true == false) = true) d A B) B := ⟨fun h => by rw [if_neg (show _ from by first | rfl | (intro z; cases z))]; exact h⟩
instance {A B : Prop} {d : Decidable ((!(true == false)) = true)} : Rd (@ite Prop ((!(true == false)) = true) d A B) A := ⟨fun h => by rw [if_pos (show _ from by first | rfl | (intro z; cases z))]; exact h⟩
instance {A B : Prop} {d : Decidable ((false == true) = true)} : Rd (@ite Prop ((false == true) = true) d A B) B := ⟨fun h => by rw [if_neg (show _ from by first | rfl | (intro z; cases z))]; exact h⟩
instance {A B : Prop} {d : Decidable ((!(false == true)) = true)} : Rd (@ite Prop ((!(false == true)) = true) d A B) A := ⟨fun h => by rw [if_pos (show _ from by first | rfl | (intro z; cases z))]; exact h⟩
instance {A B : Prop} {d : Decidable ((false == false) = true)} : Rd (@ite Prop ((false == false) = true) d A B) A := ⟨fun h => by rw [if_pos (show _ from by first | rfl | (intro z; cases z))]; exact h⟩
instance {A B : Prop} {d : Decidable ((!(false == false)) = true)} : Rd (@ite Prop ((!(false == false)) = true) d A B) B := ⟨fun h => by rw [if_neg (show _ from by first | rfl | (intro z; cases z))]; exact h⟩
end
end Bar

namespace Bar
open PySem PySem.W PySem.Calls PyProof.Rows
section
variable {prog : Program} {w : World} {A : Around} {E : Value → Shared → Prop} {s : Shared} {i : Int} {t : Tok} {x : Addr} {ob : Obj} {Q : Value → Shared → Prop}
theorem int_no_floordiv (hx : s.heap.get? x = some ob) (hd : ob.data = .plain) (h : Q .notImplemented s) : wpAny (model prog w) A (call (.builtin "int.__floordiv__") [.int i t, .ref x]) Q E s := by
  refine GQ.call_here PySem.F.slot_int_floordiv (typeIs_int _ _ _) PySem.F.entry_int_floordiv (PySem.F.args_int_floordiv_2 _ _) ?_
  obtain ⟨hp, g, d, tk, os⟩ := s
  obtain ⟨c, dd, dt, sl⟩ := ob
  simp only at hd
  subst hd
  wp_walk using AutoSeq1.wpAny_loadPart' hx
  exact h
theorem int_no_mod (hx : s.heap.get? x = some ob) (hd : ob.data = .plain) (h : Q .notImplemented s) : wpAny (model prog w) A (call (.builtin "int.__mod__") [.int i t, .ref x]) Q E s := by
  refine GQ.call_here PySem.F.slot_int_mod (typeIs_int _ _ _) PySem.F.entry_int_mod (PySem.F.args_int_mod_2 _ _) ?_
  obtain ⟨hp, g, d, tk, os⟩ := s
  obtain ⟨c, dd, dt, sl⟩ := ob
  simp only at hd
  subst hd
  wp_walk using AutoSeq1.wpAny_loadPart' hx
  exact h
theorem int_no_add (hx : s.heap.get? x = some ob) (hd : ob.data = .plain) (h : Q .notImplemented s) : wpAny (model prog w) A (call (.builtin "int.__add__") [.int i t, .ref x]) Q E s := by
  refine GQ.call_here PySem.F.slot_int_add (typeIs_int _ _ _) PySem.F.entry_int_add (PySem.F.args_int_add_2 _ _) ?_
  obtain ⟨hp, g, d, tk, os⟩ := s
  obtain ⟨c, dd, dt, sl⟩ := ob
  simp only at hd
  subst hd
  wp_walk using AutoSeq1.wpAny_loadPart' hx
  exact h
theorem int_no_mul (hx : s.heap.get? x = some ob) (hd : ob.data = .plain) (h : Q .notImplemented s) : wpAny (model prog w) A (call (.builtin "int.__mul__") [.int i t, .ref x]) Q E s := by
  refine GQ.call_here PySem.F.slot_int_mul (typeIs_int _ _ _) PySem.F.entry_int_mul (PySem.F.args_int_mul_2 _ _) ?_
  obtain ⟨hp, g, d, tk, os⟩ := s
  obtain ⟨c, dd, dt, sl⟩ := ob
  simp only at hd
  subst hd
  wp_walk using AutoSeq1.wpAny_loadPart' hx
  exact h
end
theorem fillsR {M : Model} {K : Frag} {C f : Addr} {h : Heap} {nm : String} {cd : ClassData} {rest : List Value} {fo : Option Value} (X : K.In h) (hc : clsIn K C = some cd) (hm : cd.mro = .ref C :: rest)
    (hfo : findIn K (.ref C) (PySem.dunder nm) = some fo) (ho : fo = none ∨ ∃ g : Addr, fo = some (.ref g)) (hr : findIn K (.ref C) (dunderR nm) = some (some (.ref f))) : Looks M h (fillsNumberSlot (.ref C) nm) true := by
  intro A Q E s k q
  unfold fillsNumberSlot
  refine wpAny_bind ((looks_clsIn X hc).andThen (f := fun cd => pure cd.mro) .now A _ E s k ?_)
  rw [hm, List.anyM_cons]
  refine wpAny_bind ?_
  show wpAny M A (List.anyM _ [PySem.dunder nm, dunderR nm]) _ _ _
  rw [List.anyM_cons]
  refine wpAny_bind (wpAny_bind (looks_findIn X hfo A _ E s k ?_))
  rcases ho with rfl | ⟨g, rfl⟩
  · dsimp only
    refine wpAny_pure ?_
    rw [if_neg (by simp), List.anyM_cons]
    refine wpAny_bind (wpAny_bind (looks_findIn X hr A _ E s k ?_))
    dsimp only
    rw [if_pos (show (!ownNameWrapper (.ref f) (dunderR nm)) = true from rfl)]
    refine wpAny_pure ?_
    rw [if_pos rfl]
    refine wpAny_pure ?_
    rw [if_pos rfl]
    exact wpAny_pure q
  · dsimp only
    rw [if_pos (show (!ownNameWrapper (.ref g) (PySem.dunder nm)) = true from rfl)]
    refine wpAny_pure ?_
    rw [if_pos rfl]
    refine wpAny_pure ?_
    rw [if_pos rfl]
    exact wpAny_pure q
theorem own_right {prog : Program} {w : World} {A : Around} {E : Value → Shared → Prop} {s : Shared} {K : Frag} {x C L f : Addr} {h₀ : Heap} {m : Str → Option Value} {ox : Obj} {od : Option Obj} {i : Int} {t : Tok} {op : Operator} {fo : Option Value} {idl : String} {Q : Value → Shared → Prop}
    (F : Fr h₀ L s.heap m) (X₀ : K.In h₀) (I : InstAt s.heap x ox C od) (hc : selfFirst K C = true) (hfo : findIn K (.ref C) (PySem.dunder op.info.2) = some fo) (ho : fo = none ∨ ∃ g : Addr, fo = some (.ref g))
    (hr : findIn K (.ref C) (dunderR op.info.2) = some (some (.ref f))) (hf : isFn K (.ref f) = true) (hsub : subIn K (.ref C) (.type "int") = some false)
    (fillsT : fillsNumberSlot (.type "int") op.info.2 = pure true) (slot : Slot "int" (PySem.dunder op.info.2) idl)
    (dec : ∀ Q' : Value → Shared → Prop, Q' .notImplemented s → wpAny (model prog w) A (call (.builtin idl) [.int i t, .ref x]) Q' E s)
    (h : wpAny (model prog w) A (call (.ref f) [.ref x, .int i t]) (PySem.W.CmpBack Q) E s) : wpAny (model prog w) A (binaryOp op (.int i t) (.ref x)) Q E s := by
  have X := X₀.keeps F.keep
  obtain ⟨cd, rest, hcd, hm⟩ := ksp_first hc
  rcases hi : op.info with ⟨sym, nm'⟩
  rw [hi] at hfo hr fillsT slot
  dsimp only at hfo hr fillsT slot
  have one := ksp_try X I hr hf h
  have two : wpAny (model prog w) A (tryMethod (.int i t) (PySem.dunder nm') (.ref x)) (fun r s' => r = none ∧ s' = s) E s :=
    wpAny_tryMethod_declines (typeIs_int _ _ _) slot (dec _ ⟨rfl, rfl, rfl⟩)
  obtain ⟨hh, g, d, tt, os⟩ := s
  have L2 : Looks (model prog w) hh (typeOf (.ref x)) (.ref C) := I.type
  have L3 : Looks (model prog w) hh (fillsNumberSlot (.ref C) nm') true := fillsR X hcd hm hfo ho hr
  have L5 : Looks (model prog w) hh (isSubtype (.ref C) (.type "int")) false := looks_subIn X hsub
  have hne : (Value.type "int" == Value.ref C) = false := Bool.eq_false_iff.mpr fun q => by cases beq_iff_eq.mp q
  have hpy : numberSlotInPython (.type "int") nm' = pure false := rfl
  simp only [binaryOp, hi]
  refine wpAny_holding (wpAny_bind ?_)
  unfold binaryOp1
  refine wpAny_bind (wpAny_typeOf (typeIs_int _ _ _) (wpAny_bind (L2.at (wpAny_bind (wpAny_of_eq fillsT ?_)))))
  simp only [hne, Bool.false_eq_true, if_false]
  refine wpAny_bind (L3.at ?_)
  simp only [Bool.and_self, if_true]
  refine wpAny_bind (L5.at ?_)
  simp only [Bool.false_eq_true, if_false, pure_bind, Bool.not_false, Bool.and_self, if_true, hpy]
  refine wpAny_bind (wpAny_mono two (fun r s1 hr1 => ?_) fun _ _ e => e)
  obtain ⟨rfl, rfl⟩ := hr1
  dsimp only
  refine wpAny_bind (wpAny_mono one (fun r s2 hr2 => ?_) fun _ _ e => e)
  obtain ⟨v, rfl, hq⟩ := hr2
  dsimp only
  exact wpAny_bind (wpAny_rule (wpAny_pure (wpAny_pure hq)))
end Bar

namespace Bar
open PySem L2
theorem relV_back {v : V} {u : Value} {Q : Value → Shared → Prop} {s : Shared} (r : RelV v u) (h : Q u s) : PySem.W.CmpBack Q u s := by
  cases v with
  | non => cases (show u = Value.none from r); exact h
  | bl b => cases (show u = Value.bool b from r); exact h
  | int i => obtain ⟨t, rfl⟩ := (show ∃ t, u = Value.int i t from r); exact h
  | str i => obtain ⟨t, rfl⟩ := (show ∃ t, u = Value.str i t from r); exact h
  | byt i => obtain ⟨t, rfl⟩ := (show ∃ t, u = Value.bytes i t from r); exact h
  | flt i => obtain ⟨t, rfl⟩ := (show ∃ t, u = Value.float i t from r); exact h
  | ref i => cases (show u = Value.ref i from r); exact h
  | ty n => cases (show u = Value.type n from r); exact h
def oi (op : Operator) : String := op.info.2
/-- what the written part says of an own operator beside an int -/
structure OwnL (K : PySem.W.Frag) (C : Addr) (op : Operator) (f : Addr) : Prop where
  sf : PySem.W.selfFirst K C = true
  find : PySem.W.findIn K (.ref C) (PySem.dunder op.info.2) = some (some (.ref f))
  fn : PySem.W.isFn K (.ref f) = true
  rr : ∃ rc, PySem.W.findIn K (.ref C) (dunderR op.info.2) = some rc ∧ (rc = none ∨ ∃ g : Addr, rc = some (.ref g))
  i1 : ∃ fo, PySem.W.findIn K (.type "int") (PySem.dunder op.info.2) = some fo
  i2 : ∃ ro, PySem.W.findIn K (.type "int") (dunderR op.info.2) = some ro
  sub : PySem.W.subIn K (.type "int") (.ref C) = some false
structure OwnR (K : PySem.W.Frag) (C : Addr) (op : Operator) (f : Addr) : Prop where
  sf : PySem.W.selfFirst K C = true
  find : PySem.W.findIn K (.ref C) (dunderR op.info.2) = some (some (.ref f))
  fn : PySem.W.isFn K (.ref f) = true
  ll : ∃ rc, PySem.W.findIn K (.ref C) (PySem.dunder op.info.2) = some rc ∧ (rc = none ∨ ∃ g : Addr, rc = some (.ref g))
  sub : PySem.W.subIn K (.ref C) (.type "int") = some false
/-- how an int declines -/
structure IntNo (op : Operator) : Prop where
  fills : fillsNumberSlot (.type "int") op.info.2 = pure true
  ex : ∃ idl, Slot "int" (PySem.dunder op.info.2) idl ∧ ∀ {prog : Program} {w : World} {A : Around} {E : Value → Shared → Prop} {s : Shared} {i : Int} {t : Tok} {x : Addr} {ob : Obj} {Q : Value → Shared → Prop}, s.heap.get? x = some ob → ob.data = .plain → Q .notImplemented s →
    wpAny (model prog w) A (call (.builtin idl) [.int i t, .ref x]) Q E s
theorem no_floordiv : IntNo .FloorDiv := ⟨PySem.F.fills_int_floordiv, _, PySem.F.slot_int_floordiv, fun hx hd h => int_no_floordiv hx hd h⟩
theorem no_mod : IntNo .Mod := ⟨PySem.F.fills_int_mod, _, PySem.F.slot_int_mod, fun hx hd h => int_no_mod hx hd h⟩
theorem no_add : IntNo .Add := ⟨PySem.F.fills_int_add, _, PySem.F.slot_int_add, fun hx hd h => int_no_add hx hd h⟩
theorem no_mul : IntNo .Mult := ⟨PySem.F.fills_int_mul, _, PySem.F.slot_int_mul, fun hx hd h => int_no_mul hx hd h⟩
/-- o op n, n op o -/
def rOwnL (C : Addr) (sp : Sp) : R2 := fun x y H Q => ∃ a dx fs i, x = .ref a ∧ y = .int i ∧ H a = some (.ins C dx fs) ∧ sp [x, y] H Q E0
def rOwnR (C : Addr) (sp : Sp) : R2 := fun x y H Q => ∃ a dx fs i, y = .ref a ∧ x = .int i ∧ H a = some (.ins C dx fs) ∧ sp [y, x] H Q E0
structure OprL (P : Program) (w : World) (K : PySem.W.Frag) (mg : Str → Option Value) (base : Heap) (C : Addr) (op : Operator) (ps : List Str) (k : Nat) (sp : Sp) : Prop where
  ex : ∃ (f : Addr) (fd : FuncData), OwnL K C op f ∧ Binds K fd ps [] ∧ FnOk P w K mg base CX0 k f fd ps sp
structure OprR (P : Program) (w : World) (K : PySem.W.Frag) (mg : Str → Option Value) (base : Heap) (C : Addr) (op : Operator) (ps : List Str) (k : Nat) (sp : Sp) : Prop where
  ex : ∃ (f : Addr) (fd : FuncData), OwnR K C op f ∧ Binds K fd ps [] ∧ FnOk P w K mg base CX0 k f fd ps sp
section
variable {X : Cx} {C f : Addr} {ps : List Str} {k : Nat} {sp : Sp} {op : Operator}
theorem op_L (F : OprL X.prog X.w X.K X.mg X.base C op ps k sp) (hr : Room k X.A) : OpR X (binaryOp op) (rOwnL C sp) := by
  intro pins s σ H x y v u Q I rx ry h
  obtain ⟨f, fd, O, hb, ok⟩ := F.ex
  obtain ⟨a, dx, fs, i, rfl, rfl, ea, q⟩ := h
  obtain rfl : v = Value.ref a := rx
  obtain ⟨t, rfl⟩ := (show ∃ t, u = Value.int i t from ry)
  obtain ⟨mA, O', _⟩ := ins_get I.hok ea
  obtain ⟨od, J, _⟩ := O'.look
  obtain ⟨m, Fr⟩ := I.fr
  obtain ⟨rc, hrc, hp⟩ := O.rr
  obtain ⟨fo, h1⟩ := O.i1
  obtain ⟨ro, h2⟩ := O.i2
  refine PySem.W.ksp_binT Fr I.mod.kin J rfl O.sf O.find O.fn hrc hp h1 h2 O.sub ?_
  refine thn (run_fn (us := [.ref a, .int i t]) (vs := [.ref a, .int i]) ok hr hb .nil pass0 I (.cons rfl (.cons ⟨t, rfl⟩ .nil)) q) fun u' s' hq => ?_
  obtain ⟨v', H', I', rv, hv⟩ := hq
  exact relV_back rv ⟨v', H', I', rv, hv⟩
theorem op_R (F : OprR X.prog X.w X.K X.mg X.base C op ps k sp) (N : IntNo op) (hr : Room k X.A) : OpR X (binaryOp op) (rOwnR C sp) := by
  intro pins s σ H x y v u Q I rx ry h
  obtain ⟨f, fd, O, hb, ok⟩ := F.ex
  obtain ⟨a, dx, fs, i, rfl, rfl, ea, q⟩ := h
  obtain rfl : u = Value.ref a := ry
  obtain ⟨t, rfl⟩ := (show ∃ t, v = Value.int i t from rx)
  obtain ⟨mA, O', _⟩ := ins_get I.hok ea
  obtain ⟨od, J, _⟩ := O'.look
  obtain ⟨m, Fr⟩ := I.fr
  obtain ⟨rc, hrc, hp⟩ := O.ll
  obtain ⟨idl, slot, dec⟩ := N.ex
  refine own_right Fr I.mod.kin J O.sf hrc hp O.find O.fn O.sub N.fills slot (fun Q' hq => dec O'.obj rfl hq) ?_
  refine thn (run_fn (us := [.ref a, .int i t]) (vs := [.ref a, .int i]) ok hr hb .nil pass0 I (.cons rfl (.cons ⟨t, rfl⟩ .nil)) q) fun u' s' hq => ?_
  obtain ⟨v', H', I', rv, hv⟩ := hq
  exact relV_back rv ⟨v', H', I', rv, hv⟩
end
end Bar

namespace Bar
open PySem L2
section
variable {σ τ : L2.St} {H : Hp} {Q : VK} {g : TG} {tt : TT} {te : TE} {vs : List Nat}
instance {wi : TI} : Rd (tLc wi g tt te vs σ H Q) (wi σ H fun J H1 => ∀ D, H1 D = none → ∃ W : Nat → Nat → Hp → Prop, (∃ m, W 0 m (upd H1 D (.lst []))) ∧ ∀ i m H, W i m H →
  (J.stop i H ∧ Q (.ref D) H) ∨ (J.go i H ∧ ∃ Nx : Hp → Prop, (∀ H', Nx H' → ∃ m', m' < m ∧ W (i + 1) m' H') ∧ ∀ x H', J.yld i H x H' → g x (wipe σ vs) H' fun σ2 H2 => wipe σ2 vs = wipe σ vs ∧ tt σ2 H2 fun b H3 =>
    if b = true then te σ2 H3 fun y H4 => ∃ acc, H4 D = some (.lst acc) ∧ acc.length < sizeLine ∧ Nx (upd H4 D (.lst (acc ++ [y]))) else Nx H3)) := ⟨fun h => h⟩
instance {QB : Bool → Hp → Prop} : Rd (tYes σ H QB) (QB true H) := ⟨fun h => h⟩
/-- a comprehension over range(j) -/
theorem lcR {j : Int} {R : Addr → Hp → Prop} (n : Nat) (e : j.toNat = n) (ew : wipe σ vs = τ) (b : -(2 ^ 62) ≤ j ∧ j < 2 ^ 62)
    (h : ∀ D, H D = none → ∃ Pv : Nat → Hp → Prop, Pv 0 (upd H D (.lst [])) ∧
      (∀ i H', i < n → Pv i H' → g (.int (i : Int)) τ H' fun σ2 H2 => wipe σ2 vs = τ ∧ tt σ2 H2 fun b H3 =>
        if b = true then te σ2 H3 fun y H4 => ∃ acc, H4 D = some (.lst acc) ∧ acc.length < sizeLine ∧ Pv (i + 1) (upd H4 D (.lst (acc ++ [y]))) else Pv (i + 1) H3) ∧ ∀ H', Pv n H' → R D H') :
    ∃ j', [V.int j] = [V.int j'] ∧ -(2 ^ 62) ≤ j' ∧ j' < 2 ^ 62 ∧ ∀ D, H D = none → ∃ W : Nat → Nat → Hp → Prop, (∃ m, W 0 m (upd H D (.lst []))) ∧ ∀ i m H, W i m H →
      ((Itr 0 j'.toNat).stop i H ∧ R D H) ∨ ((Itr 0 j'.toNat).go i H ∧ ∃ Nx : Hp → Prop, (∀ H', Nx H' → ∃ m', m' < m ∧ W (i + 1) m' H') ∧ ∀ x H', (Itr 0 j'.toNat).yld i H x H' → g x (wipe σ vs) H' fun σ2 H2 => wipe σ2 vs = wipe σ vs ∧ tt σ2 H2 fun b H3 =>
        if b = true then te σ2 H3 fun y H4 => ∃ acc, H4 D = some (.lst acc) ∧ acc.length < sizeLine ∧ Nx (upd H4 D (.lst (acc ++ [y]))) else Nx H3) := by
  subst e ew
  refine ⟨j, rfl, b.1, b.2, fun D hD => ?_⟩
  obtain ⟨Pv, h0, hs, hd⟩ := h D hD
  refine lc_range (lo := 0) (n := j.toNat) Pv h0 (fun i H' hi p => ?_) hd
  have e : (0 : Int) + (i : Int) = (i : Int) := Int.zero_add _
  rw [e]
  exact hs i H' hi p
/-- over a list that stands still -/
theorem lcL {K : PySem.W.Frag} {a : Addr} {xs : List V} {R : Addr → Hp → Prop} (ew : wipe σ vs = τ) (hx : SqL K H a xs)
    (h : ∀ D, H D = none → ∃ Pv : Nat → Hp → Prop, Pv 0 (upd H D (.lst [])) ∧ (∀ i H', i ≤ xs.length → Pv i H' → SqL K H' a xs) ∧
      (∀ i x H', xs[i]? = some x → Pv i H' → g x τ H' fun σ2 H2 => wipe σ2 vs = τ ∧ tt σ2 H2 fun b H3 =>
        if b = true then te σ2 H3 fun y H4 => ∃ acc, H4 D = some (.lst acc) ∧ acc.length < sizeLine ∧ Pv (i + 1) (upd H4 D (.lst (acc ++ [y]))) else Pv (i + 1) H3) ∧ ∀ H', Pv xs.length H' → R D H') :
    ∃ a', V.ref a = V.ref a' ∧ (∃ xs, SqL K H a' xs) ∧ ∀ D, H D = none → ∃ W : Nat → Nat → Hp → Prop, (∃ m, W 0 m (upd H D (.lst []))) ∧ ∀ i m H, W i m H →
      ((Itl K a').stop i H ∧ R D H) ∨ ((Itl K a').go i H ∧ ∃ Nx : Hp → Prop, (∀ H', Nx H' → ∃ m', m' < m ∧ W (i + 1) m' H') ∧ ∀ x H', (Itl K a').yld i H x H' → g x (wipe σ vs) H' fun σ2 H2 => wipe σ2 vs = wipe σ vs ∧ tt σ2 H2 fun b H3 =>
        if b = true then te σ2 H3 fun y H4 => ∃ acc, H4 D = some (.lst acc) ∧ acc.length < sizeLine ∧ Nx (upd H4 D (.lst (acc ++ [y]))) else Nx H3) := by
  subst ew
  refine ⟨a, rfl, ⟨xs, hx⟩, fun D hD => ?_⟩
  obtain ⟨Pv, h0, hl, hs, hd⟩ := h D hD
  exact lc_list Pv h0 hl hs hd
theorem rSum_ {K : PySem.W.Frag} {a : Addr} {ns : List Int} (h1 : SqL K H a (ns.map V.int)) (h : Q (.int ns.sum) H) : rSum K [.ref a] H Q := ⟨a, ns, rfl, h1, h⟩
theorem sum_ones : ∀ n : Nat, (List.replicate n (1 : Int)).sum = (n : Int)
  | 0 => rfl
  | n + 1 => by
    rw [List.replicate_succ, List.sum_cons, sum_ones n]
    omega
end
end Bar

namespace Bar
open PySem PySem.W PySem.Calls PyProof.Rows
theorem ne_own {prog : Program} {w : World} {A : Around} {E : Value → Shared → Prop} {s : Shared} {K : Frag} {x C L f : Addr} {h₀ : Heap} {m : Str → Option Value} {ox : Obj} {od : Option Obj} {b tb : Value} {Q : Value → Shared → Prop}
    (hu : A.units + 1 < cLine) (F : Fr h₀ L s.heap m) (X₀ : K.In h₀) (I : InstAt s.heap x ox C od) (hb : Looks (model prog w) s.heap (typeOf b) tb) (hn : notFirst K C tb = true)
    (hne : findIn K (.ref C) "__ne__" = some (some (.builtin "object.__ne__"))) (heq : findIn K (.ref C) "__eq__" = some (some (.ref f))) (hf : isFn K (.ref f) = true) (hm : mroIn K C (.type "object") = some true)
    (h : wpAny (model prog w) A.in1 (call (.ref f) [.ref x, b]) (fun r s' => ∃ c, r = .bool c ∧ Q (.bool (!c)) s') E s) : wpAny (model prog w) A (richCompare .NotEq (.ref x) b) Q E s := by
  have X := X₀.keeps F.keep
  have one : wpAny (model prog w) A (tryCompare (.ref x) "__ne__" b) (fun r s' => ∃ v, r = some v ∧ Q v s') E s := by
    have sub : Looks (model prog w) s.heap (isInstance (.ref x) (.type "object")) true := I.type.andThen (looks_mroIn X hm)
    have back : wpAny (model prog w) A (call (.builtin "object.__ne__") [.ref x, b]) (fun v s' => ∃ c, v = .bool c ∧ Q (.bool c) s') E s := by
      refine wpAny_call (codeAny_call_builtin PySem.F.cmp_object.ne.plain PySem.F.cmpEntry_ne (@PySem.W.check_slot (model prog w) _ _ s "object.__ne__" "object" "__ne__" (.ref x) [b] [] _ PySem.F.cmpKind_ne PySem.F.cmpSplit_ne sub (PySem.F.cmpArgs_ne _ _) ?_))
      unfold Builtin.«object.__ne__»
      refine wpAny_bind (wpAny_of_eq (a := ((Value.ref x : Value), [b])) (by first | rfl | (simp only [slotArgs]; rfl)) ?_)
      refine wpAny_bind (wpAny_cRoomFor hu ?_)
      refine wpAny_bind (ifBound_K X I heq hf (wpAny_mono h (fun v s' hv => ?_) fun _ _ e => e))
      obtain ⟨c, rfl, q⟩ := hv
      dsimp only
      refine wpAny_bind (wpAny_truthy_bool ?_)
      exact wpAny_pure ⟨!c, rfl, q⟩
    simp only [tryCompare, callSpecialIfBound?, bindSpecialIfBound?]
    refine wpAny_bind (wpAny_holding (wpAny_bind (wpAny_bind (wpAny_bind (I.type.here ((looks_findIn X hne).here ?_))))))
    simp only [PySem.F.cmp_object.ne.bind]
    refine wpAny_bind (wpAny_askSetting (wpAny_ite ?_))
    have fin : wpAny (model prog w) A (call (.builtin "object.__ne__") ([.ref x] ++ [b]) >>= fun v => pure (some v)) (fun r s' => wpAny (model prog w) A (match r with | some .notImplemented => pure none | none => pure none | some v => pure (some v)) (fun r s' => ∃ v, r = some v ∧ Q v s') E s') E s :=
      wpAny_bind (wpAny_mono back (fun v s' hv => by
        obtain ⟨c, rfl, q⟩ := hv
        exact wpAny_pure (wpAny_pure ⟨_, rfl, q⟩)) fun _ _ e => e)
    split
    · exact wpAny_bind (wpAny_pure (wpAny_pure fin))
    · exact wpAny_tryCatch (wpAny_bind (wpAny_pure (wpAny_pure fin)))
  unfold richCompare
  simp only [oneThing_ref]
  refine wpAny_holding (wpAny_bind (wpAny_cRoomFor (by omega) ?_))
  refine wpAny_bind (I.type.here (wpAny_bind (hb.here ?_)))
  split
  · rename_i q
    have e : subIn K tb (.ref C) = some false := by
      rcases Bool.or_eq_true_iff.mp hn with e | e
      · rw [beq_iff_eq.mp e] at q; simp at q
      · exact beq_iff_eq.mp e
    refine wpAny_bind ((looks_subIn X e).here ?_)
    simp only [Bool.false_eq_true, if_false]
    refine wpAny_bind (wpAny_mono one (fun r s' z => ?_) fun _ _ e => e)
    obtain ⟨v, rfl, hq⟩ := z
    exact wpAny_pure hq
  · refine wpAny_bind (wpAny_pure ?_)
    simp only [Bool.false_eq_true, if_false]
    refine wpAny_bind (wpAny_mono one (fun r s' z => ?_) fun _ _ e => e)
    obtain ⟨v, rfl, hq⟩ := z
    exact wpAny_pure hq
end Bar

namespace Bar
open PySem L2
structure OwnEq (K : PySem.W.Frag) (C f : Addr) : Prop where
  eq : PySem.W.findIn K (.ref C) "__eq__" = some (some (.ref f))
  fn : PySem.W.isFn K (.ref f) = true
  ne : PySem.W.findIn K (.ref C) "__ne__" = some (some (.builtin "object.__ne__"))
  ob : PySem.W.mroIn K C (.type "object") = some true
def rOwnEq (K : PySem.W.Frag) (C : Addr) (neg : Bool) (sp : Sp) : R2 := fun x y H Q => ∃ a dx fs t, x = .ref a ∧ H a = some (.ins C dx fs) ∧ TyX K H y t ∧ PySem.W.notFirst K C t = true ∧ sp [x, y] H (fun v H' => ∃ c, v = .bl c ∧ Q (.bl (if neg then !c else c)) H') E0
structure OprEq (P : Program) (w : World) (K : PySem.W.Frag) (mg : Str → Option Value) (base : Heap) (C : Addr) (ps : List Str) (k : Nat) (sp : Sp) : Prop where
  ex : ∃ (f : Addr) (fd : FuncData), OwnEq K C f ∧ Binds K fd ps [] ∧ FnOk P w K mg base CX0 k f fd ps sp
section
variable {X : Cx} {C : Addr} {ps : List Str} {k : Nat} {sp : Sp}
theorem op_Eq (F : OprEq X.prog X.w X.K X.mg X.base C ps k sp) (hr : Room k X.A) : OpR X (compareOp .Eq) (rOwnEq X.K C false sp) := by
  intro pins s σ H x y v u Q I rx ry h
  obtain ⟨f, fd, O, hb, ok⟩ := F.ex
  obtain ⟨a, dx, fs, t, rfl, ea, ty, hn, q⟩ := h
  obtain rfl : v = Value.ref a := rx
  obtain ⟨mA, O', _⟩ := ins_get I.hok ea
  obtain ⟨od, J, _⟩ := O'.look
  obtain ⟨m, Fr⟩ := I.fr
  obtain ⟨Pz, Z, p, _⟩ := kit_of I ry ty
  show wpAny _ _ (richCompare .Eq (.ref a) u) _ _ _
  refine PySem.W.cmp_K (op := .Eq) hr.units0 Fr I.mod.kin J (Z.ty _ _ I.kIn p) hn O.eq O.fn ?_
  refine thn (run_fn (us := [.ref a, u]) (vs := [.ref a, y]) ok hr hb .nil pass0 I (.cons rfl (.cons ry .nil)) q) fun u' s' hq => ?_
  obtain ⟨v', H', I', rv, hv⟩ := hq
  obtain ⟨c, rfl, q'⟩ := hv
  exact relV_back rv ⟨_, H', I', rv, q'⟩
theorem op_Ne (F : OprEq X.prog X.w X.K X.mg X.base C ps k sp) (hr : Room (k + 1) X.A) : OpR X (compareOp .NotEq) (rOwnEq X.K C true sp) := by
  intro pins s σ H x y v u Q I rx ry h
  obtain ⟨f, fd, O, hb, ok⟩ := F.ex
  obtain ⟨a, dx, fs, t, rfl, ea, ty, hn, q⟩ := h
  obtain rfl : v = Value.ref a := rx
  obtain ⟨mA, O', _⟩ := ins_get I.hok ea
  obtain ⟨od, J, _⟩ := O'.look
  obtain ⟨m, Fr⟩ := I.fr
  obtain ⟨Pz, Z, p, _⟩ := kit_of I ry ty
  show wpAny _ _ (richCompare .NotEq (.ref a) u) _ _ _
  refine ne_own (by have := hr.units; omega) Fr I.mod.kin J (Z.ty _ _ I.kIn p) hn O.ne O.eq O.fn O.ob ?_
  have r2 : Vals [V.ref a, y] [Value.ref a, u] := .cons rfl (.cons ry .nil)
  have hl : ([Value.ref a, u] ++ ([] : List Value)).length = ps.length := by
    have e := ok.len _ _ _ _ q
    rw [← e]
    rfl
  have bnd : BindsTo s fd ⟨[Value.ref a, u], []⟩ (ps.zip [Value.ref a, u]) := by
    have e := hb s [Value.ref a, u] I.kIn hl
    rwa [List.append_nil] at e
  have run := ok.run X.A.in1 X.stack s H ⟨[Value.ref a, u], []⟩ [Value.ref a, u] [V.ref a, y] _ E0 hr.in1 I.env0.in1 bnd r2 q
  refine wpAny_call (codeAny_mono run fun r s' hq => ?_)
  cases r with
  | error e => exact False.elim hq
  | ok fl =>
    cases fl with
    | ret u' =>
      obtain ⟨v', H', I', rv, c, ev, q'⟩ := I.after hq
      subst ev
      exact ⟨c, rv, .bl (!c), H', I', rfl, q'⟩
    | next => exact False.elim hq
    | brk => exact False.elim hq
    | cont => exact False.elim hq
end
end Bar

set_option Elab.async false
set_option linter.all false
set_option maxRecDepth 100000
set_option maxHeartbeats 4000000
namespace Bar
open PySem L2
/-! ### own errors: their making -/
/-- an own error class, made by its name; sp: what its __init__ keeps -/
structure Err (P : Program) (w : World) (K : PySem.W.Frag) (mg : Str → Option Value) (base : Heap) (x : Str) (C : Addr) (ps : List Str) (k : Nat) (sp : Sp) : Prop where
  ex : ∃ (f : Addr) (fd : FuncData), mg x = some (.ref C) ∧ OexC K C ∧ PySem.W.findIn K (.ref C) "__init__" = some (some (.ref f)) ∧ PySem.W.typeIn K (.ref f) = some (.type "function") ∧ Binds K fd ps [] ∧ FnOk P w K mg base CX0 k f fd ps sp
/-- the base class's own name, and its __init__ -/
structure EBase (K : PySem.W.Frag) (mg : Str → Option Value) (bn : Str) (B : Addr) : Prop where
  g : mg bn = some (.ref B)
  r : ClX.CRead K B (.type "type")
  v : PySem.W.findCls K (.ref B) (.type "type") "__init__" = some (.val (.builtin "ValueError.__init__"))
section
variable {X : Cx} {B C : Addr} {x bn : Str} {k : Nat} {sp : Sp} {ps : List Str} {e : Expr} {es : List Expr} {ta : TA} {p p1 p2 pos : Pos}
theorem pmk_err (F : Err X.prog X.w X.K X.mg X.base x C ps k sp) (hr : Room (k + 1) X.A) (hg : Gl X x) (ha : PA X (e :: es) ta) (hdb : (x == ("__debug__" : Str)) = false := by decide)
    (he : starEach (e :: es) X.env = (false, eval e X.env) :: starEach es X.env := by rfl) (hpl : (backTo pos (starEach es X.env)).any (·.1) = false := by rfl) : PMk X (.Call (.Name x p) (e :: es) [] pos) (tMkO C sp [] ta) := by
  obtain ⟨f, fd, hm, T, iC, tI, hb, ok⟩ := F.ex
  exact pmk_oex T iC tI ok hr hb .nil (fun _ _ _ _ _ _ _ z => z.elim) hg hm ha hdb he hpl
theorem pe_baseInit {pl : Sem Bool} (N : EBase X.K X.mg bn B) (hg : Gl X bn) (ha : PA X (e :: es) ta) (hdb : (bn == ("__debug__" : Str)) = false := by decide)
    (hc : eval (.Call (.Attribute (.Name bn p1) "__init__" p2) (e :: es) [] pos) X.env = (do
      let ov ← eval (.Name bn p1) X.env; standAt p2.atName
      let (f, first) ← holding [ov] (getMethod ov "__init__" pl)
      callWith pos f first (backTo pos (starEach (e :: es) X.env)) (backToKw pos (keywordEach [] X.env))) := by rfl)
    (he : starEach (e :: es) X.env = (false, eval e X.env) :: starEach es X.env := by rfl) (hpl : (backTo pos (starEach es X.env)).any (·.1) = false := by rfl) :
    PE X (.Call (.Attribute (.Name bn p1) "__init__" p2) (e :: es) [] pos) (tVeI X.K ta) := ⟨fun pins s σ H Q I h => by
  refine PySem.W.methodCall_KW (pl := pl) (ld_glob I hg N.g ?_ hdb) hc
  refine PySem.W.method_cls I.kIn N.r.ga (PySem.W.cls_value I.kIn N.r.rd N.v rfl ?_)
  show wpAny _ _ (callWith pos (.builtin "ValueError.__init__") [] (backTo pos (starEach (e :: es) X.env)) []) _ _ _
  have I' := I.tok (s.toks + 1)
  refine PyProof.Rows.callWith_method1 (thn (ha.run pos pins _ σ H _ I' h) fun us s1 hs => ?_) he hpl
  obtain ⟨vs, H1, J, rv, a, C, ws, ev, hl, T, ea, q⟩ := hs
  subst ev
  cases rv with
  | cons ra rw' =>
    cases ra
    refine oinit_ok T J ea ?_ fun s' J' => ⟨.non, H1, J', rfl, q⟩
    rw [← Paired.length rw', sizeLine_eq]
    omega⟩
end

/-! ### defs that raise, called where what they raise is taken -/
structure FnX (P : Program) (w : World) (K : PySem.W.Frag) (mg : Str → Option Value) (base : Heap) (x : Str) (ps : List Str) (dvs : List V) (k : Nat) (sp : Sp) : Prop where
  ex : ∃ (f : Addr) (fd : FuncData) (ds : List Value), mg x = some (.ref f) ∧ PySem.W.keepIn K (.ref f) = true ∧ Binds K fd ps ds ∧ Vals dvs ds ∧ FnOk P w K mg base (L2.CX P w) k f fd ps sp
structure MadeX (P : Program) (w : World) (K : PySem.W.Frag) (mg : Str → Option Value) (base : Heap) (x : Str) (C : Addr) (ps : List Str) (dvs : List V) (k : Nat) (sp : Sp) : Prop where
  ex : ∃ (f : Addr) (fd : FuncData) (ds : List Value), mg x = some (.ref C) ∧ Mk K C f ∧ Binds K fd ps ds ∧ Vals dvs ds ∧ FnOk P w K mg base (L2.CX P w) k f fd ps sp
structure MthX (P : Program) (w : World) (K : PySem.W.Frag) (mg : Str → Option Value) (base : Heap) (C : Addr) (m : Str) (ps : List Str) (dvs : List V) (k : Nat) (sp : Sp) : Prop where
  cl : Cls K C
  ex : ∃ (f : Addr) (fd : FuncData) (ds : List Value), Meth K C m f ∧ Binds K fd ps ds ∧ Vals dvs ds ∧ FnOk P w K mg base (L2.CX P w) k f fd ps sp
/-- what is raised, wished for at the slots as they stand -/
def wAt (W : WX) (σ : L2.St) : XK := fun cls d H => W cls d σ H
def tCallX (sp : Sp) (dvs : List V) (W : WX) (t : TA) : TE := fun σ H Q => t σ H fun vs H1 => sp (vs ++ dvs) H1 Q (wAt W σ)
def tMakeX (C : Addr) (sp : Sp) (dvs : List V) (W : WX) (t : TA) : TE := fun σ H Q => t σ H fun vs H1 => ∀ x dx, H1 x = none → H1 dx = none → dx ≠ x →
  sp (.ref x :: (vs ++ dvs)) (upd (upd H1 dx (.own x)) x (.ins C dx [])) (fun v H2 => v = .non ∧ Q (.ref x) H2) (wAt W σ)
def tMethX (C : Addr) (m : Str) (sp : Sp) (dvs : List V) (W : WX) (ta : TE) (t : TA) : TE := fun σ H Q => ta σ H fun x H1 => ∃ a dx fs, x = .ref a ∧ H1 a = some (.ins C dx fs) ∧ fs.lookup m = none ∧
  t σ H1 fun vs H2 => sp (x :: (vs ++ dvs)) H2 Q (wAt W σ)
section
variable {X : Cx} {W : WX} {k : Nat} {f C : Addr} {fd : FuncData} {ps : List Str} {sp : Sp} {dvs : List V} {ds : List Value} {x m : Str} {p pos apos : Pos} {e o : Expr} {es : List Expr} {ta : TE} {t : TA}
theorem run_fnX {pins : List (Addr × Obj)} {σ : L2.St} {H : Hp} {s : Shared} {Q : VK} {us : List Value} {vs : List V} (F : FnOk X.prog X.w X.K X.mg X.base (L2.CX X.prog X.w) k f fd ps sp) (hr : Room k X.A) (hb : Binds X.K fd ps ds) (hd : Vals dvs ds)
    (tk : Takes X W) (I : Inv X pins σ H s) (r : Vals vs us) (h : sp (vs ++ dvs) H Q (wAt W σ)) : wpAny (model X.prog X.w) X.A (call (.ref f) us) (EP X pins σ Q) X.xe s := by
  have r2 : Vals (vs ++ dvs) (us ++ ds) := r.append hd
  have hl : (us ++ ds).length = ps.length := r2.length.symm.trans (F.len _ _ _ _ h)
  refine wpAny_call (codeAny_mono (F.run X.A X.stack s H ⟨us, []⟩ (us ++ ds) (vs ++ dvs) Q (wAt W σ) hr I.env0 (hb s us I.kIn hl) r2 h) fun z s' hq => ?_)
  match z, hq with
  | .error e, hq => exact tk e s' (XE.of_call I (fun _ _ _ h => h) hq)
  | .ok (.ret u), hq => exact I.after hq
theorem pe_fnX (F : FnX X.prog X.w X.K X.mg X.base x ps dvs k sp) (tk : Takes X W) (hr : Room k X.A) (hg : Gl X x) (ha : PA X (e :: es) t) (hdb : (x == ("__debug__" : Str)) = false := by decide)
    (he : starEach (e :: es) X.env = (false, eval e X.env) :: starEach es X.env := by rfl) (hpl : (backTo pos (starEach es X.env)).any (·.1) = false := by rfl) : PE X (.Call (.Name x p) (e :: es) [] pos) (tCallX sp dvs W t) := ⟨fun pins s σ H Q I h => by
  obtain ⟨f, fd, ds, hm, hk, hb, hd, ok⟩ := F.ex
  refine wpAny_Call_Name_kw (ld_glob I hg hm ?_ hdb)
  refine PySem.W.callWith_K (h₀ := X.base) I.ok.mod.kin hk (thn (ha.run pos pins s σ H _ I h) fun us s1 hs => ?_) he hpl
  obtain ⟨vs, H1, J, r, q⟩ := hs
  exact ⟨J.kIn, run_fnX ok hr hb hd tk J r q⟩⟩
theorem pe_mthX {pl : Sem Bool} (F : MthX X.prog X.w X.K X.mg X.base C m ps dvs k sp) (tk : Takes X W) (ho : PE X o ta) (hr : Room k X.A) (ha : PA X (e :: es) t)
    (hst : starEach (e :: es) X.env = (false, eval e X.env) :: starEach es X.env := by rfl) (hpl : (backTo pos (starEach es X.env)).any (·.1) = false := by rfl)
    (ht : eval (.Call (.Attribute o m apos) (e :: es) [] pos) X.env = (do
      let ov ← eval o X.env; standAt apos.atName
      let (f, first) ← holding [ov] (getMethod ov m pl)
      callWith pos f first (backTo pos (starEach (e :: es) X.env)) (backToKw pos (keywordEach [] X.env))) := by rfl) :
    PE X (.Call (.Attribute o m apos) (e :: es) [] pos) (tMethX C m sp dvs W ta t) := ⟨fun pins s σ H Q I h => by
  obtain ⟨f, fd, ds, hm, hb, hd, ok⟩ := F.ex
  refine PySem.W.methodCall_KW (pl := pl) (thn (ho.run pins s σ H _ I h) fun u s1 hs => ?_) ht
  obtain ⟨x, H1, J, rx, a, dx, fs, ex, ea, l, q⟩ := hs
  subst ex
  cases rx
  refine getmeth_ok J ea F.cl hm l (PySem.W.callWith_K (first := [.ref a]) (h₀ := X.base) J.ok.mod.kin hm.kp (thn (ha.run pos pins s1 σ H1 _ J q) fun us s2 hs => ?_) hst hpl)
  obtain ⟨vs, H2, J2, r, q2⟩ := hs
  exact ⟨J2.kIn, run_fnX (us := .ref a :: us) (vs := .ref a :: vs) ok hr hb hd tk J2 (.cons rfl r) q2⟩⟩
theorem run_makeX {pins : List (Addr × Obj)} {σ : L2.St} {H : Hp} {s : Shared} {Q : VK} {us : List Value} {vs : List V} (M : Mk X.K C f) (F : FnOk X.prog X.w X.K X.mg X.base (L2.CX X.prog X.w) k f fd ps sp) (hr : Room (k + 1) X.A) (hb : Binds X.K fd ps ds) (hd : Vals dvs ds)
    (tk : Takes X W) (I : Inv X pins σ H s) (r : Vals vs us)
    (h : ∀ x dx, H x = none → H dx = none → dx ≠ x → sp (.ref x :: (vs ++ dvs)) (upd (upd H dx (.own x)) x (.ins C dx [])) (fun v H2 => v = .non ∧ Q (.ref x) H2) (wAt W σ)) :
    wpAny (model X.prog X.w) X.A (call (.ref C) us) (EP X pins σ Q) X.xe s := by
  have hq := h (s.heap.objs.size + 1) s.heap.objs.size (I.hok.fresh (Nat.le_succ _)) (I.hok.fresh (Nat.le_refl _)) (Nat.ne_of_lt (Nat.lt_succ_self _))
  have J := Inv.made (C := C) I
  have r2 : Vals (V.ref (s.heap.objs.size + 1) :: (vs ++ dvs)) (Value.ref (s.heap.objs.size + 1) :: (us ++ ds)) := .cons rfl (r.append hd)
  have hl : (Value.ref (s.heap.objs.size + 1) :: us ++ ds).length = ps.length := r2.length.symm.trans (F.len _ _ _ _ hq)
  refine wpAny_call (make_map (f := f) I.kIn M.makes M.init (beq_iff_eq.mp M.fn) (codeAny_mono (F.run _ X.stack _ _ ⟨Value.ref (s.heap.objs.size + 1) :: us, []⟩ (Value.ref (s.heap.objs.size + 1) :: (us ++ ds)) _ _ (wAt W σ) (hr.make C us [])
    (J.env0.make C us []) (hb _ (Value.ref (s.heap.objs.size + 1) :: us) J.kIn hl) r2 hq) fun z s' hz => ?_))
  match z, hz with
  | .error e, hz => exact tk e s' (XE.of_call J (fun _ _ _ h => h) hz)
  | .ok (.ret u), hz =>
    obtain ⟨v, H', J3, rv, ev, q3⟩ := J.after hz
    subst ev
    exact ⟨rv, ⟨V.ref (s.heap.objs.size + 1), H', J3, rfl, q3⟩⟩
theorem pe_mkX (F : MadeX X.prog X.w X.K X.mg X.base x C ps dvs k sp) (tk : Takes X W) (hr : Room (k + 1) X.A) (hg : Gl X x) (ha : PA X (e :: es) t) (hdb : (x == ("__debug__" : Str)) = false := by decide)
    (he : starEach (e :: es) X.env = (false, eval e X.env) :: starEach es X.env := by rfl) (hpl : (backTo pos (starEach es X.env)).any (·.1) = false := by rfl) : PE X (.Call (.Name x p) (e :: es) [] pos) (tMakeX C sp dvs W t) := ⟨fun pins s σ H Q I h => by
  obtain ⟨f, fd, ds, hm, M, hb, hd, ok⟩ := F.ex
  refine wpAny_Call_Name_kw (ld_glob I hg hm ?_ hdb)
  refine PySem.W.callWith_K (h₀ := X.base) I.ok.mod.kin M.kp (thn (ha.run pos pins s σ H _ I h) fun us s1 hs => ?_) he hpl
  obtain ⟨vs, H1, J, r, q⟩ := hs
  exact ⟨J.kIn, run_makeX M ok hr hb hd tk J r q⟩⟩
end

/-- what raises nothing here, though it may -/
theorem FnX0 {P : Program} {w : World} {K : PySem.W.Frag} {mg : Str → Option Value} {base : Heap} {k : Nat} {f : Addr} {fd : FuncData} {ps : List Str} {sp : Sp} (F : FnOk P w K mg base (L2.CX P w) k f fd ps sp) : FnOk P w K mg base CX0 k f fd ps (fun vs H Q _ => sp vs H Q E0) :=
  ⟨fun vs H Q _ h => F.len vs H Q E0 h, fun A outer s H args us vs Q _ hr e0 hb r h => codeAny_mono (F.run A outer s H args us vs Q E0 hr e0 hb r h) fun z s' hq => by
    match z, hq with
    | .error e, hq =>
      obtain ⟨_, _, _, _, _, _, _, _, _, _, _, _, x⟩ := hq
      exact x.elim
    | .ok (.ret u), hq => exact hq⟩
/-- a block, with a word between its first statement and the rest -/
def tMid (t u : TS) : TS := fun D σ H => ∃ M : L2.St → Hp → Prop, t { D with nx := M } σ H ∧ ∀ σ' H', M σ' H' → u D σ' H'
theorem pss_mid {X : Cx} {s1 : Stmt} {ss : List Stmt} {t u : TS} (a : PS X s1 t) (b : PSs X ss u) : PSs X (s1 :: ss) (tMid t u) := ⟨fun pins s σ H D I ⟨M, hm, hu⟩ => by
  refine wpAny_execs_cons (thn (a.run pins s σ H { D with nx := M } I hm) fun z s1 q => ?_)
  match z, q with
  | .next, ⟨σ', H', I', q⟩ => exact b.run pins s1 σ' H' D I' (hu σ' H' q)
  | .ret _, q => exact q
  | .brk, q => exact q
  | .cont, q => exact q⟩
/-! ### range of two ints of any size -/
theorem turn_big {P : Program} {w : World} {K : PySem.W.Frag} {tg : Expr} (it : Addr) (lo : Int) (n : Nat) : Turn P w K tg (Itr lo n) [it] it (fun i h => IsLongIter h it (lo + (i : Nat) * 1) ((n : Int) - (i : Nat)) 1) where
  mem := List.mem_singleton.mpr rfl
  obj := fun i h st b hb => by
    cases List.mem_singleton.mp hb
    refine ⟨_, st, fun v z => ?_⟩
    have y : Data.fields _ = Data.cell v := z
    cases y
  keep := fun i h h' st k => k it (List.mem_singleton.mpr rfl) _ st
  item := by
    rintro X rfl rfl rfl hc i pins s σ H E I hf st hg
    obtain ⟨f0, f1, f2, f3, f4, f5⟩ := hf it (List.mem_singleton.mpr rfl)
    refine (Walks.longrange (prog := X.prog) (w := X.w) (I.ok.hd hc) it lo 1 n).item i s _ _ hg st fun v h' tk hv st' kk => ?_
    obtain ⟨t, rfl⟩ := hv
    have J : Inv X pins σ H { s with heap := h', toks := tk } := I.turned (fun b o hb e => kk b o (fun z => hb (List.mem_singleton.mp z)) e) f0 f1 f3 f4 f5
    exact ⟨_, rfl, go_of (s := { s with heap := h', toks := tk }) (n := "longrange_iterator") st' rfl rfl (by decide) ⟨.int (lo + i), H, J, ⟨t, by rw [Int.mul_one]⟩, ⟨rfl, rfl⟩, st', fun b hb => (hf b hb).1⟩⟩
  done := by
    rintro X rfl rfl rfl hc i pins s σ H E I hf st hg
    obtain ⟨f0, f1, f2, f3, f4, f5⟩ := hf it (List.mem_singleton.mpr rfl)
    have hn : n ≤ i := hg
    exact wpAny_pyNext_long_end (I.ok.hd hc) st (by omega) fun h' eb => ⟨rfl, I.turned (t' := s.toks) (fun b o hb e => eb b o hb e) f0 f1 f3 f4 f5⟩
  self := fun _ _ _ _ _ st h => wpAny_pyIter_longiter st h
section
variable {X : Cx} {tg : Expr}
theorem range_any {pins : List (Addr × Obj)} {σ : L2.St} {H : Hp} {s : Shared} {R : It → Hp → Prop} {E : Value → Shared → Prop} {lo hi : Int} {t u v : Tok} {tk : Nat} (I : Inv X pins σ H s) (q : R (Itr lo (hi - lo).toNat) H) :
    wpAny (model X.prog X.w) X.A (pyIter (.ref s.heap.objs.size)) (PIE X pins σ tg R) E { s with heap := s.heap.push { cls := .type "range", data := .fields #[.int lo t, .int hi u, .int 1 v] }, toks := tk } := by
  have J : Inv X pins σ H { s with heap := s.heap.push { cls := .type "range", data := .fields #[.int lo t, .int hi u, .int 1 v] }, toks := tk } := I.kept fun b o e => Heap.get?_push_of_some _ e
  have ef : ∀ b, b ∈ [(s.heap.push { cls := .type "range", data := .fields #[.int lo t, .int hi u, .int 1 v] }).objs.size] → b = (s.heap.push { cls := .type "range", data := .fields #[.int lo t, .int hi u, .int 1 v] }).objs.size := fun b hb => List.mem_singleton.mp hb
  have e1 : lo + ((0 : Nat) : Int) * 1 = lo := by simp
  have e2 : (((hi - lo).toNat : Nat) : Int) - ((0 : Nat) : Int) = Builtin.Range.rangeSize lo hi 1 := by
    rw [rangeSize_one]
    split <;> omega
  cases sm : Builtin.Range.small lo hi 1 with
  | true =>
    refine wpAny_pyIter_range (IsRange.new ..) sm ⟨_, _, _, _, H, rfl, J.kept (t' := tk) fun b o e => Heap.get?_push_of_some _ e, turn_range _ lo (hi - lo).toNat, ?_, fun b hb => ?_, q⟩
    · show IsRangeIter _ _ (lo + ((0 : Nat) : Int) * 1) ((((hi - lo).toNat : Nat) : Int) - ((0 : Nat) : Int)) 1
      rw [e1, e2]
      exact Heap.get?_push_size _ rfl
    · cases ef b hb
      exact J.fpOk (Nat.le_refl _) (J.hok.fresh (Nat.le_refl _))
  | false =>
    refine wpAny_pyIter_longrange (IsRange.new ..) sm ⟨_, _, _, _, H, rfl, J.kept (t' := tk) fun b o e => Heap.get?_push_of_some _ e, turn_big _ lo (hi - lo).toNat, ?_, fun b hb => ?_, q⟩
    · show IsLongIter _ _ (lo + ((0 : Nat) : Int) * 1) ((((hi - lo).toNat : Nat) : Int) - ((0 : Nat) : Int)) 1
      rw [e1, e2]
      exact Heap.get?_push_size _ rfl
    · cases ef b hb
      exact J.fpOk (Nat.le_refl _) (J.hok.fresh (Nat.le_refl _))
def iRngW (ta : TA) : TI := fun σ H R => ta σ H fun vs H1 => ∃ i j : Int, vs = [.int i, .int j] ∧ R (Itr i (j - i).toNat) H1
theorem pi_rangeW {a b : Expr} {ta : TA} {p pos : Pos} (hg : Gl X "range") (hm : X.mg "range" = none) (ha : PA X [a, b] ta) (hs : starEach [a, b] X.env = [(false, eval a X.env), (false, eval b X.env)] := by rfl) (hs2 : starEach [b] X.env = [(false, eval b X.env)] := by rfl) :
    PI X tg (.Call (.Name "range" p) [a, b] [] pos) (iRngW ta) := ⟨fun pins s σ H R I h => by
  refine PyProof.Rows.Call_ (ld_blt I hg hm PyProof.Rows.boot_range (PyProof.Rows.callWith_type1 (thn (ha.run pos pins s σ H _ I h) fun us s1 hu => ?_) (by rw [hs, hs2]) (by rw [hs2]; rfl)))
  obtain ⟨vs, H1, J, rv, i, j, e, q⟩ := hu
  subst e
  match us, rv with
  | [_, _], .cons ⟨t, r1⟩ (.cons ⟨t', r2⟩ .nil) =>
    cases r1
    cases r2
    exact call_range_2 (range_any J q)⟩
end
/-! ### C(e, .., k = v) -/
structure MadeN (P : Program) (w : World) (K : PySem.W.Frag) (mg : Str → Option Value) (base : Heap) (x : Str) (C : Addr) (ps ks : List Str) (n k : Nat) (sp : Sp) : Prop where
  ex : ∃ (f : Addr) (fd : FuncData) (g : List Value → List Value → List Value), mg x = some (.ref C) ∧ Mk K C f ∧ KBn K fd ps (n + 1) ks g (fun vs zs => vs ++ zs) ∧ FnOk P w K mg base CX0 k f fd ps sp
theorem pe_mkN {X : Cx} {C : Addr} {ps ks : List Str} {n k : Nat} {sp : Sp} {x : Str} {p pos : Pos} {e : Expr} {es : List Expr} {kws : List Keyword} {t tk : TA} (F : MadeN X.prog X.w X.K X.mg X.base x C ps ks n k sp) (hr : Room (k + 1) X.A) (hg : Gl X x) (ha : PA X (e :: es) t) (hkw : PK X kws tk)
    (hall : (backToKw pos (keywordEach kws X.env)).all (·.1.isSome) = true := by rfl) (hks : (backToKw pos (keywordEach kws X.env)).filterMap (·.1) = ks := by rfl)
    (hdb : (x == ("__debug__" : Str)) = false := by decide) (he : starEach (e :: es) X.env = (false, eval e X.env) :: starEach es X.env := by rfl)
    (hpl : ((backTo pos (starEach (e :: es) X.env)).any (·.1) || (backToKw pos (keywordEach kws X.env)).any (·.1.isNone)) = false := by rfl) : PE X (.Call (.Name x p) (e :: es) kws pos) (tMakeN C n ks.length sp (fun vs zs => vs ++ zs) E0 t tk) := by
  obtain ⟨f, fd, g, hm, M, hb, ok⟩ := F.ex
  exact pe_makeN M ok hr hg hm hb pass0 ha hkw hall hks hdb he hpl
theorem pe_fldK {X : Cx} {K : PySem.W.Frag} {e : Expr} {ta : TE} {f : Str} {pos : Pos} (he : PE X e ta) (hK : X.K = K) (hb : attributeBase e f X.env (eval e X.env) = eval e X.env) : PE X (.Attribute e f pos) (tFld K ta f) := by
  subst hK
  exact pe_fld he hb
/-! ### own operators that raise -/
def OpRS (X : Cx) (f : Value → Value → Sem Value) (r : L2.St → R2) : Prop :=
  ∀ (pins : List (Addr × Obj)) (s : Shared) (σ : L2.St) (H : Hp) (x y : V) (v u : Value) (Q : VK), Inv X pins σ H s → RelV x v → RelV y u → r σ x y H Q → wpAny (model X.prog X.w) X.A (f v u) (EP X pins σ Q) X.xe s
def tOpS (r : L2.St → R2) (ta tb : TE) : TE := fun σ H Q => ta σ H fun x H1 => tb σ H1 fun y H2 => r σ x y H2 Q
theorem pe_opS {X : Cx} {a b : Expr} {ta tb : TE} {pos : Pos} {op : Operator} {r : L2.St → R2} (ho : OpRS X (binaryOp op) r) (ha : PE X a ta) (hb : PE X b tb) : PE X (.BinOp a op b pos) (tOpS r ta tb) :=
  ⟨fun pins s σ H Q I h => wpAny_BinOp (binT ha hb I h fun v u s2 x y H2 J rx ry q => ho pins s2 σ H2 x y v u Q J rx ry q)⟩
def rOwnLX (C : Addr) (sp : Sp) (W : WX) : L2.St → R2 := fun σ x y H Q => ∃ a dx fs i, x = .ref a ∧ y = .int i ∧ H a = some (.ins C dx fs) ∧ sp [x, y] H Q (wAt W σ)
def rOwnRX (C : Addr) (sp : Sp) (W : WX) : L2.St → R2 := fun σ x y H Q => ∃ a dx fs i, y = .ref a ∧ x = .int i ∧ H a = some (.ins C dx fs) ∧ sp [y, x] H Q (wAt W σ)
structure OprLX (P : Program) (w : World) (K : PySem.W.Frag) (mg : Str → Option Value) (base : Heap) (C : Addr) (op : Operator) (ps : List Str) (k : Nat) (sp : Sp) : Prop where
  ex : ∃ (f : Addr) (fd : FuncData), OwnL K C op f ∧ Binds K fd ps [] ∧ FnOk P w K mg base (L2.CX P w) k f fd ps sp
structure OprRX (P : Program) (w : World) (K : PySem.W.Frag) (mg : Str → Option Value) (base : Heap) (C : Addr) (op : Operator) (ps : List Str) (k : Nat) (sp : Sp) : Prop where
  ex : ∃ (f : Addr) (fd : FuncData), OwnR K C op f ∧ Binds K fd ps [] ∧ FnOk P w K mg base (L2.CX P w) k f fd ps sp
section
variable {X : Cx} {C f : Addr} {ps : List Str} {k : Nat} {sp : Sp} {op : Operator} {W : WX}
theorem op_LX (F : OprLX X.prog X.w X.K X.mg X.base C op ps k sp) (tk : Takes X W) (hr : Room k X.A) : OpRS X (binaryOp op) (rOwnLX C sp W) := by
  rintro pins s σ H x y v u Q I rx ry ⟨a, dx, fs, i, rfl, rfl, ea, q⟩
  obtain ⟨f, fd, O, hb, ok⟩ := F.ex
  cases rx
  obtain ⟨t, rfl⟩ := ry
  obtain ⟨mA, O', _⟩ := ins_get I.hok ea
  obtain ⟨od, J, _⟩ := O'.look
  obtain ⟨m, Fr⟩ := I.fr
  obtain ⟨rc, hrc, hp⟩ := O.rr
  obtain ⟨fo, h1⟩ := O.i1
  obtain ⟨ro, h2⟩ := O.i2
  refine PySem.W.ksp_binT Fr I.mod.kin J rfl O.sf O.find O.fn hrc hp h1 h2 O.sub ?_
  refine thn (run_fnX (us := [.ref a, .int i t]) (vs := [.ref a, .int i]) ok hr hb .nil tk I (.cons rfl (.cons ⟨t, rfl⟩ .nil)) q) fun u' s' ⟨v', H', I', rv, hv⟩ => ?_
  exact relV_back rv ⟨v', H', I', rv, hv⟩
theorem op_RX (F : OprRX X.prog X.w X.K X.mg X.base C op ps k sp) (N : IntNo op) (tk : Takes X W) (hr : Room k X.A) : OpRS X (binaryOp op) (rOwnRX C sp W) := by
  rintro pins s σ H x y v u Q I rx ry ⟨a, dx, fs, i, rfl, rfl, ea, q⟩
  obtain ⟨f, fd, O, hb, ok⟩ := F.ex
  cases ry
  obtain ⟨t, rfl⟩ := rx
  obtain ⟨mA, O', _⟩ := ins_get I.hok ea
  obtain ⟨od, J, _⟩ := O'.look
  obtain ⟨m, Fr⟩ := I.fr
  obtain ⟨rc, hrc, hp⟩ := O.ll
  obtain ⟨idl, slot, dec⟩ := N.ex
  refine own_right Fr I.mod.kin J O.sf hrc hp O.find O.fn O.sub N.fills slot (fun Q' hq => dec O'.obj rfl hq) ?_
  refine thn (run_fnX (us := [.ref a, .int i t]) (vs := [.ref a, .int i]) ok hr hb .nil tk I (.cons rfl (.cons ⟨t, rfl⟩ .nil)) q) fun u' s' ⟨v', H', I', rv, hv⟩ => ?_
  exact relV_back rv ⟨v', H', I', rv, hv⟩
end

/-! ### o op p, both of one own class -/
section
open PySem.W PySem.Calls PyProof.Rows
theorem own_same {prog : Program} {w : World} {A : Around} {E : Value → Shared → Prop} {s : Shared} {K : Frag} {x C L f : Addr} {h₀ : Heap} {m : Str → Option Value} {ox : Obj} {od : Option Obj} {v : Value} {op : Operator} {Q : Value → Shared → Prop}
    (F : Fr h₀ L s.heap m) (X₀ : K.In h₀) (I : InstAt s.heap x ox C od) (hv : Looks (model prog w) s.heap (typeOf v) (.ref C)) (hc : selfFirst K C = true)
    (hs : findIn K (.ref C) (PySem.dunder op.info.2) = some (some (.ref f))) (hf : isFn K (.ref f) = true) (h : wpAny (model prog w) A (call (.ref f) [.ref x, v]) (PySem.W.CmpBack Q) E s) : wpAny (model prog w) A (binaryOp op (.ref x) v) Q E s := by
  have X := X₀.keeps F.keep
  obtain ⟨cd, rest, hcd, hm⟩ := ksp_first hc
  rcases hi : op.info with ⟨sym, nm'⟩
  rw [hi] at hs
  dsimp only at hs
  have one := ksp_try X I hs hf h
  obtain ⟨hh, g, d, tt, os⟩ := s
  have L3 : Looks (model prog w) hh (fillsNumberSlot (.ref C) nm') true := fills_K X hcd hm hs
  simp only [binaryOp, hi]
  refine wpAny_holding (wpAny_bind ?_)
  unfold binaryOp1
  refine wpAny_bind (I.type.at (wpAny_bind (hv.at (wpAny_bind (L3.at ?_)))))
  simp only [beq_self_eq_true, if_true, pure_bind, Bool.and_false, Bool.false_and, Bool.false_eq_true, if_false]
  refine wpAny_bind (wpAny_mono one (fun r s2 hr2 => ?_) fun _ _ e => e)
  obtain ⟨u, rfl, hq⟩ := hr2
  exact wpAny_pure (wpAny_pure hq)
end
structure OwnS (K : PySem.W.Frag) (C : Addr) (op : Operator) (f : Addr) : Prop where
  sf : PySem.W.selfFirst K C = true
  find : PySem.W.findIn K (.ref C) (PySem.dunder op.info.2) = some (some (.ref f))
  fn : PySem.W.isFn K (.ref f) = true
structure OprSX (P : Program) (w : World) (K : PySem.W.Frag) (mg : Str → Option Value) (base : Heap) (C : Addr) (op : Operator) (ps : List Str) (k : Nat) (sp : Sp) : Prop where
  ex : ∃ (f : Addr) (fd : FuncData), OwnS K C op f ∧ Binds K fd ps [] ∧ FnOk P w K mg base (L2.CX P w) k f fd ps sp
def rOwnSX (C : Addr) (sp : Sp) (W : WX) : L2.St → R2 := fun σ x y H Q => ∃ a dx fs b dy gs, x = .ref a ∧ y = .ref b ∧ H a = some (.ins C dx fs) ∧ H b = some (.ins C dy gs) ∧ sp [x, y] H Q (wAt W σ)
theorem op_SX {X : Cx} {C : Addr} {ps : List Str} {k : Nat} {sp : Sp} {op : Operator} {W : WX} (F : OprSX X.prog X.w X.K X.mg X.base C op ps k sp) (tk : Takes X W) (hr : Room k X.A) : OpRS X (binaryOp op) (rOwnSX C sp W) := by
  rintro pins s σ H x y v u Q I rx ry ⟨a, dx, fs, b, dy, gs, rfl, rfl, ea, eb, q⟩
  obtain ⟨f, fd, O, hb, ok⟩ := F.ex
  cases rx
  cases ry
  obtain ⟨mA, O', _⟩ := ins_get I.hok ea
  obtain ⟨od, J, _⟩ := O'.look
  obtain ⟨mB, O2, _⟩ := ins_get I.hok eb
  obtain ⟨od2, J2, _⟩ := O2.look
  obtain ⟨m, Fr⟩ := I.fr
  refine own_same Fr I.mod.kin J J2.type O.sf O.find O.fn ?_
  refine thn (run_fnX (us := [.ref a, .ref b]) (vs := [.ref a, .ref b]) ok hr hb .nil tk I (.cons rfl (.cons rfl .nil)) q) fun u' s' ⟨v', H', I', rv, hv⟩ => ?_
  exact relV_back rv ⟨v', H', I', rv, hv⟩

/-! ### C.m(..), m a staticmethod -/
structure SMth (P : Program) (w : World) (K : PySem.W.Frag) (mg : Str → Option Value) (base : Heap) (C : Addr) (m : Str) (ps : List Str) (k : Nat) (sp : Sp) : Prop where
  cr : ClX.CRead K C (.type "type")
  ex : ∃ (f p : Addr) (rest : List Value) (fd : FuncData), PySem.W.findCls K (.ref C) (.type "type") m = some (.get (.builtin "staticmethod.__get__") (.ref p) .none (.ref C)) ∧ PySem.W.recIn K p "staticmethod" = some (.ref f :: rest) ∧ PySem.W.keepIn K (.ref f) = true ∧ Binds K fd ps [] ∧ FnOk P w K mg base CX0 k f fd ps sp
def tSMth (C : Addr) (sp : Sp) (to : TE) (t : TA) : TE := fun σ H Q => to σ H fun x H1 => x = .ref C ∧ t σ H1 fun vs H2 => sp (vs ++ []) H2 Q E0
theorem pe_smth {X : Cx} {C : Addr} {m : Str} {ps : List Str} {k : Nat} {sp : Sp} {o e : Expr} {es : List Expr} {to : TE} {t : TA} {pos apos : Pos} {pl : Sem Bool} (F : SMth X.prog X.w X.K X.mg X.base C m ps k sp) (hr : Room k X.A) (ho : PE X o to) (ha : PA X (e :: es) t)
    (hst : starEach (e :: es) X.env = (false, eval e X.env) :: starEach es X.env := by rfl) (hpl : (backTo pos (starEach es X.env)).any (·.1) = false := by rfl)
    (ht : eval (.Call (.Attribute o m apos) (e :: es) [] pos) X.env = (do
      let ov ← eval o X.env; standAt apos.atName
      let (f, first) ← holding [ov] (getMethod ov m pl)
      callWith pos f first (backTo pos (starEach (e :: es) X.env)) (backToKw pos (keywordEach [] X.env))) := by rfl) :
    PE X (.Call (.Attribute o m apos) (e :: es) [] pos) (tSMth C sp to t) := ⟨fun pins s σ H Q I h => by
  obtain ⟨f, p, rest, fd, hfc, hrc, hk, hb, ok⟩ := F.ex
  refine PySem.W.methodCall_KW (pl := pl) (thn (ho.run pins s σ H _ I h) fun u s1 hs => ?_) ht
  obtain ⟨x, H1, J, rx, ex, q⟩ := hs
  subst ex
  cases rx
  refine PySem.W.method_cls J.kIn F.cr.ga (PySem.W.cls_bind J.kIn F.cr.rd hfc (wpAny_call (PySem.W.sm_get (s := { s1 with toks := s1.toks + 1 }) J.kIn hrc ?_)))
  refine PySem.W.handed_on rfl ?_
  have J' := J.tok (s1.toks + 1)
  refine PySem.W.callWith_K (h₀ := X.base) J.ok.mod.kin hk (thn (ha.run pos pins _ σ H1 _ J' q) fun us s2 hs => ?_) hst hpl
  obtain ⟨vs, H2, J2, r, q2⟩ := hs
  exact ⟨J2.kIn, run_fn ok hr hb .nil pass0 J2 r q2⟩⟩

/-! ### x not in o, by an own __contains__ -/
def rOwnNin (C : Addr) (sp : Sp) : R2 := fun x y H Q => ∃ a dx fs, y = .ref a ∧ H a = some (.ins C dx fs) ∧ sp [y, x] H (fun v H' => ∃ c, v = .bl c ∧ Q (.bl (!c)) H') E0
theorem op_notin {X : Cx} {C : Addr} {ps : List Str} {k : Nat} {sp : Sp} (F : Opr X.prog X.w X.K X.mg X.base C "__contains__" ps k sp) (hr : Room k X.A) : OpR X (compareOp .NotIn) (rOwnNin C sp) := by
  rintro pins s σ H x y v u Q I rx ry ⟨a, dx, fs, rfl, ea, q⟩
  obtain ⟨f, fd, O, hb, ok⟩ := F.ex
  cases ry
  obtain ⟨mA, O', _⟩ := ins_get I.hok ea
  obtain ⟨od, J, _⟩ := O'.look
  obtain ⟨m, Fr⟩ := I.fr
  refine PySem.W.notIn_K Fr I.mod.kin J O.find O.fn ?_
  refine thn (run_fn (us := [.ref a, v]) (vs := [.ref a, x]) ok hr hb .nil pass0 I (.cons rfl (.cons rx .nil)) q) fun u' s' hs => ?_
  obtain ⟨v', H', I', rv, b, rfl, q'⟩ := hs
  cases rv
  exact wpAny_truthy_bool ⟨.bl (!b), H', I', rfl, q'⟩

/-! ### a caught error of an own class: isinstance -/
/-- what the class D must say, so that isinstance asks its instances rightly -/
structure XIs (K : PySem.W.Frag) (D : Addr) : Prop where
  x : XfC K D
  cl : (PySem.W.clsIn K D).isSome = true
  ha : PySem.W.findIn K (.ref D) "__class__" = some (some (.builtin "object.__class__"))
  hn : PySem.W.specialIn K (.builtin "object.__class__") "__get__" = some (some (.builtin "getset_descriptor.__get__"))
  ht : PySem.W.takesIn K (.builtin "object.__class__") = some true
  hm : PySem.W.mroIn K D (.type "object") = some true
def rIsX (K : PySem.W.Frag) (a : Addr) (cls : Value) (d : Option Addr) (D : Addr) : List V → Hp → VK → Prop := fun xs H Q => ∃ (c : V) (cv : Value) (b : Bool) (dd : Addr) (fs : List (Str × V)), xs = [.ref a, c] ∧ cls = .ref D ∧ d = some dd ∧ H dd = some (.xd fs) ∧
  (∀ u, RelV c u → u = cv) ∧ PySem.W.kitOne K (.ref D) cv = some b ∧ Q (.bl b) H
theorem call_isX {X : Cx} {a D : Addr} {oe : Obj} {cls : Value} {d : Option Addr} {pn : List (Addr × Obj)} (N : XIs X.K D) (hz : Zc cls d oe) (hf : ∃ vs, oe.data = .fields vs) : CallR (X.suite a ((a, oe) :: pn)) (.builtin "isinstance") (rIsX X.K a cls d D) := by
  rintro pins s σ H xs us Q I r ⟨c, cv, b, dd, fs, rfl, rfl, rfl, ed, hcv, e, q⟩
  match us, r with
  | [u0, u1], .cons rx (.cons rt .nil) =>
    cases rx
    have ec := hcv _ rt
    subst ec
    have hget := (I.pin (a, oe) (List.mem_append.mpr (.inl List.mem_cons_self))).1
    obtain ⟨vs, hv⟩ := hf
    have hx : ObjOk X.prog X.w H s.heap dd (.xd fs) := I.hok dd _ ed
    obtain ⟨mA, hns, hrel⟩ := hx
    obtain ⟨od, ho, hl⟩ := lookIn_ns hns
    have J : PySem.W.InstAt s.heap a oe D (some od) := ⟨hget, hz.1, by unfold PySem.W.notCls; rw [hv] <;> rfl, by rw [hz.2]; exact ho⟩
    exact PySem.W.kia_one (PySem.W.kitx_exc N.cl N.x.ga N.x.gg N.x.exC N.ha N.hn N.ht N.hm) I.kIn J e (fun z => nomatch z) fun tk => ⟨.bl b, H, I.kept (t' := tk) fun _ _ z => z, rfl, q⟩
/-- the clause's test: the very class -/
theorem exm_own {K : PySem.W.Frag} {C : Addr} {cls : Value} {b : Bool} (h1 : PySem.W.subIn K (.ref C) (.type "BaseException") = some true) (hc : (PySem.W.clsIn K C).isSome = true) (ht : PySem.W.typeIn K (.ref C) = some (.type "type")) (h4 : PySem.W.subIn K cls (.ref C) = some b) :
    PySem.W.exmOne K cls (.ref C) = some b := by
  have e1 : (PySem.W.subIn K (.ref C) (.type "BaseException") == some true) = true := by rw [h1] <;> rfl
  have e2 : ((PySem.W.clsIn K C).isSome && PySem.W.typeIn K (.ref C) == some (.type "type")) = true := by rw [hc, ht] <;> rfl
  show (if (PySem.W.subIn K (.ref C) (.type "BaseException") == some true) = true then (if ((PySem.W.clsIn K C).isSome && PySem.W.typeIn K (.ref C) == some (.type "type")) = true then PySem.W.subIn K cls (.ref C) else none) else none) = some b
  rw [if_pos e1, if_pos e2, h4]
/-- all that is used of an own error class -/
structure ETxt (K : PySem.W.Frag) (mg : Str → Option Value) (x : Str) (C : Addr) : Prop where
  g : mg x = some (.ref C)
  oex : OexC K C
  is : XIs K C
  te : PySem.W.exmOne K (.ref C) (.ref C) = some true
theorem kit_xC {K : PySem.W.Frag} {t : Value} {D : Addr} {b : Bool} (h1 : PySem.W.isClsIn K D = true) (h2 : PySem.W.typeIn K (.ref D) = some (.type "type")) (h3 : PySem.W.subIn K t (.ref D) = some b) : (t = .ref D → b = true) → PySem.W.kitOne K t (.ref D) = some b := fun hb => by
  unfold PySem.W.kitOne
  by_cases e : t = .ref D
  · rw [if_pos (beq_iff_eq.mpr e), hb e]
  · rw [if_neg (fun z => e (beq_iff_eq.mp z))]
    have q : ((PySem.W.clsIn K D).isSome && PySem.W.typeIn K (.ref D) == some (.type "type")) = true := by
      rw [h2, show (PySem.W.clsIn K D).isSome = true from h1]
      rfl
    show (if ((PySem.W.clsIn K D).isSome && PySem.W.typeIn K (.ref D) == some (.type "type")) = true then PySem.W.subIn K t (.ref D) else none) = some b
    rw [if_pos q, h3]
theorem kit_xT {K : PySem.W.Frag} {C : Addr} {b : Bool} (h3 : PySem.W.subIn K (.ref C) (.type "ValueError") = some b) : PySem.W.kitOne K (.ref C) (.type "ValueError") = some b := by
  have km : PySem.W.kitMeta "ValueError" = true := by decide +kernel
  have e : PySem.W.kitCls K (.ref C) (.type "ValueError") = some b := by
    show (if PySem.W.kitMeta "ValueError" = true then PySem.W.subIn K (.ref C) (.type "ValueError") else none) = some b
    rw [if_pos km]
    exact h3
  show (if ((Value.ref C) == (.type "ValueError")) = true then some true else PySem.W.kitCls K (.ref C) (.type "ValueError")) = some b
  have ne : ¬ ((Value.ref C == .type "ValueError") = true) := fun z => by cases beq_iff_eq.mp z
  rw [if_neg ne]
  exact e
/-! ### what such an __init__ leaves, and raise -/
/-- __init__(self, x): self.f = x -/
def spErr1 (C : Addr) (f : Str) (ok : V → Prop) : Sp := fun vs H Q _ => ∃ (a : Addr) (v : V), vs = [.ref a, v] ∧ H a = some (exo a C none) ∧ ok v ∧ ∀ d, H d = none → d ≠ a → Q .non (upd (upd H d (exd d [(f, v)])) a (exo a C (some d)))
/-- __init__(self, x, y): self.f = x; self.g = y -/
def spErr2 (C : Addr) (f g : Str) (ok : V → V → Prop) : Sp := fun vs H Q _ => ∃ (a : Addr) (v u : V), vs = [.ref a, v, u] ∧ H a = some (exo a C none) ∧ ok v u ∧ ∀ d, H d = none → d ≠ a → Q .non (upd (upd (upd H d (exd d [(f, v)])) a (exo a C (some d))) d (exd d [(g, u), (f, v)]))
section
variable {K : PySem.W.Frag} {H : Hp} {C : Addr} {f g : Str}
/-- an error with one field is made -/
theorem rErr1 {ok : V → Prop} {v : V} {R : XK} (o : ok v) (h : ∀ d H', H d = none → Same H H' → H' d = some (.xd [(f, v)]) → R (.ref C) (some d) H') :
    [v].length ≤ 1000 ∧ ∀ a, H a = none → spErr1 C f ok (.ref a :: ([v] ++ [])) (upd H a (exo a C none)) (fun z H2 => z = .non ∧ ∃ (d : Addr) (fs : List (Str × V)), H2 a = some (exo a C (some d)) ∧ H2 d = some (exd d fs) ∧ H d = none ∧ R (.ref C) (some d) (upd (del H2 a) d (.xd fs))) (fun _ _ _ => False) := by
  refine ⟨(by show 1 ≤ 1000; decide), fun a ha => ⟨a, v, rfl, upd_same, o, fun d hd ne => ⟨rfl, d, _, upd_same, ?_, ?_, h _ _ ?_ (fun b u e => ?_) upd_same⟩⟩⟩
  · rw [upd_ne ne, upd_same]
  · rwa [upd_ne ne] at hd
  · rwa [upd_ne ne] at hd
  · have hd' : H d = none := by rwa [upd_ne ne] at hd
    have nd : b ≠ d := ne_of_none e hd'
    have na : b ≠ a := ne_of_none e ha
    rw [upd_ne nd, del_ne na, upd_ne na, upd_ne nd, upd_ne na, e]
theorem rErr2 {ok : V → V → Prop} {v u : V} {R : XK} (o : ok v u) (h : ∀ d H', H d = none → Same H H' → H' d = some (.xd [(g, u), (f, v)]) → R (.ref C) (some d) H') :
    [v, u].length ≤ 1000 ∧ ∀ a, H a = none → spErr2 C f g ok (.ref a :: ([v, u] ++ [])) (upd H a (exo a C none)) (fun z H2 => z = .non ∧ ∃ (d : Addr) (fs : List (Str × V)), H2 a = some (exo a C (some d)) ∧ H2 d = some (exd d fs) ∧ H d = none ∧ R (.ref C) (some d) (upd (del H2 a) d (.xd fs))) (fun _ _ _ => False) := by
  refine ⟨(by show 2 ≤ 1000; decide), fun a ha => ⟨a, v, u, rfl, upd_same, o, fun d hd ne => ⟨rfl, d, _, ?_, upd_same, ?_, h _ _ ?_ (fun b u e => ?_) upd_same⟩⟩⟩
  · rw [upd_ne (Ne.symm ne), upd_same]
  · rwa [upd_ne ne] at hd
  · rwa [upd_ne ne] at hd
  · have hd' : H d = none := by rwa [upd_ne ne] at hd
    have nd : b ≠ d := ne_of_none e hd'
    have na : b ≠ a := ne_of_none e ha
    rw [upd_ne nd, del_ne na, upd_ne nd, upd_ne na, upd_ne nd, upd_ne na, e]
theorem lk_hd {f : Str} {v : V} {fs : List (Str × V)} : ((f, v) :: fs).lookup f = some v := by simp [List.lookup]
theorem lk_tl {f g : Str} {v u : V} {fs : List (Str × V)} (n : (f == g) = false) (h : fs.lookup f = some v) : ((g, u) :: fs).lookup f = some v := by simp [List.lookup, n, h]
theorem rCat_ {l b : Addr} {xs zs : List V} {Q : VK} (h1 : H l = some (.lst xs)) (h2 : H b = some (.lst zs)) (hz : xs.length + zs.length ≤ sizeLine) (h : ∀ p, H p = none → Q (.ref p) (upd H p (.lst (xs ++ zs)))) : rCat (.ref l) (.ref b) H Q := ⟨l, b, xs, zs, rfl, rfl, h1, h2, hz, h⟩
/-- a tuple is unpacked -/
theorem rTupU {a : Addr} {n : Nat} {xs : List V} {t : TGs} {σ : L2.St} {R : L2.St → Hp → Prop} (h : SqT K H a xs) (l : xs.length = n) (q : t xs σ H R) : gTup K n t (.ref a) σ H R := ⟨a, xs, rfl, h, l, q⟩
/-- the clause takes it -/
theorem rTake {c cls : Value} {i : Nat} {ts : Addr → Value → Option Addr → TS} {Wout : WX} {D : Ends} {σ : L2.St} {d : Option Addr} (te : PySem.W.exmOne K cls c = some true)
    (h : ∀ a, H a = none → ts a cls d { nx := fun σ' H' => D.nx (σ'.set i none) H', rt := D.rt, bk := fun σ' H' => D.bk (σ'.set i none) H', ct := fun σ' H' => D.ct (σ'.set i none) H' } (σ.set i (some (.ref a))) H) : wAs K c i ts Wout D cls d σ H :=
  ⟨true, te, fun _ => h, fun z => nomatch z⟩
/-- e.f of the caught error -/
theorem rXf {a dd : Addr} {fs : List (Str × V)} {v : V} {R : V → Prop} (hd : H dd = some (.xd fs)) (l : fs.lookup f = some v) (r : R v) :
    (V.ref a : V) = .ref a ∧ (Value.ref C : Value) = .ref C ∧ ∃ (d' : Addr) (fs : List (Str × V)) (v : V), some dd = some d' ∧ H d' = some (.xd fs) ∧ fs.lookup f = some v ∧ R v := ⟨rfl, rfl, dd, fs, v, rfl, hd, l, r⟩
theorem rIsX_ {c : V} {cv : Value} {b : Bool} {a dd D : Addr} {fs : List (Str × V)} {Q : VK} (hd : H dd = some (.xd fs)) (hc : ∀ u, RelV c u → u = cv) (k : PySem.W.kitOne K (.ref D) cv = some b) (q : Q (.bl b) H) : rIsX K a (.ref D) (some dd) D [.ref a, c] H Q :=
  ⟨c, cv, b, dd, fs, rfl, rfl, rfl, hd, hc, k, q⟩
theorem rIsXC {E : Addr} {b : Bool} {a dd D : Addr} {fs : List (Str × V)} {Q : VK} (hd : H dd = some (.xd fs)) (k : PySem.W.kitOne K (.ref D) (.ref E) = some b) (q : Q (.bl b) H) : rIsX K a (.ref D) (some dd) D [.ref a, .ref E] H Q :=
  rIsX_ hd (fun _ h => h) k q
theorem rIsXT {T : String} {b : Bool} {a dd D : Addr} {fs : List (Str × V)} {Q : VK} (hd : H dd = some (.xd fs)) (k : PySem.W.kitOne K (.ref D) (.type T) = some b) (q : Q (.bl b) H) : rIsX K a (.ref D) (some dd) D [.ref a, .ty T] H Q :=
  rIsX_ hd (fun _ h => h) k q
end
/-- a loop over range(i, j) -/
theorem forW {D : Ends} {σ : L2.St} {H : Hp} {g : TG} {tb : TS} {i j : Int} (n : Nat) (e : (j - i).toNat = n) (Pv : Nat → L2.St → Hp → Prop) (h0 : Pv 0 σ H)
    (hs : ∀ k σ H, k < n → Pv k σ H → g (.int (i + (k : Int))) σ H fun σ2 H2 => tb ⟨Pv (k + 1), D.rt, D.nx, Pv (k + 1)⟩ σ2 H2) (hd : ∀ σ H, Pv n σ H → D.nx σ H) :
    ∃ i' j', [V.int i, V.int j] = [V.int i', V.int j'] ∧ ∃ W : Nat → Nat → L2.St → Hp → Prop, (∃ m, W 0 m σ H) ∧ ∀ k m σ H, W k m σ H →
      ((Itr i' (j' - i').toNat).stop k H ∧ D.nx σ H) ∨ ((Itr i' (j' - i').toNat).go k H ∧ ∃ N : L2.St → Hp → Prop, (∀ σ' H', N σ' H' → ∃ m', m' < m ∧ W (k + 1) m' σ' H') ∧ ∀ x H', (Itr i' (j' - i').toNat).yld k H x H' → g x σ H' fun σ2 H2 => tb { D with nx := N, ct := N, bk := D.nx } σ2 H2) := by
  subst e
  exact ⟨i, j, rfl, for_range (lo := i) (n := (j - i).toNat) Pv h0 hs hd⟩
theorem rMin2 {i j : Int} {H : Hp} {Q : VK} (h : Q (.int (if j < i then j else i)) H) : ∃ i' j', [V.int i, V.int j] = [V.int i', V.int j'] ∧ Q (.int (if j' < i' then j' else i')) H := ⟨i, j, rfl, h⟩
section
variable {D : Ends} {σ : L2.St} {H : Hp} {Q : VK} {sp : Sp} {dvs : List V} {W : WX} {t : TA} {ta tb te : TE} {C : Addr} {R : XK} {K : PySem.W.Frag} {f m : Str}
instance : Rd (tCallX sp dvs W t σ H Q) (t σ H fun vs H1 => sp (vs ++ dvs) H1 Q (wAt W σ)) := ⟨fun h => h⟩
instance : Rd (tMakeX C sp dvs W t σ H Q) (t σ H fun vs H1 => ∀ x dx, H1 x = none → H1 dx = none → dx ≠ x →
  sp (.ref x :: (vs ++ dvs)) (upd (upd H1 dx (.own x)) x (.ins C dx [])) (fun v H2 => v = .non ∧ Q (.ref x) H2) (wAt W σ)) := ⟨fun h => h⟩
instance : Rd (tMethX C m sp dvs W ta t σ H Q) (ta σ H fun x H1 => ∃ a dx fs, x = .ref a ∧ H1 a = some (.ins C dx fs) ∧ fs.lookup m = none ∧ t σ H1 fun vs H2 => sp (x :: (vs ++ dvs)) H2 Q (wAt W σ)) := ⟨fun h => h⟩
instance {to : TE} : Rd (tSMth C sp to t σ H Q) (to σ H fun x H1 => x = .ref C ∧ t σ H1 fun vs H2 => sp (vs ++ []) H2 Q E0) := ⟨fun h => h⟩
instance {r : L2.St → R2} : Rd (tOpS r ta tb σ H Q) (ta σ H fun x H1 => tb σ H1 fun y H2 => r σ x y H2 Q) := ⟨fun h => h⟩
instance : Rd (tMkO C sp dvs t σ H R) (t σ H fun vs H1 => vs.length ≤ 1000 ∧ ∀ a, H1 a = none → sp (.ref a :: (vs ++ dvs)) (upd H1 a (exo a C none))
  (fun v H2 => v = .non ∧ ∃ (d : Addr) (fs : List (Str × V)), H2 a = some (exo a C (some d)) ∧ H2 d = some (exd d fs) ∧ H1 d = none ∧ R (.ref C) (some d) (upd (del H2 a) d (.xd fs))) (fun _ _ _ => False)) := ⟨fun h => h⟩
instance : Rd (tVeI K t σ H Q) (t σ H fun vs H1 => ∃ (a C : Addr) (ws : List V), vs = .ref a :: ws ∧ ws.length ≤ 1000 ∧ OexC K C ∧ H1 a = some (exo a C none) ∧ Q .non H1) := ⟨fun h => h⟩
instance : Rd (tOst K f ta te D σ H) (te σ H fun y H1 => ta σ H1 fun x H2 => ∃ a C : Addr, x = .ref a ∧ OexC K C ∧ PySem.W.findIn K (.ref C) f = some none ∧
  ((H2 a = some (exo a C none) ∧ ∀ dx, H2 dx = none → dx ≠ a → D.nx σ (upd (upd H2 dx (exd dx [(f, y)])) a (exo a C (some dx)))) ∨
    ∃ (dx : Addr) (fs : List (Str × V)), H2 a = some (exo a C (some dx)) ∧ H2 dx = some (exd dx fs) ∧ fs.length ≤ 900 ∧ D.nx σ (upd H2 dx (exd dx ((f, y) :: fs))))) := ⟨fun h => h⟩
instance {a : Addr} {cls : Value} {d : Option Addr} : Rd (tXf a cls d C f te σ H Q) (te σ H fun x H1 => x = .ref a ∧ cls = .ref C ∧ ∃ (dd : Addr) (fs : List (Str × V)) (v : V), d = some dd ∧ H1 dd = some (.xd fs) ∧ fs.lookup f = some v ∧ Q v H1) := ⟨fun h => h⟩
instance {n m : Nat} {gV : List V → List V → List V} {E : XK} {tk : TA} : Rd (tMakeN C n m sp gV E t tk σ H Q) (t σ H fun vs H1 => tk σ H1 fun zs H2 => vs.length = n ∧ zs.length = m ∧
  ∀ x dx, H2 x = none → H2 dx = none → dx ≠ x → sp (gV (.ref x :: vs) zs) (upd (upd H2 dx (.own x)) x (.ins C dx [])) (fun v H3 => v = .non ∧ Q (.ref x) H3) E) := ⟨fun h => h⟩
instance {i j : Nat} : Rd (tPar i j t D σ H) (t σ H fun vs H1 => ∃ v w, vs = [v, w] ∧ D.nx ((σ.set i (some v)).set j (some w)) H1) := ⟨fun h => h⟩
instance {x y : V} {R : V → V → Prop} : Rd (∃ v w, [x, y] = [v, w] ∧ R v w) (R x y) := ⟨fun h => ⟨x, y, rfl, h⟩⟩
instance {QI : It → Hp → Prop} : Rd (iRngW t σ H QI) (t σ H fun vs H1 => ∃ i j : Int, vs = [.int i, .int j] ∧ QI (Itr i (j - i).toNat) H1) := ⟨fun h => h⟩
instance : Rd (tRevL K te σ H Q) (te σ H fun x H1 => ∃ a xs, x = .ref a ∧ SqL K H1 a xs ∧ ∀ p, H1 p = none → Q (.ref p) (upd H1 p (.lst xs.reverse))) := ⟨fun h => h⟩
instance {y : V} {ys : List V} {S : V → List V → Prop} : Rd (∃ v r, (y :: ys) = v :: r ∧ S v r) (S y ys) := ⟨fun h => ⟨y, ys, rfl, h⟩⟩
instance {R : Prop} : Rd (([] : List V) = [] ∧ R) R := ⟨fun h => ⟨rfl, h⟩⟩
instance {tg : TG} {u : TGs} {vs : List V} {QS : L2.St → Hp → Prop} : Rd (gCons tg u vs σ H QS) (∃ v r, vs = v :: r ∧ tg v σ H fun σ' H' => u r σ' H' QS) := ⟨fun h => h⟩
instance {vs : List V} {QS : L2.St → Hp → Prop} : Rd (gNil vs σ H QS) (vs = [] ∧ QS σ H) := ⟨fun h => h⟩
instance {d : Option Addr} {cls : Value} : Rd (wAt W σ cls d H) (W cls d σ H) := ⟨fun h => h⟩
end
section
variable {σ τ : L2.St} {H : Hp} {g : TG} {tt : TT} {te : TE} {vs : List Nat}
/-- over a tuple that stands still -/
theorem lcT {K : PySem.W.Frag} {a : Addr} {xs : List V} {R : Addr → Hp → Prop} (ew : wipe σ vs = τ) (hx : SqT K H a xs)
    (h : ∀ D, H D = none → ∃ Pv : Nat → Hp → Prop, Pv 0 (upd H D (.lst [])) ∧ (∀ i H', i ≤ xs.length → Pv i H' → SqT K H' a xs) ∧
      (∀ i x H', xs[i]? = some x → Pv i H' → g x τ H' fun σ2 H2 => wipe σ2 vs = τ ∧ tt σ2 H2 fun b H3 =>
        if b = true then te σ2 H3 fun y H4 => ∃ acc, H4 D = some (.lst acc) ∧ acc.length < sizeLine ∧ Pv (i + 1) (upd H4 D (.lst (acc ++ [y]))) else Pv (i + 1) H3) ∧ ∀ H', Pv xs.length H' → R D H') :
    ∃ a', V.ref a = V.ref a' ∧ (∃ xs, SqT K H a' xs) ∧ ∀ D, H D = none → ∃ W : Nat → Nat → Hp → Prop, (∃ m, W 0 m (upd H D (.lst []))) ∧ ∀ i m H, W i m H →
      ((Itt K a').stop i H ∧ R D H) ∨ ((Itt K a').go i H ∧ ∃ Nx : Hp → Prop, (∀ H', Nx H' → ∃ m', m' < m ∧ W (i + 1) m' H') ∧ ∀ x H', (Itt K a').yld i H x H' → g x (wipe σ vs) H' fun σ2 H2 => wipe σ2 vs = wipe σ vs ∧ tt σ2 H2 fun b H3 =>
        if b = true then te σ2 H3 fun y H4 => ∃ acc, H4 D = some (.lst acc) ∧ acc.length < sizeLine ∧ Nx (upd H4 D (.lst (acc ++ [y]))) else Nx H3) := by
  subst ew
  refine ⟨a, rfl, ⟨xs, hx⟩, fun D hD => ?_⟩
  obtain ⟨Pv, h0, hl, hs, hd⟩ := h D hD
  exact lc_tup Pv h0 hl hs hd
end
end Bar

set_option Elab.async false
set_option linter.all false
set_option maxRecDepth 100000
set_option maxHeartbeats 4000000
namespace Bar
open PySem L2 PySem.Spec PyProof.Rows
/-- several clauses that give what they take one and the same name -/
abbrev TakeL := List (Value × (Addr → Value → Option Addr → TS))
def wAll (K : PySem.W.Frag) (i : Nat) (Wout : WX) (D : Ends) : TakeL → WX
  | [] => Wout
  | p :: r => wAs K p.1 i p.2 (wAll K i Wout D r) D
/-- the clauses as they are written, and what is read of each -/
inductive Clauses (X : Cx) (n : Str) : List ExceptHandler → TakeL → Prop
  | nil : Clauses X n [] []
  | cons {x : Str} {c : Value} {ts : Addr → Value → Option Addr → TS} {st : Stmt} {rest : List Stmt} {q q' : Pos} {more : List ExceptHandler} {l : TakeL} (names : Names X x c)
      (body : ∀ (a : Addr) (ob : Obj) (k : Value) (d : Option Addr) (pn : List (Addr × Obj)), Zc k d ob → (∃ fs, ob.data = .fields fs) → PSs (X.suite a ((a, ob) :: pn)) (st :: rest) (ts a k d))
      (tail : Clauses X n more l) : Clauses X n (.ExceptHandler (some (.Name x q)) (some n) (st :: rest) q' :: more) ((c, ts) :: l)
section
variable {X : Cx} {n : Str} {i : Nat} {body : List Stmt} {hd : ExceptHandler} {hds : List ExceptHandler} {l : TakeL} {pos : Pos} {tb : WX → TS} {Wout : WX}
theorem ps_try_all (st : X.stack = X.env :: X.outer) (fr : X.env.frame = some X.env.locals) (nd : X.N.Nodup) (at_i : X.N[i]? = some n) (loc : X.env.kindOf n = some .local) (tk : Takes X Wout)
    (run : ∀ (W : WX) (pn : List (Addr × Obj)) (xe : Value → Shared → Prop), Takes (X.tr pn xe) W → PassesOwn (model X.prog X.w) X.A X.env xe → PSs (X.tr pn xe) body (tb W))
    (cs : Clauses X n (hd :: hds) l) : PS X (.Try body (hd :: hds) [] [] pos) (fun D σ H => tb (wAll X.K i Wout D l) D σ H) := by
  constructor
  intro pins s σ H D I h
  have ok := I.ok
  have frs_eq : X.A.frames = some (X.env :: X.outer) := ok.frames.trans (by rw [st])
  have catches : Takes (X.tr (X.pn ++ pins) fun e s₁ => wpAny (model X.prog X.w) X.A (noteFrame e X.env) (fun _ s₂ => wpAny (model X.prog X.w) X.A (setFlight e none) (fun _ s₃ => wpAny (model X.prog X.w) X.A (handleBy e X.env (hd :: hds)) (SP X pins D) X.xe s₃) X.xe s₂) X.xe s₁)
      (wAll X.K i Wout D l) := by
    intro u s' hx
    obtain ⟨a, B, sI, pins', τ, G, k, d, rfl, J0, nb, up, sky, na, os, ag, w⟩ := hx
    have J : Inv X pins τ G sI := J0.ofTry ok
    rw [show (X.tr (X.pn ++ pins) _).stack = X.stack from rfl, st] at sky
    refine Sky.land Zc.steady frs_eq fr sky fun h3 fly up3 => ?_
    have J3 : Inv X pins τ G { s' with heap := h3 } := J.landed nb fly.1 (up.trans up3) os ag
    obtain ⟨ob, fs, e_ob, z_ob, f_ob⟩ := fly.there
    have apart : a ∉ frs (X.env :: X.outer) := fun hm => by
      obtain ⟨_, o', e', no⟩ := fly.2.2.1.mem hm
      cases e_ob.symm.trans e'
      exact no _ f_ob
    have n1 : a ≠ X.env.locals := fun z => apart (List.mem_filterMap.mpr ⟨X.env, .head _, by rw [fr, z]⟩)
    have n2 : a ∉ X.fs := fun hm => by
      obtain ⟨e, he, q⟩ := List.mem_filterMap.mp hm
      exact apart (List.mem_filterMap.mpr ⟨e, .tail _ he, q⟩)
    have S3 := J3.suite e_ob f_ob na n1 n2
    suffices go : ∀ {hs : List ExceptHandler} {m : TakeL}, Clauses X n hs m → wAll X.K i Wout D m k d τ G → wpAny (model X.prog X.w) X.A (handleBy (.ref a) X.env hs) (SP X pins D) X.xe { s' with heap := h3 } from go cs w
    intro hs m hk
    induction hk with
    | nil =>
      intro w
      refine wpAny_handleBy_nil ?_
      obtain ⟨_, _, _, oe, vs, Tr, oT, ts', he, hz, hd', h1, _⟩ := id fly
      unfold PySem.passOn
      refine wpAny_bind (wpAny_field he hd' h1 ?_)
      rw [if_neg (show ¬ ((Value.ref Tr == Value.none) = true) by simp)]
      have out : wpAny (model X.prog X.w) X.A (setFlight (.ref a) X.env.frame) (fun _ s4 => wpAny (model X.prog X.w) X.A (throw (.ref a) : Sem Flow) (SP X pins D) X.xe s4) X.xe { s' with heap := h3 } := by
        rw [fr]
        refine HandSPX.setFlight_upZ fly fun h4 hh4 up4 => wpAny_throw (tk _ _ ⟨a, B, sI, pins, τ, G, k, d, rfl, J, nb, (up.trans up3).trans up4, .inr (.inr (by rw [st]; exact hh4)), na, os, ag, w⟩)
      first
        | exact wpAny_bind (wpAny_pure (wpAny_bind out))
        | exact wpAny_bind out
    | @cons x c ts s0 rest q q' more m2 names suite tail ih =>
      intro w
      obtain ⟨b, e1, yes, no⟩ := w
      refine wpAny_handleBy_cons (codeAny_handlers_test ?_) (by intro q; cases q)
      have ty : PySem.W.Looks (model X.prog X.w) h3 (typeOf (.ref a)) k := fun A Q E s kk q => wpAny_typeOf_ref (kk _ _ e_ob) (by rw [z_ob.1]; exact q)
      have match_ := PySem.W.exm_one (M := model X.prog X.w) J3.kIn ty e1
      have reads : ∀ {Q : Value → Shared → Prop} {E : Value → Shared → Prop}, Q c { s' with heap := h3 } → wpAny (model X.prog X.w) (X.A.mark (some (.ref a))) (eval (.Name x q) X.env) Q E { s' with heap := h3 } := fun {Q E} hq => by
        obtain ⟨g, db, hm | ⟨hm, hv, nn⟩⟩ := names
        · exact ld_glob (X := X.suite a ((a, ob) :: (X.pn ++ pins))) S3 g hm hq db
        · exact ld_blt (X := X.suite a ((a, ob) :: (X.pn ++ pins))) S3 g hm hv hq nn db
      refine reads (match_.here ?_)
      cases b with
      | false => exact ih (no rfl)
      | true =>
        refine codeAny_handlers_suite_as ?_
        refine HandSPX.lands_againZ fly fun h4 fly4 up4 => ?_
        have J4 : Inv X pins τ G { s' with heap := h4 } := J.landed nb fly4.1 ((up.trans up3).trans up4) os ag
        obtain ⟨ob4, fs4, e4, z4, f4⟩ := fly4.there
        have S4 := J4.suite e4 f4 na n1 n2
        refine store_ok (X := X.suite a ((a, ob4) :: (X.pn ++ pins))) (v := .ref a) S4 nd at_i (.inl loc) rfl (fun s5 S5 => ?_) (.inr loc)
        refine wpAny_mono ((suite a ob4 k d (X.pn ++ pins) z4 ⟨_, f4⟩).run [] s5 _ G _ S5 (yes rfl a na)) (fun f s6 sp => ?_) (fun _ _ z => z.elim)
        have ends : ∀ {ρ : L2.St} {H6 : Hp} {Q : Shared → Prop}, Inv (X.suite a ((a, ob4) :: (X.pn ++ pins))) [] ρ H6 s6 → (∀ s7, Inv X pins (ρ.set i none) H6 s7 → Q s7) → wpAny (model X.prog X.w) X.A (do bindName X.env n .none; unbindBehindTheSuite X.env n q') (fun _ s7 => Q s7) X.xe s6 :=
          fun S6 hq => gone_ok (S6.unsuite ok) nd at_i loc hq
        cases f with
        | next => obtain ⟨_, _, S6, z⟩ := sp; exact ends S6 fun s7 J7 => ⟨_, _, J7, z⟩
        | brk => obtain ⟨_, _, S6, z⟩ := sp; exact ends S6 fun s7 J7 => ⟨_, _, J7, z⟩
        | cont => obtain ⟨_, _, S6, z⟩ := sp; exact ends S6 fun s7 J7 => ⟨_, _, J7, z⟩
        | ret u => obtain ⟨_, _, _, S6, r6, z⟩ := sp; exact ends S6 fun s7 J7 => ⟨_, _, _, J7, r6, z⟩
  refine wpAny_Try_except (wpAny_mono ((run _ (X.pn ++ pins) _ catches PassesOwn.looking).run [] s σ H D (I.toTry _) h) (fun f s1 sp => ?_) (fun _ _ z => z))
  cases f with
  | next => obtain ⟨_, _, J', z⟩ := sp; exact wpAny_execs_nil ⟨_, _, J'.ofTry ok, z⟩
  | brk => obtain ⟨_, _, J', z⟩ := sp; exact ⟨_, _, J'.ofTry ok, z⟩
  | cont => obtain ⟨_, _, J', z⟩ := sp; exact ⟨_, _, J'.ofTry ok, z⟩
  | ret u => obtain ⟨_, _, _, J', r, z⟩ := sp; exact ⟨_, _, _, J'.ofTry ok, r, z⟩
end
instance {K : PySem.W.Frag} {i : Nat} {W : WX} {D : Ends} {c : Value} {ts : Addr → Value → Option Addr → TS} {r : TakeL} {cls : Value} {d : Option Addr} {σ : L2.St} {H : Hp} : Rd (wAll K i W D ((c, ts) :: r) cls d σ H) (wAs K c i ts (wAll K i W D r) D cls d σ H) := ⟨fun h => h⟩
/-- the clause leaves it to the next one -/
theorem rPass {K : PySem.W.Frag} {c cls : Value} {i : Nat} {ts : Addr → Value → Option Addr → TS} {Wout : WX} {D : Ends} {σ : L2.St} {H : Hp} {d : Option Addr} (te : PySem.W.exmOne K cls c = some false) (h : Wout cls d σ H) : wAs K c i ts Wout D cls d σ H :=
  ⟨false, te, (fun z => nomatch z), fun _ => h⟩
end Bar

local macro_rules | `(tactic| walk_at "rc") => `(tactic| first
  | decide | assumption | omega
  | exact Or.inr ⟨by decide, by decide⟩ | exact Or.inl ⟨by decide, by decide⟩ | exact ⟨by decide, by decide⟩)
local macro_rules | `(tactic| walk_at "lk1") => `(tactic| ((with_reducible refine Bar.lkNew ?hp ?h); (case hp => with_reducible assumption); (case h => walk_at "lk")))
local macro_rules | `(tactic| walk_at "lk2") => `(tactic| ((with_reducible refine Bar.lkNe ?n ?h); (case n => with_reducible first | assumption | exact Ne.symm (by assumption)); (case h => walk_at "lk")))
local macro_rules | `(tactic| walk_at "lk3") => `(tactic| ((with_reducible refine Bar.lkMut (o' := ?o) ?h ?hp ?d); (case h => walk_at "lk"); (case hp => walk_at "lk"); (case d => (intro z; cases z))))
local macro_rules | `(tactic| walk_at "lk4") => `(tactic| ((with_reducible refine Bar.lkKn (b := ?b) (H := ?H) ?k ?n ?h); (case k => with_reducible assumption); (case n => with_reducible first | assumption | exact Ne.symm (by assumption)); (case h => walk_at "lk")))
local macro_rules | `(tactic| walk_at "lk5") => `(tactic| ((with_reducible refine Bar.lkKp (b := ?b) (H := ?H) (u := ?u) ?k ?h ?hb ?d); (case k => with_reducible assumption); (case h => walk_at "lk"); (case hb => walk_at "lk"); (case d => (intro z; cases z))))
local macro_rules | `(tactic| walk_at "lk6") => `(tactic| ((with_reducible refine Bar.lkSm (H := ?H) ?k ?h); (case k => with_reducible assumption); (case h => walk_at "lk")))
local macro_rules | `(tactic| walk_at "lk") => `(tactic| first
  | with_reducible assumption | with_reducible exact L2.upd_same | walk_at "lk1" | walk_at "lk2" | walk_at "lk3" | walk_at "lk4" | walk_at "lk5" | walk_at "lk6")
local macro_rules | `(tactic| walk_at "sqL") => `(tactic| first | with_reducible assumption | ((with_reducible refine L2.SqL.of ?_); walk_at "lk") | assumption)
local macro_rules | `(tactic| walk_at "sqT") => `(tactic| first | with_reducible assumption | ((with_reducible refine L2.SqT.of ?_); walk_at "lk") | assumption)
local macro_rules | `(tactic| walk_at "kit") => `(tactic| first | exact Bar.kit_list_int | exact Bar.kit_list_bool | exact Bar.kit_list_str | exact Bar.kit_list_list | exact Bar.kit_list_tuple | exact Bar.kit_tuple_int | exact Bar.kit_tuple_bool | exact Bar.kit_tuple_str | exact Bar.kit_tuple_list | exact Bar.kit_tuple_tuple)
local macro_rules | `(tactic| walk_at "rx1") => `(tactic| ((with_reducible refine Bar.rI_ ?c ?_); (case c => walk_at "rc")))
local macro_rules | `(tactic| walk_at "rx2") => `(tactic| ((with_reducible refine Bar.rEq_ ?e ?_); (case e => exact rfl)))
local macro_rules | `(tactic| walk_at "rx3") => `(tactic| ((with_reducible refine Bar.rNe_ ?e ?_); (case e => exact rfl)))
local macro_rules | `(tactic| walk_at "rx4") => `(tactic| ((with_reducible refine Bar.rIxL_ (v := ?v) (xs := ?xs) ?h1 ?h2 ?_); (case h1 => walk_at "sqL"); (case h2 => exact rfl)))
local macro_rules | `(tactic| walk_at "rx5") => `(tactic| ((with_reducible refine Bar.rIxT_ (v := ?v) (xs := ?xs) ?h1 ?h2 ?_); (case h1 => walk_at "sqT"); (case h2 => exact rfl)))
local macro_rules | `(tactic| walk_at "rx6") => `(tactic| ((with_reducible refine Bar.rSetL_ (xs := ?xs) (j := ?j) ?h1 ?h2 ?_); (case h1 => walk_at "lk"); (case h2 => exact rfl)))
local macro_rules | `(tactic| walk_at "rx7") => `(tactic| ((with_reducible refine Bar.rLenL (ys := ?ys) ?h1 ?_); (case h1 => walk_at "sqL")))
local macro_rules | `(tactic| walk_at "rx8") => `(tactic| ((with_reducible refine Bar.tyL (xs := ?xs) ?h1 ?_); (case h1 => walk_at "sqL")))
local macro_rules | `(tactic| walk_at "rx9") => `(tactic| ((with_reducible refine Bar.rNew ?e ?_); (case e => exact Bar.szLe (by simp))))
local macro_rules | `(tactic| walk_at "rx10") => `(tactic| ((with_reducible refine Bar.rIxSL (xs := ?xs) (v := ?v) ?h1 ?h2 ?_); (case h1 => walk_at "lk"); (case h2 => exact rfl)))
local macro_rules | `(tactic| walk_at "rx11") => `(tactic| ((with_reducible refine Bar.rIxST (xs := ?xs) (v := ?v) ?h1 ?h2 ?_); (case h1 => walk_at "lk"); (case h2 => exact rfl)))
local macro_rules | `(tactic| walk_at "rx12") => `(tactic| ((with_reducible refine Bar.rLenT (ys := ?ys) ?h1 ?_); (case h1 => walk_at "sqT")))
local macro_rules | `(tactic| walk_at "rx13") => `(tactic| ((with_reducible refine Bar.rTupU (xs := ?xs) ?h1 ?h2 ?_); (case h1 => walk_at "sqT"); (case h2 => exact rfl)))
local macro_rules | `(tactic| walk_at "ry4") => `(tactic| ((with_reducible refine Bar.isiL (xs := ?xs) (r := ?r) ?e ?h ?_); (case e => walk_at "lk"); (case h => walk_at "kit")))
local macro_rules | `(tactic| walk_at "ry5") => `(tactic| ((with_reducible refine Bar.isiT (xs := ?xs) (r := ?r) ?e ?h ?_); (case e => walk_at "lk"); (case h => walk_at "kit")))
local macro_rules | `(tactic| walk_at "rs") => `(tactic| first | with_reducible refine Bar.rd ?_ | walk_at "rx1" | walk_at "rx4" | walk_at "rx5" | walk_at "rx6" | walk_at "rx7" | walk_at "rx8" | walk_at "rx9" | walk_at "rx10" | walk_at "rx11" | walk_at "rx12" | walk_at "rx13" | walk_at "ry4" | walk_at "ry5" | walk_at "rx2" | walk_at "rx3")
local macro_rules | `(tactic| walk_at "rd") => `(tactic| repeat walk_at "rs")

namespace Lw
open PySem L2 Bar
def top (i : Nat) : Stmt := PySem.Challenge.pw_barclips_k17_nth_gap.main.body.getD i (.Pass ⟨0, 0, 0, 0⟩)
abbrev s_law_box : Stmt := top 25
abbrev N_law_box : List Str := ["_law_script", "_law_at", "_law_cell", "_law_salt", "_law_one"]
abbrev P_law_box : List Str := ["_law_script", "_law_at"]
theorem sc_law_box : FnScope N_law_box P_law_box (defScope s_law_box) := ⟨rfl, rfl, rfl, by decide +kernel, rfl, by decide +kernel, by decide +kernel⟩
abbrev s_law_draw : Stmt := top 26
abbrev N_law_draw : List Str := ["_law_box_here", "_law_many", "_law_found", "_law_total", "_law_turn", "_law_once", "_law_twice"]
abbrev P_law_draw : List Str := ["_law_box_here", "_law_many"]
theorem sc_law_draw : FnScope N_law_draw P_law_draw (defScope s_law_draw) := ⟨rfl, rfl, rfl, by decide +kernel, rfl, by decide +kernel, by decide +kernel⟩
abbrev s_law_size : Stmt := top 29
abbrev N_law_size : List Str := ["_law_box_here", "_law_big", "_law_kinds"]
abbrev P_law_size : List Str := ["_law_box_here"]
theorem sc_law_size : FnScope N_law_size P_law_size (defScope s_law_size) := ⟨rfl, rfl, rfl, by decide +kernel, rfl, by decide +kernel, by decide +kernel⟩
abbrev s_law_number : Stmt := top 30
abbrev N_law_number : List Str := ["_law_box_here", "_law_found"]
abbrev P_law_number : List Str := ["_law_box_here"]
theorem sc_law_number : FnScope N_law_number P_law_number (defScope s_law_number) := ⟨rfl, rfl, rfl, by decide +kernel, rfl, by decide +kernel, by decide +kernel⟩
abbrev s_law_int : Stmt := top 27
abbrev N_law_int : List Str := ["_law_x"]
abbrev P_law_int : List Str := ["_law_x"]
theorem sc_law_int : FnScope N_law_int P_law_int (defScope s_law_int) := ⟨rfl, rfl, rfl, by decide +kernel, rfl, by decide +kernel, by decide +kernel⟩
abbrev s_law_same : Stmt := top 28
abbrev N_law_same : List Str := ["_law_got", "_law_due", "_law_k"]
abbrev P_law_same : List Str := ["_law_got", "_law_due"]
theorem sc_law_same : FnScope N_law_same P_law_same (defScope s_law_same) := ⟨rfl, rfl, rfl, by decide +kernel, rfl, by decide +kernel, by decide +kernel⟩
abbrev s_law_in : Stmt := top 31
abbrev N_law_in : List Str := ["_law_row", "_law_tick"]
abbrev P_law_in : List Str := ["_law_row", "_law_tick"]
theorem sc_law_in : FnScope N_law_in P_law_in (defScope s_law_in) := ⟨rfl, rfl, rfl, by decide +kernel, rfl, by decide +kernel, by decide +kernel⟩
abbrev s_law_hit : Stmt := top 32
abbrev N_law_hit : List Str := ["_law_rows", "_law_tick", "_law_row"]
abbrev P_law_hit : List Str := ["_law_rows", "_law_tick"]
theorem sc_law_hit : FnScope N_law_hit P_law_hit (defScope s_law_hit) := ⟨rfl, rfl, rfl, by decide +kernel, rfl, by decide +kernel, by decide +kernel⟩
abbrev s_law_cover : Stmt := top 33
abbrev N_law_cover : List Str := ["_law_box_here", "_law_many", "_law_kind", "_law_rows", "_law_step", "_law_k", "_law_turn", "_law_parts", "_law_at", "_law_old"]
abbrev P_law_cover : List Str := ["_law_box_here", "_law_many"]
theorem sc_law_cover : FnScope N_law_cover P_law_cover (defScope s_law_cover) := ⟨rfl, rfl, rfl, by decide +kernel, rfl, by decide +kernel, by decide +kernel⟩
abbrev s_law_pair : Stmt := top 34
abbrev N_law_pair : List Str := ["_law_box_here", "_law_step"]
abbrev P_law_pair : List Str := ["_law_box_here"]
theorem sc_law_pair : FnScope N_law_pair P_law_pair (defScope s_law_pair) := ⟨rfl, rfl, rfl, by decide +kernel, rfl, by decide +kernel, by decide +kernel⟩
abbrev s_law_grids : Stmt := top 35
abbrev N_law_grids : List Str := ["_law_box_here", "_law_many", "_law_rows", "_law_at", "_law_unit", "_law_shift", "_law_k", "_law_turn", "_law_row"]
abbrev P_law_grids : List Str := ["_law_box_here", "_law_many"]
theorem sc_law_grids : FnScope N_law_grids P_law_grids (defScope s_law_grids) := ⟨rfl, rfl, rfl, by decide +kernel, rfl, by decide +kernel, by decide +kernel⟩
abbrev s_law_made : Stmt := top 36
abbrev N_law_made : List Str := ["_law_rows", "_law_row"]
abbrev P_law_made : List Str := ["_law_rows"]
theorem sc_law_made : FnScope N_law_made P_law_made (defScope s_law_made) := ⟨rfl, rfl, rfl, by decide +kernel, rfl, by decide +kernel, by decide +kernel⟩
abbrev s_law_kept : Stmt := top 37
abbrev N_law_kept : List Str := ["_law_made_here", "_law_rows", "_law_one"]
abbrev P_law_kept : List Str := ["_law_made_here", "_law_rows"]
theorem sc_law_kept : FnScope N_law_kept P_law_kept (defScope s_law_kept) := ⟨rfl, rfl, rfl, by decide +kernel, rfl, by decide +kernel, by decide +kernel⟩
abbrev s_law_meet : Stmt := top 38
abbrev N_law_meet : List Str := ["_law_one", "_law_two", "_law_old", "_law_new", "_law_left", "_law_right_here", "_law_k", "_law_quotient", "_law_rest", "_law_apart", "_law_part", "_law_nth", "_law_step"]
abbrev P_law_meet : List Str := ["_law_one", "_law_two"]
theorem sc_law_meet : FnScope N_law_meet P_law_meet (defScope s_law_meet) := ⟨rfl, rfl, rfl, by decide +kernel, rfl, by decide +kernel, by decide +kernel⟩
abbrev s_law_terms : Stmt := top 39
abbrev N_law_terms : List Str := ["_law_rows", "_law_terms_here", "_law_row", "_law_more", "_law_term", "_law_both"]
abbrev P_law_terms : List Str := ["_law_rows"]
theorem sc_law_terms : FnScope N_law_terms P_law_terms (defScope s_law_terms) := ⟨rfl, rfl, rfl, by decide +kernel, rfl, by decide +kernel, by decide +kernel⟩
abbrev s_law_count_one : Stmt := top 40
abbrev N_law_count_one : List Str := ["_law_row", "_law_low", "_law_high"]
abbrev P_law_count_one : List Str := ["_law_row", "_law_low", "_law_high"]
theorem sc_law_count_one : FnScope N_law_count_one P_law_count_one (defScope s_law_count_one) := ⟨rfl, rfl, rfl, by decide +kernel, rfl, by decide +kernel, by decide +kernel⟩
abbrev s_law_count : Stmt := top 41
abbrev N_law_count : List Str := ["_law_terms_here", "_law_low", "_law_high", "_law_term"]
abbrev P_law_count : List Str := ["_law_terms_here", "_law_low", "_law_high"]
theorem sc_law_count : FnScope N_law_count P_law_count (defScope s_law_count) := ⟨rfl, rfl, rfl, by decide +kernel, rfl, by decide +kernel, by decide +kernel⟩
abbrev s_law_ask : Stmt := top 42
abbrev N_law_ask : List Str := ["_law_grids_here", "_law_start", "_law_count_here", "_law_found", "_law_told", "e"]
abbrev P_law_ask : List Str := ["_law_grids_here", "_law_start", "_law_count_here"]
theorem sc_law_ask : FnScope N_law_ask P_law_ask (defScope s_law_ask) := ⟨rfl, rfl, rfl, by decide +kernel, rfl, by decide +kernel, by decide +kernel⟩
abbrev s_law_held : Stmt := top 43
abbrev N_law_held : List Str := ["_law_rows", "_law_k"]
abbrev P_law_held : List Str := ["_law_rows"]
theorem sc_law_held : FnScope N_law_held P_law_held (defScope s_law_held) := ⟨rfl, rfl, rfl, by decide +kernel, rfl, by decide +kernel, by decide +kernel⟩
abbrev s_law_right : Stmt := top 44
abbrev N_law_right : List Str := ["_law_rows", "_law_terms_here", "_law_start", "_law_count_here", "_law_answer", "_law_tick"]
abbrev P_law_right : List Str := ["_law_rows", "_law_terms_here", "_law_start", "_law_count_here", "_law_answer"]
theorem sc_law_right : FnScope N_law_right P_law_right (defScope s_law_right) := ⟨rfl, rfl, rfl, by decide +kernel, rfl, by decide +kernel, by decide +kernel⟩
abbrev s_Grid___init__ : Stmt := inClass (top 14) 0
abbrev N_Grid___init__ : List Str := ["self", "step", "offset"]
abbrev P_Grid___init__ : List Str := ["self", "step", "offset"]
theorem sc_Grid___init__ : FnScope N_Grid___init__ P_Grid___init__ (defScope s_Grid___init__) := ⟨rfl, rfl, rfl, by decide +kernel, rfl, by decide +kernel, by decide +kernel⟩
abbrev s_Grid___contains__ : Stmt := inClass (top 14) 1
abbrev N_Grid___contains__ : List Str := ["self", "x"]
abbrev P_Grid___contains__ : List Str := ["self", "x"]
theorem sc_Grid___contains__ : FnScope N_Grid___contains__ P_Grid___contains__ (defScope s_Grid___contains__) := ⟨rfl, rfl, rfl, by decide +kernel, rfl, by decide +kernel, by decide +kernel⟩
abbrev s_Grid_tick_of : Stmt := inClass (top 14) 2
abbrev N_Grid_tick_of : List Str := ["self", "number"]
abbrev P_Grid_tick_of : List Str := ["self", "number"]
theorem sc_Grid_tick_of : FnScope N_Grid_tick_of P_Grid_tick_of (defScope s_Grid_tick_of) := ⟨rfl, rfl, rfl, by decide +kernel, rfl, by decide +kernel, by decide +kernel⟩
abbrev s_Grid___rfloordiv__ : Stmt := inClass (top 14) 6
abbrev N_Grid___rfloordiv__ : List Str := ["self", "other"]
abbrev P_Grid___rfloordiv__ : List Str := ["self", "other"]
theorem sc_Grid___rfloordiv__ : FnScope N_Grid___rfloordiv__ P_Grid___rfloordiv__ (defScope s_Grid___rfloordiv__) := ⟨rfl, rfl, rfl, by decide +kernel, rfl, by decide +kernel, by decide +kernel⟩
abbrev s_Grid_between : Stmt := inClass (top 14) 8
abbrev N_Grid_between : List Str := ["self", "low", "high"]
abbrev P_Grid_between : List Str := ["self", "low", "high"]
theorem sc_Grid_between : FnScope N_Grid_between P_Grid_between (defScope s_Grid_between) := ⟨rfl, rfl, rfl, by decide +kernel, rfl, by decide +kernel, by decide +kernel⟩
abbrev s_Grid_common : Stmt := inClass (top 14) 16
abbrev N_Grid_common : List Str := ["first", "second", "divisor", "distance", "cycle", "number"]
abbrev P_Grid_common : List Str := ["first", "second"]
theorem sc_Grid_common : FnScope N_Grid_common P_Grid_common (defScope s_Grid_common) := ⟨rfl, rfl, rfl, by decide +kernel, rfl, by decide +kernel, by decide +kernel⟩
abbrev s_TooMany___init__ : Stmt := inClass (top 6) 0
abbrev N_TooMany___init__ : List Str := ["self", "kind", "most"]
abbrev P_TooMany___init__ : List Str := ["self", "kind", "most"]
theorem sc_TooMany___init__ : FnScope N_TooMany___init__ P_TooMany___init__ (defScope s_TooMany___init__) := ⟨rfl, rfl, rfl, by decide +kernel, rfl, by decide +kernel, by decide +kernel⟩
abbrev s_BadNumber___init__ : Stmt := inClass (top 4) 0
abbrev N_BadNumber___init__ : List Str := ["self", "value"]
abbrev P_BadNumber___init__ : List Str := ["self", "value"]
theorem sc_BadNumber___init__ : FnScope N_BadNumber___init__ P_BadNumber___init__ (defScope s_BadNumber___init__) := ⟨rfl, rfl, rfl, by decide +kernel, rfl, by decide +kernel, by decide +kernel⟩
abbrev s_inverse : Stmt := top 13
abbrev N_inverse : List Str := ["number", "modulus", "left", "right", "left_times", "right_times", "times"]
abbrev P_inverse : List Str := ["number", "modulus"]
theorem sc_inverse : FnScope N_inverse P_inverse (defScope s_inverse) := ⟨rfl, rfl, rfl, by decide +kernel, rfl, by decide +kernel, by decide +kernel⟩
abbrev s_check_grids : Stmt := top 17
abbrev N_check_grids : List Str := ["grids"]
abbrev P_check_grids : List Str := ["grids"]
theorem sc_check_grids : FnScope N_check_grids P_check_grids (defScope s_check_grids) := ⟨rfl, rfl, rfl, by decide +kernel, rfl, by decide +kernel, by decide +kernel⟩
abbrev s_signed_commons : Stmt := top 19
abbrev N_signed_commons : List Str := ["grids", "chosen", "grid", "joined", "sign", "before", "both"]
abbrev P_signed_commons : List Str := ["grids"]
theorem sc_signed_commons : FnScope N_signed_commons P_signed_commons (defScope s_signed_commons) := ⟨rfl, rfl, rfl, by decide +kernel, rfl, by decide +kernel, by decide +kernel⟩
abbrev s_count_between : Stmt := top 20
abbrev N_count_between : List Str := ["signed", "low", "high", "sign", "grid"]
abbrev P_count_between : List Str := ["signed", "low", "high"]
theorem sc_count_between : FnScope N_count_between P_count_between (defScope s_count_between) := ⟨rfl, rfl, rfl, by decide +kernel, rfl, by decide +kernel, by decide +kernel⟩
abbrev s_share_of : Stmt := top 21
abbrev N_share_of : List Str := ["signed", "cycle", "_", "grid", "gaps", "divisor", "sign"]
abbrev P_share_of : List Str := ["signed"]
theorem sc_share_of : FnScope N_share_of P_share_of (defScope s_share_of) := ⟨rfl, rfl, rfl, by decide +kernel, rfl, by decide +kernel, by decide +kernel⟩
abbrev s_gaps_between : Stmt := top 22
abbrev N_gaps_between : List Str := ["grids", "low", "high"]
abbrev P_gaps_between : List Str := ["grids", "low", "high"]
theorem sc_gaps_between : FnScope N_gaps_between P_gaps_between (defScope s_gaps_between) := ⟨rfl, rfl, rfl, by decide +kernel, rfl, by decide +kernel, by decide +kernel⟩
abbrev s_nth_gap : Stmt := top 23
abbrev N_nth_gap : List Str := ["grids", "start", "count", "signed", "gaps", "cycle", "slack", "low", "high", "middle"]
abbrev P_nth_gap : List Str := ["grids", "start", "count"]
theorem sc_nth_gap : FnScope N_nth_gap P_nth_gap (defScope s_nth_gap) := ⟨rfl, rfl, rfl, by decide +kernel, rfl, by decide +kernel, by decide +kernel⟩
abbrev s_law : Stmt := top 45
abbrev N_law : List Str := ["_law_script", "_law_box_here", "_law_rows", "_law_made_here", "_law_k", "_law_many", "_law_terms_here", "_law_start", "_law_near", "_law_count_here", "_law_low", "_law_answer"]
abbrev P_law : List Str := ["_law_script"]
theorem sc_law : FnScope N_law P_law (defScope s_law) := ⟨rfl, rfl, rfl, by decide +kernel, rfl, by decide +kernel, by decide +kernel⟩

/-! ### the law's draws -/
/-- the facts of the built-in names -/
structure Txt (mg : Str → Option Value) : Prop where
  b_len : mg "len" = none
  b_int : mg "int" = none
  b_abs : mg "abs" = none
  b_str : mg "str" = none
  b_range : mg "range" = none
  b_isinstance : mg "isinstance" = none
  b_bool : mg "bool" = none
  b_list : mg "list" = none
  b_tuple : mg "tuple" = none
  b_sum : mg "sum" = none
  b_min : mg "min" = none
  b_max : mg "max" = none
  b_any : mg "any" = none
  b_all : mg "all" = none
  b_sorted : mg "sorted" = none
  b_enumerate : mg "enumerate" = none
abbrev big : Int := 10 ^ 399
abbrev box (c s n : Int) : HO := .lst [.int c, .int s, .int n]
abbrev kinds : List V := [.int 60, .int (10 ^ Int.toNat 6), .int (10 ^ Int.toNat 30), .int 60, .int (10 ^ Int.toNat 6), .int ((10 ^ Int.toNat 57) ^ Int.toNat 7), .int (10 ^ Int.toNat 6), .int 60, .int (10 ^ Int.toNat 30), .int 60, .int (10 ^ Int.toNat 6), .int 60]
theorem kinds_at {r : Int} (h0 : 0 ≤ r) (h1 : r < 12) : ∃ m, atI kinds r = some (.int m) ∧ 0 < m ∧ m ≤ big := by
  have h : r = 0 ∨ r = 1 ∨ r = 2 ∨ r = 3 ∨ r = 4 ∨ r = 5 ∨ r = 6 ∨ r = 7 ∨ r = 8 ∨ r = 9 ∨ r = 10 ∨ r = 11 := by omega
  rcases h with h | h | h | h | h | h | h | h | h | h | h | h <;> (subst h; exact ⟨_, rfl, by decide, by decide⟩)
def spDraw : Sp := fun vs H Q _ => ∃ (b : Addr) (c s n m : Int), vs = [.ref b, .int m] ∧ H b = some (box c s n) ∧ 0 < m ∧ m ≤ big ∧
  ∀ r c' n', 0 ≤ r → r < m → Q (.int r) (upd H b (box c' s n'))
theorem log_big {m : Int} (h0 : 0 < m) (h : m ≤ big) : m.natAbs < 2 ^ 1326 := by
  have h1 : m.natAbs ≤ 10 ^ 399 := by
    have e : big = ((10 ^ 399 : Nat) : Int) := by decide
    omega
  exact Nat.lt_of_le_of_lt h1 (by decide)
section
variable {P : Program} {w : World} {K : PySem.W.Frag} {mg : Str → Option Value} {base : Heap}
theorem ok_draw {f : Addr} {fd : FuncData} (F : Fun K "_law_draw" "_law_draw" s_law_draw f fd) (T : Txt mg) : FnOk P w K mg base CX0 1 f fd P_law_draw spDraw := by
  refine F.ok sc_law_draw (fun vs H Q E h => ?_) (fun cdv A outer s H vs Q E hr h => ?_)
  · obtain ⟨b, c, z, n, m, rfl, _⟩ := h
    rfl
  · obtain ⟨b, c, z, n, m, rfl, hb, m0, m1, k⟩ := h
    have lb := log_big m0 m1
    refine ⟨_, (pss_cons (ps_if (pt_cmpR op_gt (pe_ix ix_list (pv 0) pe_int (fun _ _ => rfl)) pe_int (nomark _)) (pss_cons (ps_set (i := 2) sc_law_draw.nd rfl (Or.inl rfl) (pe_op op_mod (pe_callTy c_int rfl T.b_int (by decide +kernel) (pa_cons (pe_ix ix_list (pv 0) pe_int (fun _ _ => rfl)) pa_nil)) (pv 1)))
    (pss_cons (ps_asg (pe_op op_fdivW (pe_ix ix_list (pv 0) pe_int (fun _ _ => rfl)) (pv 1)) (pg_sub (pv 0) pe_int set_list))
    (pss_one (ps_ret (pv 2))))) pss_nil)
    (pss_cons (ps_asg (pe_op op_add (pe_ix ix_list (pv 0) pe_int (fun _ _ => rfl)) pe_int) (pg_sub (pv 0) pe_int set_list))
    (pss_cons (ps_set (i := 3) sc_law_draw.nd rfl (Or.inl rfl) pe_int)
    (pss_cons (ps_for PassesOwn.never rfl  (pi_range1 rfl T.b_range (pa_cons (pe_op op_add pe_int (pe_op op_fdiv (pe_callB c_lenStr rfl T.b_len PySem.boot_len (pa_cons (pe_callTy c_str rfl T.b_str (by decide +kernel) (pa_cons (pv 1) pa_nil)) pa_nil)) pe_int)) pa_nil)) (pg_name (i := 4) sc_law_draw.nd rfl (Or.inl rfl)) (pss_cons (ps_set (i := 5) sc_law_draw.nd rfl (Or.inl rfl) (pe_op op_mod (pe_callTy c_int rfl T.b_int (by decide +kernel) (pa_cons (pe_op op_add (pe_op op_add (pe_op op_add (pe_op op_mul (pe_ix ix_list (pv 0) pe_int (fun _ _ => rfl)) pe_int) (pe_op op_mul (pe_ix ix_list (pv 0) pe_int (fun _ _ => rfl)) pe_int)) (pe_op op_mul (pv 4) pe_int)) pe_int) pa_nil)) pe_int))
    (pss_cons (ps_set (i := 5) sc_law_draw.nd rfl (Or.inl rfl) (pe_op op_mod (pe_callTy c_int rfl T.b_int (by decide +kernel) (pa_cons (pe_op op_add (pe_op op_add (pe_op op_mulW (pv 5) (pv 5)) (pe_op op_mul pe_int (pe_ix ix_list (pv 0) pe_int (fun _ _ => rfl)))) (pv 4)) pa_nil)) pe_int))
    (pss_cons (ps_set (i := 6) sc_law_draw.nd rfl (Or.inl rfl) (pe_op op_mod (pe_callTy c_int rfl T.b_int (by decide +kernel) (pa_cons (pe_op op_add (pe_op op_add (pe_op op_mulW (pv 5) (pv 5)) (pe_op op_mul pe_int (pv 5))) (pe_ix ix_list (pv 0) pe_int (fun _ _ => rfl))) pa_nil)) pe_int))
    (pss_one (ps_set (i := 3) sc_law_draw.nd rfl (Or.inl rfl) (pe_op op_add (pe_op op_mul (pv 3) pe_int) (pv 6))))))))
    (pss_one (ps_ret (pe_op op_mod (pe_callTy c_int rfl T.b_int (by decide +kernel) (pa_cons (pv 3) pa_nil)) (pv 1)))))))), ?_⟩
    refine Bar.rStart (σ := [some (.ref b), some (.int m), none, none, none, none, none]) rfl ?_
    have lg : m.natAbs.log2 < 1920 := Nat.lt_of_lt_of_le (PySem.Flt.log2_lt_of (by decide) lb) (by decide)
    have ls := PyProof.Rows.int_text_len_1921 lg
    walk_at "rd"
    refine ite2 (fun h => ?_) (fun h => ?_)
    · walk_at "rd"
      refine Bar.rI_ (wide_div m0 lb (by decide) (by decide)) ?_
      walk_at "rd"
      exact k _ _ _ (Int.emod_nonneg _ (by omega)) (Int.emod_lt_of_pos _ m0)
    · walk_at "rd"
      refine Bar.rStr_ lg ?_
      walk_at "rd"
      refine Bar.rLenStr_ (Nat.le_trans ls (by decide)) ?_
      walk_at "rd"
      refine Bar.forR _ rfl (fun _ σ H' => H' = upd H b (box c z (n + 1)) ∧ ∃ (t : Int) (x y u : Option V), σ = [some (.ref b), some (.int m), none, some (.int t), x, y, u]) (by omega) ⟨rfl, 0, none, none, none, rfl⟩ ?_ ?_
      · rintro i σ H' hi ⟨rfl, t, x, y, u, rfl⟩
        walk_at "rd"
        refine Bar.rI_ (sqW _ (by decide) (by decide)) ?_
        walk_at "rd"
        refine Bar.rI_ (sqW _ (by decide) (by decide)) ?_
        walk_at "rd"
        exact ⟨rfl, _, _, _, _, rfl⟩
      · rintro σ H' ⟨rfl, t, x, y, u, rfl⟩
        walk_at "rd"
        exact k _ _ _ (Int.emod_nonneg _ (by omega)) (Int.emod_lt_of_pos _ m0)
def spBox (K : PySem.W.Frag) : Sp := fun vs H Q _ => ∃ (a : Addr) (ns : List Int) (j : Nat), vs = [.ref a, .int (j : Int)] ∧ SqL K H a (ns.map V.int) ∧
  ∀ p H' c s, Same H H' → H p = none → H' p = some (box c s 0) → Q (.ref p) H'
theorem ok_box {f : Addr} {fd : FuncData} (F : Fun K "_law_box" "_law_box" s_law_box f fd) (T : Txt mg) : FnOk P w K mg base CX0 1 f fd P_law_box (spBox K) := by
  refine F.ok sc_law_box (fun vs H Q E h => ?_) (fun cdv A outer s H vs Q E hr h => ?_)
  · obtain ⟨a, ns, j, rfl, _⟩ := h
    rfl
  · obtain ⟨a, ns, j, rfl, ha, k⟩ := h
    refine ⟨_, (pss_cons (ps_set (i := 2) sc_law_box.nd rfl (Or.inl rfl) pe_int)
    (pss_cons (ps_if (pt_cmpR op_lt (pv 1) (pe_callB c_len rfl T.b_len PySem.boot_len (pa_cons (pv 0) pa_nil)) (nomark _)) (pss_one (ps_set (i := 2) sc_law_box.nd rfl (Or.inl rfl) (pe_callB c_abs rfl T.b_abs (by decide +kernel) (pa_cons (pe_ix ix_list (pv 0) (pv 1) (fun _ _ => rfl)) pa_nil)))) pss_nil)
    (pss_cons (ps_set (i := 3) sc_law_box.nd rfl (Or.inl rfl) (pe_op op_add (pe_op op_add (pe_op op_mul (pe_callB c_len rfl T.b_len PySem.boot_len (pa_cons (pv 0) pa_nil)) pe_int) (pe_op op_mul (pv 1) pe_int)) pe_int))
    (pss_cons (ps_for PassesOwn.never rfl  (pi_list (pe_slice sl_list (pv 0) po_none (po_some pe_int))) (pg_name (i := 4) sc_law_box.nd rfl (Or.inl rfl)) (pss_one (ps_set (i := 3) sc_law_box.nd rfl (Or.inl rfl) (pe_op op_mod (pe_callTy c_int rfl T.b_int (by decide +kernel) (pa_cons (pe_op op_add (pe_op op_mul (pv 3) pe_int) (pe_callB c_abs rfl T.b_abs (by decide +kernel) (pa_cons (pv 4) pa_nil))) pa_nil)) pe_int))))
    (pss_cons (ps_if (pt_cmpR op_ge (pv 2) (pe_op op_powW pe_int pe_int) (nomark _)) (pss_one (ps_ret (pe_lst (pa_cons (pv 2) (pa_cons (pv 3) (pa_cons pe_int pa_nil)))))) pss_nil)
    (pss_one (ps_ret (pe_lst (pa_cons pe_int (pa_cons (pe_op op_mod (pe_callTy c_int rfl T.b_int (by decide +kernel) (pa_cons (pe_op op_add (pv 3) (pe_op op_mul (pv 2) pe_int)) pa_nil)) pe_int) (pa_cons pe_int pa_nil))))))))))), ?_⟩
    refine Bar.rStart (σ := [some (.ref a), some (.int (j : Int)), none, none, none]) rfl ?_
    walk_at "rd"
    refine ite2 (fun h => ?_) (fun h => ?_)
    · have hj : j < ns.length := by
        have h1 := of_decide_eq_true h
        rw [List.length_map] at h1
        omega
      walk_at "rd"
      refine Bar.rIxL_ ha (Bar.at_map hj) ?_
      walk_at "rd"
      generalize (if ns[j] < 0 then -ns[j] else ns[j]) = cc
      refine Bar.rSlL_ ha fun q hq => ?_
      generalize (((ns.map V.int).length : Nat) : Int) * 97 + (j : Int) * 131 + 7 = salt
      refine Bar.forL (xs := cutV (ns.map V.int) none (some 16)) (fun _ σ H' => H' = upd H q (.lst (cutV (ns.map V.int) none (some 16))) ∧ ∃ (z : Int) (x : Option V), σ = [some (.ref a), some (.int (j : Int)), some (.int cc), some (.int z), x]) (SqL.of upd_same)
        ⟨rfl, salt, none, rfl⟩ (fun i σ H' _ ⟨e, _⟩ => by rw [e]; exact SqL.of upd_same) ?_ ?_
      · rintro i v σ H' hv ⟨rfl, z, x, rfl⟩
        obtain ⟨u, rfl⟩ := Bar.cut_int hv
        walk_at "rd"
        exact ⟨rfl, _, _, rfl⟩
      · rintro σ H' ⟨rfl, z, x, rfl⟩
        walk_at "rd"
        refine ite2 (fun h => ?_) (fun h => ?_)
        all_goals
          walk_at "rd"
          intro p hp
          walk_at "rd"
          refine k _ _ _ _ (fun b o e => Bar.lkNew hp (Bar.lkNew hq e)) (Bar.freeNew hp) upd_same
    · walk_at "rd"
      refine Bar.rSlL_ ha fun q hq => ?_
      generalize (((ns.map V.int).length : Nat) : Int) * 97 + (j : Int) * 131 + 7 = salt
      refine Bar.forL (xs := cutV (ns.map V.int) none (some 16)) (fun _ σ H' => H' = upd H q (.lst (cutV (ns.map V.int) none (some 16))) ∧ ∃ (z : Int) (x : Option V), σ = [some (.ref a), some (.int (j : Int)), some (.int 0), some (.int z), x]) (SqL.of upd_same)
        ⟨rfl, salt, none, rfl⟩ (fun i σ H' _ ⟨e, _⟩ => by rw [e]; exact SqL.of upd_same) ?_ ?_
      · rintro i v σ H' hv ⟨rfl, z, x, rfl⟩
        obtain ⟨u, rfl⟩ := Bar.cut_int hv
        walk_at "rd"
        exact ⟨rfl, _, _, rfl⟩
      · rintro σ H' ⟨rfl, z, x, rfl⟩
        walk_at "rd"
        refine ite2 (fun h => ?_) (fun h => ?_)
        all_goals
          walk_at "rd"
          intro p hp
          walk_at "rd"
          refine k _ _ _ _ (fun b o e => Bar.lkNew hp (Bar.lkNew hq e)) (Bar.freeNew hp) upd_same
def KpB (b : Addr) (s : Int) (H H' : Hp) : Prop := Kp b H H' ∧ ∃ c n, H' b = some (box c s n)
def spSize : Sp := fun vs H Q _ => ∃ (b : Addr) (c s n : Int), vs = [.ref b] ∧ H b = some (box c s n) ∧ ∀ r H', 0 ≤ r → r < big → KpB b s H H' → Q (.int r) H'
theorem ok_size {f : Addr} {fd : FuncData} (F : Fun K "_law_size" "_law_size" s_law_size f fd) (T : Txt mg) (f_law_draw : Fn P w K mg base "_law_draw" P_law_draw [] 1 spDraw) : FnOk P w K mg base CX0 2 f fd P_law_size spSize := by
  refine F.ok sc_law_size (fun vs H Q E h => ?_) (fun cdv A outer s H vs Q E hr h => ?_)
  · obtain ⟨b, c, z, n, rfl, _⟩ := h
    rfl
  · obtain ⟨b, c, z, n, rfl, hb, k⟩ := h
    refine ⟨_, (pss_cons (ps_set (i := 1) sc_law_size.nd rfl (Or.inl rfl) (pe_op op_powW (pe_op op_powW pe_int pe_int) pe_int))
    (pss_cons (ps_set (i := 2) sc_law_size.nd rfl (Or.inl rfl) (pe_tup (pa_cons pe_int (pa_cons (pe_op op_powW pe_int pe_int) (pa_cons (pe_op op_powW pe_int pe_int) (pa_cons pe_int (pa_cons (pe_op op_powW pe_int pe_int) (pa_cons (pv 1) (pa_cons (pe_op op_powW pe_int pe_int) (pa_cons pe_int (pa_cons (pe_op op_powW pe_int pe_int) (pa_cons pe_int (pa_cons (pe_op op_powW pe_int pe_int) (pa_cons pe_int pa_nil))))))))))))))
    (pss_one (ps_ret (pe_fn f_law_draw (hr.mono (by omega)) rfl (pa_cons (pv 0) (pa_cons (pe_ix ix_tup (pv 2) (pe_fn f_law_draw (hr.mono (by omega)) rfl (pa_cons (pv 0) (pa_cons pe_int pa_nil))) (fun _ _ => rfl)) pa_nil))))))), ?_⟩
    refine Bar.rStart (σ := [some (.ref b), none, none]) rfl ?_
    walk_at "rd"
    intro p hp
    walk_at "rd"
    refine ⟨b, c, z, n, 12, rfl, (by walk_at "lk"), by decide, by decide, fun r c' n' r0 r1 => ?_⟩
    obtain ⟨m, hm, m0, m1⟩ := kinds_at r0 r1
    refine Bar.rIxT_ (SqT.of (by walk_at "lk")) hm ?_
    walk_at "rd"
    refine ⟨b, c', z, n', m, rfl, upd_same, m0, m1, fun r c' n' r0 r1 => ?_⟩
    refine k _ _ r0 (Int.lt_of_lt_of_le r1 m1) ⟨fun a o na e => ?_, _, _, upd_same⟩
    exact Bar.lkNe na (Bar.lkNe na (Bar.lkNew hp e))
def spDrawA : Sp := fun vs H Q _ => ∃ (b : Addr) (c s n m : Int), vs = [.ref b, .int m] ∧ H b = some (box c s n) ∧ 0 < m ∧ m ≤ big ∧ ∀ r H', 0 ≤ r → r < m → KpB b s H H' → Q (.int r) H'
theorem drawA (F : Fn P w K mg base "_law_draw" P_law_draw [] 1 spDraw) : Fn P w K mg base "_law_draw" P_law_draw [] 1 spDrawA := by
  obtain ⟨f, fd, ds, h1, h2, h3, h4, ok⟩ := F.ex
  refine ⟨f, fd, ds, h1, h2, h3, h4, ok.imp fun vs H Q E h => ?_⟩
  obtain ⟨b, c, s, n, m, e, hb, m0, m1, k⟩ := h
  exact ⟨b, c, s, n, m, e, hb, m0, m1, fun r c' n' r0 r1 => k r _ r0 r1 ⟨Kp.upd, _, _, upd_same⟩⟩
def spNum : Sp := fun vs H Q _ => ∃ (b : Addr) (c s n : Int), vs = [.ref b] ∧ H b = some (box c s n) ∧ ∀ r H', -big < r → r < big → KpB b s H H' → Q (.int r) H'
theorem ok_number {f : Addr} {fd : FuncData} (F : Fun K "_law_number" "_law_number" s_law_number f fd) (T : Txt mg) (f_law_draw : Fn P w K mg base "_law_draw" P_law_draw [] 1 spDraw) (f_law_size : Fn P w K mg base "_law_size" P_law_size [] 2 spSize) :
    FnOk P w K mg base CX0 3 f fd P_law_number spNum := by
  refine F.ok sc_law_number (fun vs H Q E h => ?_) (fun cdv A outer s H vs Q E hr h => ?_)
  · obtain ⟨b, c, z, n, rfl, _⟩ := h
    rfl
  · obtain ⟨b, c, z, n, rfl, hb, k⟩ := h
    refine ⟨_, (pss_cons (ps_set (i := 1) sc_law_number.nd rfl (Or.inl rfl) (pe_fn f_law_size (hr.mono (by omega)) rfl (pa_cons (pv 0) pa_nil)))
    (pss_cons (ps_if (pt_cmpR op_eq (pe_fn f_law_draw (hr.mono (by omega)) rfl (pa_cons (pv 0) (pa_cons pe_int pa_nil))) pe_int (nomark _)) (pss_one (ps_ret (pv 1))) pss_nil)
    (pss_one (ps_ret (pe_un un_neg (pv 1)))))), ?_⟩
    refine Bar.rStart (σ := [some (.ref b), none]) rfl ?_
    walk_at "rd"
    refine ⟨b, c, z, n, rfl, hb, fun r H1 r0 r1 ⟨K1, c1, n1, hb1⟩ => ?_⟩
    walk_at "rd"
    refine ⟨b, c1, z, n1, 2, rfl, hb1, by decide, by decide, fun r2 c2 n2 _ _ => ?_⟩
    have KK : KpB b z H (upd H1 b (box c2 z n2)) := ⟨K1.trans Kp.upd, _, _, upd_same⟩
    walk_at "rd"
    refine ite2 (fun h => ?_) (fun h => ?_)
    · walk_at "rd"
      exact k _ _ (by omega) r1 KK
    · walk_at "rd"
      exact k _ _ (by omega) (by omega) KK
end

end Lw
namespace Lw
open PySem L2 Bar

/-! ### lists of pairs, as the law draws them -/
/-- at R a list of n pairs, all of them good -/
def RowsP (H : Hp) (R : Addr) (n : Nat) (Gd : Int → Int → Prop) : Prop := ∃ ts : List Addr, H R = some (.lst (ts.map V.ref)) ∧ ts.length = n ∧ ∀ t ∈ ts, ∃ a b, H t = some (.tup [.int a, .int b]) ∧ Gd a b
section
variable {H H' : Hp} {R b : Addr} {n m : Nat} {Gd Ge : Int → Int → Prop}
theorem RowsP.imp (h : RowsP H R n Gd) (k : ∀ a b, Gd a b → Ge a b) : RowsP H R n Ge := by
  obtain ⟨ts, e, l, g⟩ := h
  refine ⟨ts, e, l, fun t ht => ?_⟩
  obtain ⟨x, y, z, w⟩ := g t ht
  exact ⟨x, y, z, k _ _ w⟩
theorem RowsP.keep (h : RowsP H R n Gd) (kR : ∀ o, H R = some o → H' R = some o) (kT : ∀ t xs, H t = some (.tup xs) → H' t = some (.tup xs)) : RowsP H' R n Gd := by
  obtain ⟨ts, e, l, g⟩ := h
  refine ⟨ts, kR _ e, l, fun t ht => ?_⟩
  obtain ⟨x, y, z, w⟩ := g t ht
  exact ⟨x, y, kT _ _ z, w⟩
theorem RowsP.same (S : Same H H') (h : RowsP H R n Gd) : RowsP H' R n Gd := h.keep (fun _ => S _ _) fun _ _ => S _ _
theorem RowsP.new {p : Addr} {o : HO} (hp : H p = none) (h : RowsP H R n Gd) : RowsP (upd H p o) R n Gd := h.same fun _ _ z => Bar.lkNew hp z
theorem RowsP.kp {xs : List V} (k : Kp b H H') (hb : H b = some (.lst xs)) (nR : R ≠ b) (h : RowsP H R n Gd) : RowsP H' R n Gd :=
  h.keep (fun _ z => k _ _ nR z) fun _ _ z => k _ _ (ne_of z hb (by intro w; cases w)) z
theorem RowsP.ne {xs : List V} (hb : H b = some (.lst xs)) (d : ∀ ts : List Addr, xs ≠ ts.map V.ref) (h : RowsP H R n Gd) : R ≠ b := by
  obtain ⟨ts, e, _⟩ := h
  exact ne_of e hb (fun z => d ts (HO.lst.inj z).symm)
/-- what is made of pairs of two lists is such a list again -/
theorem rows_of {ts us : List Addr} {p : Addr} (hp : H p = none) (h : ∀ t ∈ ts, ∃ a b, H t = some (.tup [.int a, .int b]) ∧ Gd a b) (sub : ∀ t ∈ us, t ∈ ts) : RowsP (upd H p (.lst (us.map V.ref))) p us.length Gd := by
  refine ⟨us, upd_same, rfl, fun t ht => ?_⟩
  obtain ⟨x, y, z, w⟩ := h t (sub t ht)
  exact ⟨x, y, Bar.lkNew hp z, w⟩
/-- one pair more -/
theorem RowsP.app {t : Addr} {x y : Int} {ts : List Addr} (e : H R = some (.lst (ts.map V.ref))) (l : ts.length = n) (g : ∀ t ∈ ts, ∃ a b, H t = some (.tup [.int a, .int b]) ∧ Gd a b) (ht : H t = some (.tup [.int x, .int y])) (gt : Gd x y) :
    RowsP (upd H R (.lst (ts.map V.ref ++ [.ref t]))) R (n + 1) Gd := by
  have kT : ∀ u xs, H u = some (.tup xs) → upd H R (.lst (ts.map V.ref ++ [V.ref t])) u = some (.tup xs) := fun u xs z => by
    rw [upd_ne (ne_of z e (by intro w; cases w))]
    exact z
  refine ⟨ts ++ [t], by rw [upd_same, List.map_append]; rfl, by rw [List.length_append, l]; rfl, fun u hu => ?_⟩
  rcases List.mem_append.mp hu with hu | hu
  · obtain ⟨a, c, z, w⟩ := g u hu
    exact ⟨a, c, kT _ _ z, w⟩
  · cases List.mem_singleton.mp hu
    exact ⟨x, y, kT _ _ ht, gt⟩
theorem box_ne {c s q : Int} : ∀ ts : List Addr, [V.int c, .int s, .int q] ≠ ts.map V.ref
  | [], z => by cases z
  | _ :: _, z => by
    have := (List.cons.inj z).1
    cases this
end
theorem cut_map (ts : List Addr) (lo hi : Option Int) : ∃ us : List Addr, cutV (ts.map V.ref) lo hi = us.map V.ref ∧ ∀ t ∈ us, t ∈ ts := by
  unfold cutV
  refine ⟨(ts.drop (HT.sIx (ts.map V.ref).length 0 lo)).take (HT.sIx (ts.map V.ref).length (ts.map V.ref).length hi - HT.sIx (ts.map V.ref).length 0 lo), by rw [List.map_take, List.map_drop], fun t ht => List.mem_of_mem_drop (List.mem_of_mem_take ht)⟩
theorem cut_lo {xs : List V} {i : Int} (h0 : 0 ≤ i) (h1 : i ≤ xs.length) : (cutV xs none (some i)).length = i.toNat := by
  unfold cutV
  simp only [HT.sIx, List.length_take, List.length_drop]
  split <;> omega
theorem cut_hi {xs : List V} {i : Int} (h0 : 0 ≤ i) (h1 : i ≤ xs.length) : (cutV xs (some i) none).length = xs.length - i.toNat := by
  unfold cutV
  simp only [HT.sIx, List.length_take, List.length_drop]
  split <;> omega
theorem small_mul {x y : Int} (h1 : x.natAbs ≤ 10 ^ 60) (h2 : y.natAbs ≤ 10 ^ 60) : CMulW x y := wide_mul (Nat.lt_of_le_of_lt h1 (show 10 ^ 60 < 2 ^ 200 by decide)) (Nat.lt_of_le_of_lt h2 (show 10 ^ 60 < 2 ^ 200 by decide)) (by decide) (by decide) (by decide)
abbrev Gb (B : Int) : Int → Int → Prop := fun a b => 1 ≤ a ∧ a ≤ B ∧ 0 ≤ b ∧ b ≤ B
/-- a drawing that makes a new list of pairs -/
def spRows (Gd : Int → Int → Prop) (lo : Nat) : Sp := fun vs H Q _ => ∃ (b : Addr) (c s n m : Int), vs = [.ref b, .int m] ∧ H b = some (box c s n) ∧ 1 ≤ m ∧ m ≤ 6 ∧ ∀ R (q : Nat) H', H R = none → KpB b s H H' → lo ≤ q → (q : Int) ≤ m → RowsP H' R q Gd → Q (.ref R) H'
theorem eight_at {r : Int} (h0 : 0 ≤ r) (h1 : r < 8) : ∃ m, atI [V.int 1, V.int 2, V.int 3, V.int 4, V.int 5, V.int 5, V.int 6, V.int 6] r = some (.int m) ∧ 1 ≤ m ∧ m ≤ 6 := by
  have h : r = 0 ∨ r = 1 ∨ r = 2 ∨ r = 3 ∨ r = 4 ∨ r = 5 ∨ r = 6 ∨ r = 7 := by omega
  rcases h with h | h | h | h | h | h | h | h <;> (subst h; exact ⟨_, rfl, by decide, by decide⟩)
theorem four_at {r : Int} (h0 : 0 ≤ r) (h1 : r < 4) : ∃ m, atI [V.int 2, V.int 2, V.int 3, V.int 5] r = some (.int m) ∧ 2 ≤ m ∧ m ≤ 5 := by
  have h : r = 0 ∨ r = 1 ∨ r = 2 ∨ r = 3 := by omega
  rcases h with h | h | h | h <;> (subst h; exact ⟨_, rfl, by decide, by decide⟩)


/-- the steps up to B, the offsets below the step -/
abbrev Gc (B : Int) : Int → Int → Prop := fun a b => 1 ≤ a ∧ a ≤ B ∧ 0 ≤ b ∧ b < a
section
variable {P : Program} {w : World} {K : PySem.W.Frag} {mg : Str → Option Value} {base : Heap} {C : Addr}
theorem ok_cover {f : Addr} {fd : FuncData} (F : Fun K "_law_cover" "_law_cover" s_law_cover f fd) (T : Txt mg) (f_law_draw : Fn P w K mg base "_law_draw" P_law_draw [] 1 spDrawA) : FnOk P w K mg base CX0 2 f fd P_law_cover (spRows (Gc 1000) 1) := by
  refine F.ok sc_law_cover (fun vs H Q E h => ?_) (fun cdv A outer s H vs Q E hr h => ?_)
  · obtain ⟨b, c, z, n, m, rfl, _⟩ := h
    rfl
  · obtain ⟨b, c, z, n, m, rfl, hb, m1, m6, k⟩ := h
    refine ⟨_, (pss_cons (ps_set (i := 2) sc_law_cover.nd rfl (Or.inl rfl) (pe_fn f_law_draw (hr.mono (by omega)) rfl (pa_cons (pv 0) (pa_cons pe_int pa_nil))))
    (pss_mid (ps_if (PW.pt (pw_and (pt_cmpR op_lt (pv 2) pe_int (nomark _)) (pw_and1 (pt_cmpR op_gt (pv 1) pe_int (nomark _))))) (pss_cons (ps_set (i := 3) sc_law_cover.nd rfl (Or.inl rfl) (pe_lst pa_nil))
    (pss_cons (ps_set (i := 4) sc_law_cover.nd rfl (Or.inl rfl) pe_int)
    (pss_cons (ps_for PassesOwn.never rfl  (pi_range1 rfl T.b_range (pa_cons (pe_callB (call_min2 rfl) rfl T.b_min (by decide +kernel) (pa_cons (pv 1) (pa_cons (pe_ix ix_tup (pe_tup (pa_cons pe_int (pa_cons pe_int (pa_cons pe_int (pa_cons pe_int (pa_cons pe_int (pa_cons pe_int (pa_cons pe_int (pa_cons pe_int pa_nil))))))))) (pe_fn f_law_draw (hr.mono (by omega)) rfl (pa_cons (pv 0) (pa_cons pe_int pa_nil))) (fun _ _ => rfl)) pa_nil))) pa_nil)) (pg_name (i := 5) sc_law_cover.nd rfl (Or.inl rfl)) (pss_cons (ps_expr (pe_bm PySem.F.plainAttrs_list PySem.F.slot_list_append PySem.F.type_list_append mt_append (pv 3) (pa_cons (pe_tup (pa_cons (pv 4) (pa_cons (pe_op op_sub (pe_op op_fdiv (pv 4) pe_int) pe_int) pa_nil))) pa_nil)))
    (pss_one (ps_set (i := 4) sc_law_cover.nd rfl (Or.inl rfl) (pe_op op_mul (pv 4) pe_int)))))
    (pss_mid (ps_if (pt_cmpR op_lt (pe_callB c_len rfl T.b_len PySem.boot_len (pa_cons (pv 3) pa_nil)) (pv 1) (nomark _)) (pss_one (ps_expr (pe_bm PySem.F.plainAttrs_list PySem.F.slot_list_append PySem.F.type_list_append mt_append (pv 3) (pa_cons (pe_tup (pa_cons (pe_op op_fdiv (pv 4) pe_int) (pa_cons (pe_op op_sub (pe_op op_fdiv (pv 4) pe_int) pe_int) pa_nil))) pa_nil)))) pss_nil)
    (pss_one (ps_ret (pv 3))))))) pss_nil)
    (pss_mid (ps_if (PW.pt (pw_and (pt_cmpR op_eq (pv 2) pe_int (nomark _)) (pw_and1 (pt_cmpR op_gt (pv 1) pe_int (nomark _))))) (pss_one (ps_ret (pe_lst (pa_cons (pe_tup (pa_cons pe_int (pa_cons pe_int pa_nil))) (pa_cons (pe_tup (pa_cons pe_int (pa_cons pe_int pa_nil))) (pa_cons (pe_tup (pa_cons pe_int (pa_cons pe_int pa_nil))) (pa_cons (pe_tup (pa_cons pe_int (pa_cons pe_int pa_nil))) (pa_cons (pe_tup (pa_cons pe_int (pa_cons pe_int pa_nil))) pa_nil)))))))) pss_nil)
    (pss_cons (ps_set (i := 3) sc_law_cover.nd rfl (Or.inl rfl) (pe_lst (pa_cons (pe_tup (pa_cons pe_int (pa_cons pe_int pa_nil))) pa_nil)))
    (pss_cons (ps_for PassesOwn.never rfl  (pi_range1 rfl T.b_range (pa_cons pe_int pa_nil)) (pg_name (i := 6) sc_law_cover.nd rfl (Or.inl rfl)) (pss_cons (ps_set (i := 7) sc_law_cover.nd rfl (Or.inr rfl) (pe_ix ix_tup (pe_tup (pa_cons pe_int (pa_cons pe_int (pa_cons pe_int (pa_cons pe_int pa_nil))))) (pe_fn f_law_draw (hr.mono (by omega)) rfl (pa_cons (pv 0) (pa_cons pe_int pa_nil))) (fun _ _ => rfl)))
    (pss_one (ps_if (pt_cmpR op_le (pe_op op_sub (pe_op op_add (pe_callB c_len rfl T.b_len PySem.boot_len (pa_cons (pv 3) pa_nil)) (pv 7)) pe_int) (pv 1) (nomark _)) (pss_cons (ps_set (i := 8) sc_law_cover.nd rfl (Or.inl rfl) (pe_fn f_law_draw (hr.mono (by omega)) rfl (pa_cons (pv 0) (pa_cons (pe_callB c_len rfl T.b_len PySem.boot_len (pa_cons (pv 3) pa_nil)) pa_nil))))
    (pss_cons (ps_set (i := 9) sc_law_cover.nd rfl (Or.inr rfl) (pe_ix ix_list (pv 3) (pv 8) (fun _ _ => rfl)))
    (pss_one (ps_set (i := 3) sc_law_cover.nd rfl (Or.inl rfl) (pe_op op_cat (pe_op op_cat (pe_slice sl_list (pv 3) po_none (po_some (pv 8))) (pe_slice sl_list (pv 3) (po_some (pe_op op_add (pv 8) pe_int)) po_none)) (pe_lc (own := [("_law_k", 5)]) (g := gName 5) rfl sc_law_cover.nd (pi_range1 rfl T.b_range (pa_cons (pv 7) pa_nil)) (blkOk_by (own := [("_law_k", 5)]) (N := N_law_cover) (sc := defScope s_law_cover) (by decide +kernel)) (fun _ _ _ _ _ => pg_name (i := 5) sc_law_cover.nd rfl (Or.inl rfl)) (fun _ _ _ _ _ => pts_nil) (fun _ _ _ _ _ => (pe_tup (pa_cons (pe_op op_mulW (pe_ix (r := rIxT K) ix_tup (pv 9) pe_int (fun _ _ => rfl)) (pv 7)) (pa_cons (pe_op op_add (pe_ix (r := rIxT K) ix_tup (pv 9) pe_int (fun _ _ => rfl)) (pe_op op_mulW (pe_ix (r := rIxT K) ix_tup (pv 9) pe_int (fun _ _ => rfl)) (pv 5))) pa_nil)))))))))) pss_nil))))
    (pss_one (ps_ret (pv 3)))))))), ?_⟩
    refine Bar.rStart (σ := [some (.ref b), some (.int m), none, none, none, none, none, none, none, none]) rfl ?_
    walk_at "rd"
    refine ⟨b, c, z, n, 6, rfl, hb, by decide, by decide, fun kd H1 kl ku ⟨K1, c1, n1, hb1⟩ => ?_⟩
    walk_at "rd"
    refine ⟨fun σ H' => H1 = H' ∧ σ = [some (.ref b), some (.int m), some (.int kd), none, none, none, none, none, none, none], ?_, ?_⟩
    · walk_at "rd"
      refine ite2 (fun h => ?_) (fun h => ?_)
      · walk_at "rd"
        refine ite2 (fun h2 => ?_) (fun h2 => ?_)
        · have m2 : 1 < m := of_decide_eq_true h2
          walk_at "rd"
          intro R hR
          walk_at "rd"
          intro tq htq
          walk_at "rd"
          have hRq : upd (upd H1 R (.lst [])) tq (.tup [.int 1, .int 2, .int 3, .int 4, .int 5, .int 5, .int 6, .int 6]) R = some (.lst []) := Bar.lkNew htq upd_same
          have nRb : R ≠ b := fun e => by
            rw [e, hb1] at hR
            cases hR
          have htq1 : H1 tq = none := Bar.freeNew htq
          have nqb : tq ≠ b := fun e => by
            rw [e, hb1] at htq1
            cases htq1
          refine ⟨b, c1, z, n1, 8, rfl, Bar.lkNew htq (Bar.lkNew hR hb1), by decide, by decide, fun r8 H2 l8 u8 ⟨K2, c2, n2, hb2⟩ => ?_⟩
          obtain ⟨v, hv, v1, v6⟩ := eight_at l8 u8
          refine Bar.rIxT_ (SqT.of (K2 _ _ nqb upd_same)) hv ?_
          walk_at "rd"
          refine ⟨_, _, rfl, ?_⟩
          walk_at "rd"
          have hR2 := K2 _ _ nRb hRq
          have KK : Kp b H H2 := ((K1.trans (Kp.new hR)).trans (Kp.new htq)).trans K2
          generalize hcn : (if v < m then v else m) = cn
          have cn1 : 1 ≤ cn ∧ cn ≤ m := by
            rw [← hcn]
            split <;> omega
          have hRH : H R = none := K1.free hb hb1 hR
          clear hcn hv hRq
          refine Bar.forR cn.toNat rfl (fun i σ H' => Kp R H2 H' ∧ RowsP H' R i (Gc 1000) ∧ ∃ (s : Int) (x : Option V), s = ((2 ^ (i + 1) : Nat) : Int) ∧ σ = [some (.ref b), some (.int m), some (.int kd), some (.ref R), some (.int s), x, none, none, none, none]) (by omega) ⟨Kp.refl, ⟨[], hR2, rfl, fun _ z => nomatch z⟩, 2, none, rfl, rfl⟩ ?_ ?_
          · rintro i σ H' hi ⟨K3, ⟨ts, e, l, g⟩, s, x, hs, rfl⟩
            have sb : 2 ≤ s ∧ s ≤ 128 := by
              have h1 : 2 ^ (i + 1) ≤ 2 ^ 7 := Nat.pow_le_pow_right (by decide) (by omega)
              have h2 : 2 ^ 1 ≤ 2 ^ (i + 1) := Nat.pow_le_pow_right (by decide) (by omega)
              omega
            walk_at "rd"
            intro t ht
            walk_at "rd"
            have nt : ∀ {p : Addr} {o : HO}, H' p = some o → p ≠ t := fun z => ne_of_none z ht
            have e' := Bar.lkNew (o := .tup [.int s, .int (s / 2 - 1)]) ht e
            refine Bar.rAppend_ e' (Bar.szLt (by rw [List.length_map]; omega)) ?_
            walk_at "rd"
            refine ⟨fun p o np z => by rw [upd_ne np]; exact Bar.lkNew ht (K3 _ _ np z), ?_, s * 2, _, ?_, rfl⟩
            · refine RowsP.app e' l (fun u hu => ?_) upd_same ⟨by omega, by omega, by omega, by omega⟩
              obtain ⟨a, c, y, w⟩ := g u hu
              exact ⟨a, c, Bar.lkNew ht y, w⟩
            · rw [hs]
              show _ = ((2 ^ (i + 1 + 1) : Nat) : Int)
              rw [Nat.pow_succ 2 (i + 1)]
              omega
          · rintro σ H' ⟨K3, RP, s, x, hs, rfl⟩
            have sb : 2 ≤ s ∧ s ≤ 128 := by
              have h1 : 2 ^ (cn.toNat + 1) ≤ 2 ^ 7 := Nat.pow_le_pow_right (by decide) (by omega)
              have h2 : 2 ^ 1 ≤ 2 ^ (cn.toNat + 1) := Nat.pow_le_pow_right (by decide) (by omega)
              omega
            have hb3 := K3 _ _ nRb.symm hb2
            have KR : ∀ {H4 : Hp}, Kp R H' H4 → Kp b H H4 := fun {H4} k4 p o np z => by
              have nR : p ≠ R := ne_of_none z hRH
              exact k4 _ _ nR (K3 _ _ nR (KK _ _ np z))
            have RP' := id RP
            obtain ⟨ts, e, l, g⟩ := RP
            walk_at "rd"
            refine ⟨fun σ H4 => Kp R H' H4 ∧ ∃ q : Nat, 1 ≤ q ∧ (q : Int) ≤ m ∧ RowsP H4 R q (Gc 1000) ∧ σ = [some (.ref b), some (.int m), some (.int kd), some (.ref R), some (.int s), x, none, none, none, none], ?_, ?_⟩
            · walk_at "rd"
              refine ite2 (fun h3 => ?_) (fun h3 => ?_)
              · have lt := of_decide_eq_true h3
                rw [List.length_map] at lt
                walk_at "rd"
                intro t ht
                walk_at "rd"
                have e' := Bar.lkNew (o := .tup [.int (s / 2), .int (s / 2 - 1)]) ht e
                refine Bar.rAppend_ e' (Bar.szLt (by rw [List.length_map]; omega)) ?_
                walk_at "rd"
                refine ⟨fun p o np z => by rw [upd_ne np]; exact Bar.lkNew ht z, cn.toNat + 1, by omega, by omega, ?_, rfl⟩
                refine RowsP.app e' l (fun u hu => ?_) upd_same ⟨by omega, by omega, by omega, by omega⟩
                obtain ⟨a, c, y, w⟩ := g u hu
                exact ⟨a, c, Bar.lkNew ht y, w⟩
              · walk_at "rd"
                exact ⟨Kp.refl, cn.toNat, by omega, by omega, RP', rfl⟩
            · rintro σ H4 ⟨K4, q, q1, q2, RQ, rfl⟩
              walk_at "rd"
              exact k R q H4 hRH ⟨KR K4, _, _, K4 _ _ nRb.symm hb3⟩ q1 q2 RQ
        · walk_at "rd"
          exact ⟨rfl, rfl⟩
      · walk_at "rd"
        exact ⟨rfl, rfl⟩
    · rintro σ H' ⟨rfl, rfl⟩
      walk_at "rd"
      refine ⟨fun σ H' => H1 = H' ∧ σ = [some (.ref b), some (.int m), some (.int kd), none, none, none, none, none, none, none], ?_, ?_⟩
      · walk_at "rd"
        refine ite2 (fun h => ?_) (fun h => ?_)
        · walk_at "rd"
          refine ite2 (fun h2 => ?_) (fun h2 => ?_)
          · have m5 : 4 < m := of_decide_eq_true h2
            walk_at "rd"
            intro t1 h1
            walk_at "rd"
            intro t2 h2
            walk_at "rd"
            intro t3 h3
            walk_at "rd"
            intro t4 h4
            walk_at "rd"
            intro t5 h5
            walk_at "rd"
            intro R hR
            have hR0 := freeNew (freeNew (freeNew (freeNew (freeNew hR))))
            refine k R 5 _ (K1.free hb hb1 hR0) ⟨((((((K1.trans (Kp.new h1)).trans (Kp.new h2)).trans (Kp.new h3)).trans (Kp.new h4)).trans (Kp.new h5)).trans (Kp.new hR)), _, _, Bar.lkNew hR (Bar.lkNew h5 (Bar.lkNew h4 (Bar.lkNew h3 (Bar.lkNew h2 (Bar.lkNew h1 hb1)))))⟩ (by decide) (by omega) ⟨[t1, t2, t3, t4, t5], upd_same, rfl, fun t ht => ?_⟩
            simp only [List.mem_cons, List.not_mem_nil, or_false] at ht
            rcases ht with e | e | e | e | e <;> subst e
            · exact ⟨2, 0, Bar.lkNew hR (Bar.lkNew h5 (Bar.lkNew h4 (Bar.lkNew h3 (Bar.lkNew h2 upd_same)))), by decide⟩
            · exact ⟨3, 0, Bar.lkNew hR (Bar.lkNew h5 (Bar.lkNew h4 (Bar.lkNew h3 upd_same))), by decide⟩
            · exact ⟨4, 1, Bar.lkNew hR (Bar.lkNew h5 (Bar.lkNew h4 upd_same)), by decide⟩
            · exact ⟨6, 5, Bar.lkNew hR (Bar.lkNew h5 upd_same), by decide⟩
            · exact ⟨12, 7, Bar.lkNew hR upd_same, by decide⟩
          · walk_at "rd"
            exact ⟨rfl, rfl⟩
        · walk_at "rd"
          exact ⟨rfl, rfl⟩
      · rintro σ H' ⟨rfl, rfl⟩
        walk_at "rd"
        intro t0 ht0
        walk_at "rd"
        intro R0 hR0
        walk_at "rd"
        have hR0' := freeNew hR0
        refine Bar.forR 4 rfl (fun i σ H' => Kp b H H' ∧ (∃ c n, H' b = some (box c z n)) ∧ ∃ (R : Addr) (q : Nat) (x5 x6 x7 x8 x9 : Option V), H R = none ∧ 1 ≤ q ∧ (q : Int) ≤ m ∧ RowsP H' R q (Gc ((5 ^ i : Nat) : Int)) ∧ σ = [some (.ref b), some (.int m), some (.int kd), some (.ref R), none, x5, x6, x7, x8, x9]) (by decide)
          ⟨(K1.trans (Kp.new ht0)).trans (Kp.new hR0), ⟨_, _, Bar.lkNew hR0 (Bar.lkNew ht0 hb1)⟩, R0, 1, _, _, _, _, _, K1.free hb hb1 hR0', by decide, m1, ⟨[t0], upd_same, rfl, fun t ht => ?_⟩, rfl⟩ ?_ ?_
        · cases List.mem_singleton.mp ht
          exact ⟨1, 0, Bar.lkNew hR0 upd_same, by decide⟩
        · rintro i σ H' hi ⟨KK, ⟨c2, n2, hb2⟩, R, q, x5, x6, x7, x8, x9, hRH, q1, qm, RP, rfl⟩
          have pw : (1 : Int) ≤ ((5 ^ i : Nat) : Int) ∧ ((5 ^ i : Nat) : Int) ≤ 625 := by
            have h1 : 5 ^ i ≤ 5 ^ 4 := Nat.pow_le_pow_right (by decide) (by omega)
            have h2 : 5 ^ 0 ≤ 5 ^ i := Nat.pow_le_pow_right (by decide) (by omega)
            omega
          have pw5 : ((5 ^ (i + 1) : Nat) : Int) = ((5 ^ i : Nat) : Int) * 5 := by
            rw [Nat.pow_succ]
            omega
          have nRb : R ≠ b := RP.ne hb2 box_ne
          walk_at "rd"
          intro tq htq
          walk_at "rd"
          have nqb : tq ≠ b := fun e => by
            rw [e, hb2] at htq
            cases htq
          refine ⟨b, c2, z, n2, 4, rfl, Bar.lkNew htq hb2, by decide, by decide, fun r4 H2 l4 u4 ⟨K2, c3, n3, hb3⟩ => ?_⟩
          obtain ⟨v, hv, v2, v5⟩ := four_at l4 u4
          refine Bar.rIxT_ (SqT.of (K2 _ _ nqb upd_same)) hv ?_
          have RP2 := (RP.new (o := .tup [.int 2, .int 2, .int 3, .int 5]) htq).kp K2 (Bar.lkNew htq hb2) nRb
          have KK2 := (KK.trans (Kp.new (o := .tup [.int 2, .int 2, .int 3, .int 5]) htq)).trans K2
          clear K2 htq hb2 hv RP KK
          generalize ((5 ^ i : Nat) : Int) = B at pw pw5 RP2
          have up : RowsP H2 R q (Gc ((5 ^ (i + 1) : Nat) : Int)) := RP2.imp fun a b ⟨h1, h2, h3, h4⟩ => ⟨h1, by omega, h3, by omega⟩
          have RP3 := id RP2
          obtain ⟨ts, e, l, g⟩ := RP2
          walk_at "rd"
          refine ite2 (fun h => ?_) (fun h => ?_)
          · have fit := of_decide_eq_true h
            rw [List.length_map, l] at fit
            walk_at "rd"
            refine ⟨b, c3, z, n3, ((ts.map V.ref).length : Nat), rfl, hb3, by rw [List.length_map]; omega, by rw [List.length_map]; exact Int.le_trans (show (ts.length : Int) ≤ 6 by omega) (by decide), fun at' H3 al au ⟨K3, c4, n4, hb4⟩ => ?_⟩
            rw [List.length_map] at au
            have e3 := K3 _ _ nRb e
            obtain ⟨told, hold⟩ : ∃ t, ts[at'.toNat]? = some t := ⟨_, List.getElem?_eq_getElem (by omega)⟩
            have hix : atI (ts.map V.ref) at' = some (.ref told) := by
              have := atI_nat (xs := ts.map V.ref) (j := at'.toNat) (v := V.ref told) (by rw [List.getElem?_map, hold]; rfl)
              rwa [Int.toNat_of_nonneg al] at this
            obtain ⟨oa, ob, ho, w1, w2, w3, w4⟩ := g told (List.mem_of_getElem? hold)
            have kT3 : ∀ {t : Addr} {xs : List V}, H2 t = some (.tup xs) → H3 t = some (.tup xs) := fun y => K3 _ _ (ne_of y hb3 (by intro w; cases w)) y
            have ho3 := kT3 ho
            walk_at "rd"
            refine Bar.rIxL_ (SqL.of e3) hix ?_
            walk_at "rd"
            refine Bar.rSlL_ (SqL.of e3) fun s1 hs1 => ?_
            walk_at "rd"
            refine Bar.rSlL_ (SqL.of (Bar.lkNew hs1 e3)) fun s2 hs2 => ?_
            walk_at "rd"
            obtain ⟨u1, eu1, su1⟩ := cut_map ts none (some at')
            obtain ⟨u2, eu2, su2⟩ := cut_map ts (some (at' + 1)) none
            have lu1 : u1.length = at'.toNat := by
              rw [← List.length_map (f := V.ref), ← eu1, cut_lo al (by rw [List.length_map]; omega)]
            have lu2 : u2.length = ts.length - (at' + 1).toNat := by
              rw [← List.length_map (f := V.ref), ← eu2, cut_hi (by omega) (by rw [List.length_map]; omega), List.length_map]
            rw [eu1] at hs2
            rw [eu1, eu2]
            refine rCat_ (Bar.lkNew hs2 upd_same) upd_same (Nat.le_trans (show _ ≤ 1000 by rw [List.length_map, List.length_map]; omega) (by decide)) fun s3 hs3 => ?_
            walk_at "rd"
            have H5e : ∀ {p : Addr} {o : HO}, H3 p = some o → upd (upd (upd H3 s1 (.lst (u1.map V.ref))) s2 (.lst (u2.map V.ref))) s3 (.lst (u1.map V.ref ++ u2.map V.ref)) p = some o := fun y => Bar.lkNew hs3 (Bar.lkNew hs2 (Bar.lkNew hs1 y))
            have hs3e : upd (upd (upd H3 s1 (.lst (u1.map V.ref))) s2 (.lst (u2.map V.ref))) s3 (.lst (u1.map V.ref ++ u2.map V.ref)) s3 = some (.lst (u1.map V.ref ++ u2.map V.ref)) := upd_same
            have n5 : ∀ {p : Addr}, upd (upd (upd H3 s1 (.lst (u1.map V.ref))) s2 (.lst (u2.map V.ref))) s3 (.lst (u1.map V.ref ++ u2.map V.ref)) p = none → H3 p = none := fun y => freeNew (freeNew (freeNew y))
            generalize upd (upd (upd H3 s1 (.lst (u1.map V.ref))) s2 (.lst (u2.map V.ref))) s3 (.lst (u1.map V.ref ++ u2.map V.ref)) = H5 at H5e hs3e n5 ⊢
            have ho5 := H5e ho3
            refine Bar.lcR (τ := [some (.ref b), some (.int m), some (.int kd), some (.ref R), none, none, some (.int i), some (.int v), some (.int at'), some (.ref told)]) v.toNat rfl rfl (by omega) (fun D hD => ⟨fun j H' => Same H5 H' ∧ ∃ us : List Addr, H' D = some (.lst (us.map V.ref)) ∧ us.length = j ∧ ∀ t ∈ us, ∃ a c, H' t = some (.tup [.int a, .int c]) ∧ Gc ((5 ^ (i + 1) : Nat) : Int) a c,
              ⟨fun _ _ y => Bar.lkNew hD y, [], upd_same, rfl, fun _ z => nomatch z⟩, ?_, ?_⟩)
            · rintro j H' hj ⟨S, us, hD', lus, gus⟩
              have ho6 := S _ _ ho5
              have wv : CMulW oa v := small_mul (Nat.le_trans (show oa.natAbs ≤ 1000 by omega) (by decide)) (Nat.le_trans (show v.natAbs ≤ 1000 by omega) (by decide))
              have wj : CMulW oa (j : Int) := small_mul (Nat.le_trans (show oa.natAbs ≤ 1000 by omega) (by decide)) (Nat.le_trans (show (j : Int).natAbs ≤ 1000 by omega) (by decide))
              walk_at "rd"
              refine ⟨rfl, ?_⟩
              walk_at "rd"
              intro t ht
              refine ⟨_, Bar.lkNew ht hD', Bar.szLt (by rw [List.length_map]; omega), fun p o y => ?_, us ++ [t], by rw [upd_same, List.map_append]; rfl, by rw [List.length_append, lus]; rfl, fun u hu => ?_⟩
              · rw [upd_ne (ne_of_none y hD)]
                exact Bar.lkNew ht (S _ _ y)
              · have kT : ∀ {t' : Addr} {xs : List V}, upd H' t (.tup [.int (oa * v), .int (ob + oa * j)]) t' = some (.tup xs) → upd (upd H' t (.tup [.int (oa * v), .int (ob + oa * j)])) D (.lst (us.map V.ref ++ [.ref t])) t' = some (.tup xs) := fun y => by
                  rw [upd_ne (ne_of y (Bar.lkNew ht hD') (by intro w; cases w))]
                  exact y
                rcases List.mem_append.mp hu with hu | hu
                · obtain ⟨a, c, y, w⟩ := gus u hu
                  exact ⟨a, c, kT (Bar.lkNew ht y), w⟩
                · cases List.mem_singleton.mp hu
                  refine ⟨_, _, kT upd_same, ?_⟩
                  rw [pw5]
                  have q0 : 1 * v ≤ oa * v := Int.mul_le_mul_of_nonneg_right w1 (by omega)
                  have q1 : oa * v ≤ B * v := Int.mul_le_mul_of_nonneg_right w2 (by omega)
                  have q2 : B * v ≤ B * 5 := Int.mul_le_mul_of_nonneg_left v5 (by omega)
                  have q3 : 0 ≤ oa * (j : Int) := Int.mul_nonneg (by omega) (by omega)
                  have q4 : oa * (j : Int) ≤ oa * (v - 1) := Int.mul_le_mul_of_nonneg_left (by omega) (by omega)
                  have q5 : oa * (v - 1) = oa * v - oa := by rw [Int.mul_sub, Int.mul_one]
                  exact ⟨by omega, by omega, by omega, by omega⟩
            · rintro H6 ⟨S, us, hD', lus, gus⟩
              have hs36 := S _ _ hs3e
              refine rCat_ hs36 hD' (Nat.le_trans (show _ ≤ 1000 by rw [List.length_append, List.length_map, List.length_map, List.length_map]; omega) (by decide)) fun s4 hs4 => ?_
              walk_at "rd"
              have keep : ∀ {p : Addr} {o : HO}, H3 p = some o → upd H6 s4 (.lst ((u1.map V.ref ++ u2.map V.ref) ++ us.map V.ref)) p = some o := fun y => Bar.lkNew hs4 (S _ _ (H5e y))
              refine ⟨fun p o n y => keep (K3 _ _ n (KK2 _ _ n y)), ⟨_, _, keep hb4⟩, s4, u1.length + u2.length + us.length, _, _, _, _, _, ?_, by omega, by omega, ⟨(u1 ++ u2) ++ us, ?_, by rw [List.length_append, List.length_append], fun t ht => ?_⟩, rfl⟩
              · cases q : H s4 with
                | none => rfl
                | some o =>
                  have nb : s4 ≠ b := fun e => by
                    rw [e, S _ _ (H5e hb4)] at hs4
                    cases hs4
                  rw [S _ _ (H5e (K3 _ _ nb (KK2 _ _ nb q)))] at hs4
                  cases hs4
              · rw [upd_same, List.map_append, List.map_append]
              · rcases List.mem_append.mp ht with ht | ht
                · obtain ⟨a, c, y, w⟩ : ∃ a c, H2 t = some (.tup [.int a, .int c]) ∧ Gc B a c := by
                    rcases List.mem_append.mp ht with ht | ht
                    · exact g t (su1 t ht)
                    · exact g t (su2 t ht)
                  exact ⟨a, c, keep (kT3 y), w.1, by have := w.2.1; omega, w.2.2.1, by have := w.2.2.2; omega⟩
                · obtain ⟨a, c, y, w⟩ := gus t ht
                  exact ⟨a, c, Bar.lkNew hs4 y, w⟩
          · walk_at "rd"
            exact ⟨KK2, ⟨_, _, hb3⟩, R, q, _, _, _, _, _, hRH, q1, qm, up, rfl⟩
        · rintro σ H' ⟨KK, ⟨c2, n2, hb2⟩, R, q, x5, x6, x7, x8, x9, hRH, q1, qm, RP, rfl⟩
          walk_at "rd"
          exact k R q H' hRH ⟨KK, _, _, hb2⟩ q1 qm (RP.imp fun a b ⟨h1, h2, h3, h4⟩ => ⟨h1, Int.le_trans h2 (by decide), h3, h4⟩)
end

end Lw
namespace Lw
open PySem L2 Bar

/-- the steps of this law's lists -/
abbrev lim : Int := 10 ^ 34
theorem lim_big : lim ≤ big := by decide
theorem threeP_at {r : Int} (h0 : 0 ≤ r) (h1 : r < 3) : ∃ m, atI [V.int 60, V.int (10 ^ Int.toNat 6), V.int (10 ^ Int.toNat 30)] r = some (.int m) ∧ 1 ≤ m ∧ m ≤ 10 ^ 30 := by
  have h : r = 0 ∨ r = 1 ∨ r = 2 := by omega
  rcases h with h | h | h <;> (subst h; exact ⟨_, rfl, by decide, by decide⟩)
theorem threeU_at {r : Int} (h0 : 0 ≤ r) (h1 : r < 3) : ∃ m, atI [V.int 12, V.int (10 ^ Int.toNat 6), V.int (10 ^ Int.toNat 30)] r = some (.int m) ∧ 1 ≤ m ∧ m ≤ 10 ^ 30 := by
  have h : r = 0 ∨ r = 1 ∨ r = 2 := by omega
  rcases h with h | h | h <;> (subst h; exact ⟨_, rfl, by decide, by decide⟩)
def spPairD : Sp := fun vs H Q _ => ∃ (b : Addr) (c s n : Int), vs = [.ref b] ∧ H b = some (box c s n) ∧ ∀ t x y H', H t = none → KpB b s H H' → H' t = some (.tup [.int x, .int y]) → 1 ≤ x → x ≤ lim → 0 ≤ y → y < x → Q (.ref t) H'
theorem coverB {P : Program} {w : World} {K : PySem.W.Frag} {mg : Str → Option Value} {base : Heap} (F : Fn P w K mg base "_law_cover" P_law_cover [] 2 (spRows (Gc 1000) 1)) : Fn P w K mg base "_law_cover" P_law_cover [] 2 (spRows (Gb 1000) 1) := by
  obtain ⟨f, fd, ds, h1, h2, h3, h4, ok⟩ := F.ex
  refine ⟨f, fd, ds, h1, h2, h3, h4, ok.imp fun vs H Q E h => ?_⟩
  obtain ⟨b, c, s, n, m, e, hb, m1, m6, k⟩ := h
  exact ⟨b, c, s, n, m, e, hb, m1, m6, fun R q H' hR kb lo hi RP => k R q H' hR kb lo hi (RP.imp fun a b ⟨h1, h2, h3, h4⟩ => ⟨h1, h2, h3, Int.le_of_lt (Int.lt_of_lt_of_le h4 h2)⟩)⟩
section
variable {P : Program} {w : World} {K : PySem.W.Frag} {mg : Str → Option Value} {base : Heap} {C : Addr}
theorem ok_pair {f : Addr} {fd : FuncData} (F : Fun K "_law_pair" "_law_pair" s_law_pair f fd) (T : Txt mg) (f_law_draw : Fn P w K mg base "_law_draw" P_law_draw [] 1 spDrawA) : FnOk P w K mg base CX0 2 f fd P_law_pair spPairD := by
  refine F.ok sc_law_pair (fun vs H Q E h => ?_) (fun cdv A outer s H vs Q E hr h => ?_)
  · obtain ⟨b, c, z, n, rfl, _⟩ := h
    rfl
  · obtain ⟨b, c, z, n, rfl, hb, k⟩ := h
    refine ⟨_, (pss_cons (ps_set (i := 1) sc_law_pair.nd rfl (Or.inl rfl) (pe_op op_add pe_int (pe_fn f_law_draw (hr.mono (by omega)) rfl (pa_cons (pv 0) (pa_cons pe_int pa_nil)))))
    (pss_cons (ps_if (pt_cmpR op_eq (pe_fn f_law_draw (hr.mono (by omega)) rfl (pa_cons (pv 0) (pa_cons pe_int pa_nil))) pe_int (nomark _)) (pss_one (ps_set (i := 1) sc_law_pair.nd rfl (Or.inl rfl) (pe_op op_add pe_int (pe_fn f_law_draw (hr.mono (by omega)) rfl (pa_cons (pv 0) (pa_cons (pe_ix ix_tup (pe_tup (pa_cons pe_int (pa_cons (pe_op op_powW pe_int pe_int) (pa_cons (pe_op op_powW pe_int pe_int) pa_nil)))) (pe_fn f_law_draw (hr.mono (by omega)) rfl (pa_cons (pv 0) (pa_cons pe_int pa_nil))) (fun _ _ => rfl)) pa_nil)))))) pss_nil)
    (pss_one (ps_ret (pe_tup (pa_cons (pv 1) (pa_cons (pe_fn f_law_draw (hr.mono (by omega)) rfl (pa_cons (pv 0) (pa_cons (pv 1) pa_nil))) pa_nil))))))), ?_⟩
    refine Bar.rStart (σ := [some (.ref b), none]) rfl ?_
    have b60 : (60 : Int) ≤ big := by decide
    walk_at "rd"
    refine ⟨b, c, z, n, 12, rfl, hb, by decide, by decide, fun r1 H1 l1 u1 ⟨K1, c1, n1, hb1⟩ => ?_⟩
    walk_at "rd"
    refine ⟨b, c1, z, n1, 4, rfl, hb1, by decide, by decide, fun r2 H2 l2 u2 ⟨K2, c2, n2, hb2⟩ => ?_⟩
    walk_at "rd"
    refine ite2 (fun h => ?_) (fun h => ?_)
    · walk_at "rd"
      intro tq htq
      walk_at "rd"
      have nqb : tq ≠ b := fun e => by
        rw [e, hb2] at htq
        cases htq
      refine ⟨b, c2, z, n2, 3, rfl, Bar.lkNew htq hb2, by decide, by decide, fun r3 H3 l3 u3 ⟨K3, c3, n3, hb3⟩ => ?_⟩
      obtain ⟨v, hv, v1, v2⟩ := threeP_at l3 u3
      refine Bar.rIxT_ (SqT.of (K3 _ _ nqb upd_same)) hv ?_
      walk_at "rd"
      refine ⟨b, c3, z, n3, v, rfl, hb3, by omega, Int.le_trans v2 (by decide), fun r4 H4 l4 u4 ⟨K4, c4, n4, hb4⟩ => ?_⟩
      walk_at "rd"
      refine ⟨b, c4, z, n4, 1 + r4, rfl, hb4, by omega, Int.le_trans (show 1 + r4 ≤ 10 ^ 30 by omega) (by decide), fun r5 H5 l5 u5 ⟨K5, c5, n5, hb5⟩ => ?_⟩
      walk_at "rd"
      intro t ht
      have KK : Kp b H H5 := ((((K1.trans K2).trans (Kp.new htq)).trans K3).trans K4).trans K5
      exact k t _ _ _ (KK.free hb hb5 ht) ⟨KK.trans (Kp.new ht), _, _, Bar.lkNew ht hb5⟩ upd_same (by omega) (Int.le_trans (show 1 + r4 ≤ 10 ^ 30 by omega) (by decide)) l5 (by omega)
    · walk_at "rd"
      refine ⟨b, c2, z, n2, 1 + r1, rfl, hb2, by omega, by omega, fun r5 H5 l5 u5 ⟨K5, c5, n5, hb5⟩ => ?_⟩
      walk_at "rd"
      intro t ht
      have KK : Kp b H H5 := (K1.trans K2).trans K5
      exact k t _ _ _ (KK.free hb hb5 ht) ⟨KK.trans (Kp.new ht), _, _, Bar.lkNew ht hb5⟩ upd_same (by omega) (Int.le_trans (show 1 + r1 ≤ 12 by omega) (by decide)) l5 (by omega)
/-- a drawn pair, ready: its remainder taken -/
abbrev Gm : Int → Int → Prop := fun a b => 1 ≤ a ∧ a ≤ lim ∧ 0 ≤ b ∧ b < a
abbrev Gr : Int → Int → Prop := fun a b => 1 ≤ a ∧ a ≤ lim ∧ 0 ≤ b ∧ b ≤ lim
theorem ok_grids {f : Addr} {fd : FuncData} (F : Fun K "_law_grids" "_law_grids" s_law_grids f fd) (T : Txt mg) (f_law_draw : Fn P w K mg base "_law_draw" P_law_draw [] 1 spDrawA) (f_law_cover : Fn P w K mg base "_law_cover" P_law_cover [] 2 (spRows (Gb 1000) 1)) (f_law_pair : Fn P w K mg base "_law_pair" P_law_pair [] 2 spPairD) :
    FnOk P w K mg base CX0 3 f fd P_law_grids (spRows Gm 0) := by
  refine F.ok sc_law_grids (fun vs H Q E h => ?_) (fun cdv A outer s H vs Q E hr h => ?_)
  · obtain ⟨b, c, z, n, m, rfl, _⟩ := h
    rfl
  · obtain ⟨b, c, z, n, m, rfl, hb, m1, m6, k⟩ := h
    refine ⟨_, (pss_cons (ps_set (i := 2) sc_law_grids.nd rfl (Or.inl rfl) (pe_lst pa_nil))
    (pss_mid (ps_if (pt_cmpR op_gt (pe_fn f_law_draw (hr.mono (by omega)) rfl (pa_cons (pv 0) (pa_cons pe_int pa_nil))) pe_int (nomark _)) (pss_cons (ps_set (i := 2) sc_law_grids.nd rfl (Or.inl rfl) (pe_fn f_law_cover (hr.mono (by omega)) rfl (pa_cons (pv 0) (pa_cons (pv 1) pa_nil))))
    (pss_mid (ps_if (pt_cmpR op_eq (pe_fn f_law_draw (hr.mono (by omega)) rfl (pa_cons (pv 0) (pa_cons pe_int pa_nil))) pe_int (nomark _)) (pss_cons (ps_set (i := 3) sc_law_grids.nd rfl (Or.inl rfl) (pe_fn f_law_draw (hr.mono (by omega)) rfl (pa_cons (pv 0) (pa_cons (pe_callB c_len rfl T.b_len PySem.boot_len (pa_cons (pv 2) pa_nil)) pa_nil))))
    (pss_one (ps_set (i := 2) sc_law_grids.nd rfl (Or.inl rfl) (pe_op op_cat (pe_slice sl_list (pv 2) po_none (po_some (pv 3))) (pe_slice sl_list (pv 2) (po_some (pe_op op_add (pv 3) pe_int)) po_none))))) pss_nil)
    (pss_one (ps_if (pt_cmpR op_eq (pe_fn f_law_draw (hr.mono (by omega)) rfl (pa_cons (pv 0) (pa_cons pe_int pa_nil))) pe_int (nomark _)) (pss_cons (ps_set (i := 4) sc_law_grids.nd rfl (Or.inr rfl) (pe_op op_add pe_int (pe_fn f_law_draw (hr.mono (by omega)) rfl (pa_cons (pv 0) (pa_cons (pe_ix ix_tup (pe_tup (pa_cons pe_int (pa_cons (pe_op op_powW pe_int pe_int) (pa_cons (pe_op op_powW pe_int pe_int) pa_nil)))) (pe_fn f_law_draw (hr.mono (by omega)) rfl (pa_cons (pv 0) (pa_cons pe_int pa_nil))) (fun _ _ => rfl)) pa_nil)))))
    (pss_cons (ps_set (i := 5) sc_law_grids.nd rfl (Or.inr rfl) (pe_fn f_law_draw (hr.mono (by omega)) rfl (pa_cons (pv 0) (pa_cons (pv 4) pa_nil))))
    (pss_one (ps_setLc (i := 2) (own := [("_law_row", 8)]) (g := gName 8) rfl sc_law_grids.nd rfl rfl (sw_true rfl rfl rfl (by decide +kernel)) (pi_list (pv 2)) (blkOk_by (own := [("_law_row", 8)]) (N := N_law_grids) (sc := defScope s_law_grids) (by decide +kernel)) (fun _ _ _ _ _ => pg_name (i := 8) sc_law_grids.nd rfl (Or.inl rfl)) (fun _ _ _ _ _ => pts_nil) (fun _ _ _ _ _ => (pe_tup (pa_cons (pe_op op_mulW (pe_ix (r := rIxT K) ix_tup (pv 8) pe_int (fun _ _ => rfl)) (pv 4)) (pa_cons (pe_op op_add (pe_op op_mulW (pe_ix (r := rIxT K) ix_tup (pv 8) pe_int (fun _ _ => rfl)) (pv 4)) (pv 5)) pa_nil)))))))) pss_nil)))) pss_nil)
    (pss_cons (ps_for PassesOwn.never rfl  (pi_range1 rfl T.b_range (pa_cons (pe_fn f_law_draw (hr.mono (by omega)) rfl (pa_cons (pv 0) (pa_cons (pe_op op_add (pe_op op_sub (pv 1) (pe_callB c_len rfl T.b_len PySem.boot_len (pa_cons (pv 2) pa_nil))) pe_int) pa_nil))) pa_nil)) (pg_name (i := 6) sc_law_grids.nd rfl (Or.inl rfl)) (pss_one (ps_expr (pe_bm PySem.F.plainAttrs_list PySem.F.slot_list_append PySem.F.type_list_append mt_append (pv 2) (pa_cons (pe_fn f_law_pair (hr.mono (by omega)) rfl (pa_cons (pv 0) pa_nil)) pa_nil)))))
    (pss_mid (ps_if (PW.pt (pw_and (pt_chain op_lt op_lt pe_int (pe_callB c_len rfl T.b_len PySem.boot_len (pa_cons (pv 2) pa_nil)) (pv 1)) (pw_and1 (pt_cmpR op_eq (pe_fn f_law_draw (hr.mono (by omega)) rfl (pa_cons (pv 0) (pa_cons pe_int pa_nil))) pe_int (nomark _))))) (pss_one (ps_expr (pe_bm PySem.F.plainAttrs_list PySem.F.slot_list_append PySem.F.type_list_append mt_append (pv 2) (pa_cons (pe_ix ix_list (pv 2) (pe_fn f_law_draw (hr.mono (by omega)) rfl (pa_cons (pv 0) (pa_cons (pe_callB c_len rfl T.b_len PySem.boot_len (pa_cons (pv 2) pa_nil)) pa_nil))) (fun _ _ => rfl)) pa_nil)))) pss_nil)
    (pss_cons (ps_set (i := 5) sc_law_grids.nd rfl (Or.inr rfl) (pe_fn f_law_draw (hr.mono (by omega)) rfl (pa_cons (pv 0) (pa_cons (pe_op op_powW pe_int pe_int) pa_nil))))
    (pss_cons (ps_set (i := 7) sc_law_grids.nd rfl (Or.inl rfl) (pe_fn f_law_draw (hr.mono (by omega)) rfl (pa_cons (pv 0) (pa_cons (pe_op op_add (pe_callB c_len rfl T.b_len PySem.boot_len (pa_cons (pv 2) pa_nil)) pe_int) pa_nil))))
    (pss_cons (ps_set (i := 2) sc_law_grids.nd rfl (Or.inl rfl) (pe_op op_cat (pe_slice sl_list (pv 2) (po_some (pv 7)) po_none) (pe_slice sl_list (pv 2) po_none (po_some (pv 7)))))
    (pss_mid (ps_if (pt_cmpR op_eq (pe_fn f_law_draw (hr.mono (by omega)) rfl (pa_cons (pv 0) (pa_cons pe_int pa_nil))) pe_int (nomark _)) (pss_one (ps_set (i := 2) sc_law_grids.nd rfl (Or.inl rfl) (pe_revL (pv 2)))) pss_nil)
    (pss_one (ps_ret (pe_lc (own := [("_law_row", 8)]) (g := gName 8) rfl sc_law_grids.nd (pi_list (pv 2)) (blkOk_by (own := [("_law_row", 8)]) (N := N_law_grids) (sc := defScope s_law_grids) (by decide +kernel)) (fun _ _ _ _ _ => pg_name (i := 8) sc_law_grids.nd rfl (Or.inl rfl)) (fun _ _ _ _ _ => pts_nil) (fun _ _ _ _ _ => (pe_tup (pa_cons (pe_ix (r := rIxT K) ix_tup (pv 8) pe_int (fun _ _ => rfl)) (pa_cons (pe_op op_mod (pe_callTy c_int rfl T.b_int (by decide +kernel) (pa_cons (pe_op op_add (pe_ix (r := rIxT K) ix_tup (pv 8) pe_int (fun _ _ => rfl)) (pv 5)) pa_nil)) (pe_ix (r := rIxT K) ix_tup (pv 8) pe_int (fun _ _ => rfl))) pa_nil))))))))))))))), ?_⟩
    refine Bar.rStart (σ := [some (.ref b), some (.int m), none, none, none, none, none, none, none]) rfl ?_
    walk_at "rd"
    intro R0 hR0
    walk_at "rd"
    have nR0 : R0 ≠ b := fun e => by
      rw [e, hb] at hR0
      cases hR0
    refine ⟨fun σ H' => Kp b H H' ∧ (∃ c n, H' b = some (box c z n)) ∧ ∃ (R : Addr) (q : Nat) (x3 x4 x5 : Option V), H R = none ∧ (q : Int) ≤ m ∧ RowsP H' R q (Gb (10 ^ 34)) ∧ σ = [some (.ref b), some (.int m), some (.ref R), x3, x4, x5, none, none, none], ?_, ?_⟩
    · walk_at "rd"
      refine ⟨b, c, z, n, 4, rfl, Bar.lkNew hR0 hb, by decide, by decide, fun r1 H1 l1 u1 ⟨K1, c1, n1, hb1⟩ => ?_⟩
      have K1' : Kp b H H1 := (Kp.new hR0).trans K1
      walk_at "rd"
      refine ite2 (fun h => ?_) (fun h => ?_)
      · walk_at "rd"
        refine ⟨b, c1, z, n1, m, rfl, hb1, m1, m6, fun R q H2 hR2 ⟨K2, c2, n2, hb2⟩ q1 qm RP => ?_⟩
        have hRH := K1'.free hb hb1 hR2
        have K2' := K1'.trans K2
        clear K1 K2 K1' hR2 hb1 hR0 nR0 h
        walk_at "rd"
        refine ⟨fun σ H' => Kp b H H' ∧ (∃ c n, H' b = some (box c z n)) ∧ ∃ (R : Addr) (q : Nat) (x3 : Option V), H R = none ∧ (q : Int) ≤ m ∧ RowsP H' R q (Gb 1000) ∧ σ = [some (.ref b), some (.int m), some (.ref R), x3, none, none, none, none, none], ?_, ?_⟩
        · walk_at "rd"
          refine ⟨b, c2, z, n2, 4, rfl, hb2, by decide, by decide, fun r3 H3 _ _ ⟨K3, c3, n3, hb3⟩ => ?_⟩
          have nRb : R ≠ b := RP.ne hb2 box_ne
          replace RP := RP.kp K3 hb2 nRb
          replace K3 := K2'.trans K3
          clear hb2 K2'
          walk_at "rd"
          refine ite2 (fun h => ?_) (fun h => ?_)
          · obtain ⟨ts, e, l, g⟩ := id RP
            walk_at "rd"
            refine ⟨b, c3, z, n3, ((ts.map V.ref).length : Nat), rfl, hb3, by rw [List.length_map]; omega, by rw [List.length_map]; exact Int.le_trans (show (ts.length : Int) ≤ 6 by omega) (by decide), fun at' H4 al au ⟨K4, c4, n4, hb4⟩ => ?_⟩
            rw [List.length_map] at au
            have e4 := K4 _ _ nRb e
            walk_at "rd"
            refine Bar.rSlL_ (SqL.of e4) fun s1 hs1 => ?_
            walk_at "rd"
            refine Bar.rSlL_ (SqL.of (Bar.lkNew hs1 e4)) fun s2 hs2 => ?_
            walk_at "rd"
            obtain ⟨u1, eu1, su1⟩ := cut_map ts none (some at')
            obtain ⟨u2, eu2, su2⟩ := cut_map ts (some (at' + 1)) none
            have lu1 : u1.length = at'.toNat := by
              rw [← List.length_map (f := V.ref), ← eu1, cut_lo al (by rw [List.length_map]; omega)]
            have lu2 : u2.length = ts.length - (at' + 1).toNat := by
              rw [← List.length_map (f := V.ref), ← eu2, cut_hi (by omega) (by rw [List.length_map]; omega), List.length_map]
            rw [eu1] at hs2
            rw [eu1, eu2]
            refine rCat_ (Bar.lkNew hs2 upd_same) upd_same (Nat.le_trans (show _ ≤ 1000 by rw [List.length_map, List.length_map]; omega) (by decide)) fun s3 hs3 => ?_
            walk_at "rd"
            have keep : ∀ {p : Addr} {o : HO}, H4 p = some o → upd (upd (upd H4 s1 (.lst (u1.map V.ref))) s2 (.lst (u2.map V.ref))) s3 (.lst (u1.map V.ref ++ u2.map V.ref)) p = some o := fun y => Bar.lkNew hs3 (Bar.lkNew hs2 (Bar.lkNew hs1 y))
            refine ⟨fun p o np y => keep (K4 _ _ np (K3 _ _ np y)), ⟨_, _, keep hb4⟩, s3, (u1 ++ u2).length, _, ?_, by rw [List.length_append]; omega, ⟨u1 ++ u2, ?_, rfl, fun t ht => ?_⟩, rfl⟩
            · exact (K3.trans K4).free hb hb4 (freeNew (freeNew hs3))
            · rw [upd_same, List.map_append]
            · obtain ⟨a, c, y, w⟩ := g t (by
                rcases List.mem_append.mp ht with ht | ht
                · exact su1 t ht
                · exact su2 t ht)
              exact ⟨a, c, keep (K4 _ _ (ne_of y hb3 (by intro w; cases w)) y), w⟩
          · walk_at "rd"
            exact ⟨K3, ⟨_, _, hb3⟩, R, q, _, hRH, qm, RP, rfl⟩
        · rintro σ H3 ⟨K3, ⟨c3, n3, hb3⟩, R, q, x3, hRH, qm, RP, rfl⟩
          clear K2' hb2
          have nRb : R ≠ b := RP.ne hb3 box_ne
          walk_at "rd"
          refine ⟨b, c3, z, n3, 6, rfl, hb3, by decide, by decide, fun r4 H4 _ _ ⟨K4, c4, n4, hb4⟩ => ?_⟩
          replace RP := RP.kp K4 hb3 nRb
          replace K4 := K3.trans K4
          clear K3 hb3
          walk_at "rd"
          refine ite2 (fun h => ?_) (fun h => ?_)
          · walk_at "rd"
            intro tq htq
            walk_at "rd"
            have nqb : tq ≠ b := fun e => by
              rw [e, hb4] at htq
              cases htq
            refine ⟨b, c4, z, n4, 3, rfl, Bar.lkNew htq hb4, by decide, by decide, fun r5 H5 l5 u5 ⟨K5, c5, n5, hb5⟩ => ?_⟩
            obtain ⟨v, hv, v1, v2⟩ := threeU_at l5 u5
            refine Bar.rIxT_ (SqT.of (K5 _ _ nqb upd_same)) hv ?_
            replace RP := (RP.new (o := .tup [.int 12, .int (10 ^ Int.toNat 6), .int (10 ^ Int.toNat 30)]) htq).kp K5 (Bar.lkNew htq hb4) nRb
            replace K5 := (K4.trans (Kp.new (o := .tup [.int 12, .int (10 ^ Int.toNat 6), .int (10 ^ Int.toNat 30)]) htq)).trans K5
            clear htq hb4 hv K4
            walk_at "rd"
            refine ⟨b, c5, z, n5, v, rfl, hb5, by omega, Int.le_trans v2 (by decide), fun r6 H6 l6 u6 ⟨K6, c6, n6, hb6⟩ => ?_⟩
            replace RP := RP.kp K6 hb5 nRb
            replace K6 := K5.trans K6
            clear K5 hb5
            walk_at "rd"
            refine ⟨b, c6, z, n6, 1 + r6, rfl, hb6, by omega, Int.le_trans (show 1 + r6 ≤ 10 ^ 30 by omega) (by decide), fun r7 H7 l7 u7 ⟨K7, c7, n7, hb7⟩ => ?_⟩
            replace RP := RP.kp K7 hb6 nRb
            replace K7 := K6.trans K7
            clear K6 hb6
            obtain ⟨ts, e, l, g⟩ := RP
            walk_at "rd"
            refine Bar.lcL (xs := ts.map V.ref) (τ := [some (.ref b), some (.int m), some (.ref R), x3, some (.int (1 + r6)), some (.int r7), none, none, none]) rfl (SqL.of e) (fun D hD => ⟨fun j H' => Same H7 H' ∧ ∃ us : List Addr, H' D = some (.lst (us.map V.ref)) ∧ us.length = j ∧ ∀ t ∈ us, ∃ a c, H' t = some (.tup [.int a, .int c]) ∧ Gb (10 ^ 34) a c,
              ⟨fun _ _ y => Bar.lkNew hD y, [], upd_same, rfl, fun _ z => nomatch z⟩, fun i H' _ ⟨S, _⟩ => SqL.of (S _ _ e), ?_, ?_⟩)
            · rintro j x H' hx ⟨S, us, hD', lus, gus⟩
              obtain ⟨t, ht, rfl⟩ : ∃ t, t ∈ ts ∧ x = V.ref t := by
                obtain ⟨t, ht, e⟩ := List.mem_map.mp (List.mem_of_getElem? hx)
                exact ⟨t, ht, e.symm⟩
              have jl : j < ts.length := by
                have := (List.getElem?_eq_some_iff.mp hx).1
                rwa [List.length_map] at this
              obtain ⟨oa, ob, ho, w1, w2, w3, w4⟩ := g t ht
              have ho6 := S _ _ ho
              have us' : (1 + r6).natAbs ≤ 10 ^ 60 := Nat.le_trans (show (1 + r6).natAbs ≤ 10 ^ 30 by omega) (by decide)
              have wv : CMulW oa (1 + r6) := small_mul (Nat.le_trans (show oa.natAbs ≤ 1000 by omega) (by decide)) us'
              have wj : CMulW ob (1 + r6) := small_mul (Nat.le_trans (show ob.natAbs ≤ 1000 by omega) (by decide)) us'
              walk_at "rd"
              refine ⟨rfl, ?_⟩
              walk_at "rd"
              intro t' ht'
              refine ⟨_, Bar.lkNew ht' hD', Bar.szLt (by rw [List.length_map]; omega), fun p o y => ?_, us ++ [t'], by rw [upd_same, List.map_append]; rfl, by rw [List.length_append, lus]; rfl, fun u hu => ?_⟩
              · rw [upd_ne (ne_of_none y hD)]
                exact Bar.lkNew ht' (S _ _ y)
              · have kT : ∀ {t'' : Addr} {xs : List V}, upd H' t' (.tup [.int (oa * (1 + r6)), .int (ob * (1 + r6) + r7)]) t'' = some (.tup xs) → upd (upd H' t' (.tup [.int (oa * (1 + r6)), .int (ob * (1 + r6) + r7)])) D (.lst (us.map V.ref ++ [.ref t'])) t'' = some (.tup xs) := fun y => by
                  rw [upd_ne (ne_of y (Bar.lkNew ht' hD') (by intro w; cases w))]
                  exact y
                rcases List.mem_append.mp hu with hu | hu
                · obtain ⟨a, c, y, w⟩ := gus u hu
                  exact ⟨a, c, kT (Bar.lkNew ht' y), w⟩
                · cases List.mem_singleton.mp hu
                  refine ⟨_, _, kT upd_same, ?_⟩
                  have q0 : 1 * (1 + r6) ≤ oa * (1 + r6) := Int.mul_le_mul_of_nonneg_right w1 (by omega)
                  have q1 : oa * (1 + r6) ≤ 1000 * (1 + r6) := Int.mul_le_mul_of_nonneg_right w2 (by omega)
                  have q2 : ob * (1 + r6) ≤ 1000 * (1 + r6) := Int.mul_le_mul_of_nonneg_right w4 (by omega)
                  have q3 : 0 ≤ ob * (1 + r6) := Int.mul_nonneg w3 (by omega)
                  exact ⟨by omega, by omega, by omega, by omega⟩
            · rintro H8 ⟨S, us, hD', lus, gus⟩
              walk_at "rd"
              rw [List.length_map] at lus
              exact ⟨fun p o np y => S _ _ (K7 _ _ np y), ⟨_, _, S _ _ hb7⟩, D, us.length, _, _, _, K7.free hb hb7 hD, by omega, ⟨us, hD', rfl, gus⟩, rfl⟩
          · walk_at "rd"
            exact ⟨K4, ⟨_, _, hb4⟩, R, q, _, _, _, hRH, qm, RP.imp fun a b ⟨h1, h2, h3, h4⟩ => ⟨h1, Int.le_trans h2 (by decide), h3, Int.le_trans h4 (by decide)⟩, rfl⟩
      · walk_at "rd"
        exact ⟨K1', ⟨_, _, hb1⟩, R0, 0, _, _, _, hR0, by omega, ⟨[], K1 _ _ nR0 upd_same, rfl, fun _ z => nomatch z⟩, rfl⟩
    · rintro σ H1 ⟨K1, ⟨c1, n1, hb1⟩, R, q, x3, x4, x5, hRH, qm, RP, rfl⟩
      have nRb : R ≠ b := RP.ne hb1 box_ne
      replace RP : RowsP H1 R q Gr := RP.imp fun a b ⟨h1, h2, h3, h4⟩ => ⟨h1, Int.le_trans h2 (by decide), h3, Int.le_trans h4 (by decide)⟩
      have lq : ∃ ts : List Addr, H1 R = some (.lst (ts.map V.ref)) ∧ (ts.map V.ref).length = q := by
        obtain ⟨ts, e, l, _⟩ := RP
        exact ⟨ts, e, by rw [List.length_map, l]⟩
      obtain ⟨ts0, e0, l0⟩ := lq
      walk_at "rd"
      rw [l0]
      refine ⟨b, c1, z, n1, _, rfl, hb1, by omega, Int.le_trans (show m - (q : Int) + 1 ≤ 7 by omega) (by decide), fun r1 H2 r1l r1u ⟨K2, c2, n2, hb2⟩ => ?_⟩
      replace RP := RP.kp K2 hb1 nRb
      replace K2 := K1.trans K2
      clear K1 hb1 e0 l0 ts0
      refine Bar.forR r1.toNat rfl (fun i σ H' => Kp b H H' ∧ (∃ c n, H' b = some (box c z n)) ∧ RowsP H' R (q + i) Gr ∧ ∃ x6 : Option V, σ = [some (.ref b), some (.int m), some (.ref R), x3, x4, x5, x6, none, none]) (by omega) ⟨K2, ⟨_, _, hb2⟩, RP, none, rfl⟩ ?_ ?_
      · rintro i σ H' hi ⟨KK, ⟨c3, n3, hb3⟩, RP, x6, rfl⟩
        obtain ⟨ts0, e0, _⟩ := id RP
        walk_at "rd"
        refine ⟨b, c3, z, n3, rfl, hb3, fun t x y H3 ht ⟨K3, c4, n4, hb4⟩ hT x1 x2 y1 y2 => ?_⟩
        replace RP := RP.kp K3 hb3 nRb
        obtain ⟨ts, e, l, g⟩ := RP
        walk_at "rd"
        refine Bar.rAppend_ e (Bar.szLt (by rw [List.length_map]; omega)) ?_
        walk_at "rd"
        refine ⟨fun p o np y => ?_, ⟨_, _, (upd_ne nRb.symm).trans hb4⟩, RowsP.app e l g hT ⟨x1, x2, y1, Int.le_of_lt (Int.lt_of_lt_of_le y2 x2)⟩, _, rfl⟩
        rw [upd_ne (ne_of_none y hRH)]
        exact K3 _ _ np (KK _ _ np y)
      · rintro σ H3 ⟨K3, ⟨c3, n3, hb3⟩, RP, x6, rfl⟩
        clear K2 hb2
        have qm2 : ((q + r1.toNat : Nat) : Int) ≤ m := by omega
        generalize q + r1.toNat = q2 at RP qm2
        walk_at "rd"
        refine ⟨fun σ H' => Kp b H H' ∧ (∃ c n, H' b = some (box c z n)) ∧ (∃ q3 : Nat, (q3 : Int) ≤ m ∧ RowsP H' R q3 Gr) ∧ σ = [some (.ref b), some (.int m), some (.ref R), x3, x4, x5, x6, none, none], ?_, ?_⟩
        · obtain ⟨ts, e, l, g⟩ := id RP
          walk_at "rd"
          refine ite2 (fun h => ?_) (fun h => ?_)
          · have q0 := of_decide_eq_true h
            rw [List.length_map] at q0
            walk_at "rd"
            refine ite2 (fun h2 => ?_) (fun h2 => ?_)
            · have q1 := of_decide_eq_true h2
              rw [List.length_map] at q1
              walk_at "rd"
              refine ⟨b, c3, z, n3, 4, rfl, hb3, by decide, by decide, fun r4 H4 _ _ ⟨K4, c4, n4, hb4⟩ => ?_⟩
              have e4 := K4 _ _ nRb e
              walk_at "rd"
              refine ite2 (fun h3 => ?_) (fun h3 => ?_)
              · walk_at "rd"
                refine ⟨b, c4, z, n4, ((ts.map V.ref).length : Nat), rfl, hb4, by rw [List.length_map]; omega, by rw [List.length_map]; exact Int.le_trans (show (ts.length : Int) ≤ 6 by omega) (by decide), fun at' H5 al au ⟨K5, c5, n5, hb5⟩ => ?_⟩
                rw [List.length_map] at au
                have e5 := K5 _ _ nRb e4
                obtain ⟨told, hold⟩ : ∃ t, ts[at'.toNat]? = some t := ⟨_, List.getElem?_eq_getElem (by omega)⟩
                have hix : atI (ts.map V.ref) at' = some (.ref told) := by
                  have := atI_nat (xs := ts.map V.ref) (j := at'.toNat) (v := V.ref told) (by rw [List.getElem?_map, hold]; rfl)
                  rwa [Int.toNat_of_nonneg al] at this
                have g5 : ∀ t ∈ ts, ∃ a c, H5 t = some (.tup [.int a, .int c]) ∧ Gr a c := fun t ht => by
                  obtain ⟨a, c, y, w⟩ := g t ht
                  have nb := ne_of y hb3 (by intro w; cases w)
                  exact ⟨a, c, K5 _ _ nb (K4 _ _ nb y), w⟩
                obtain ⟨oa, ob, ho, w⟩ := g5 told (List.mem_of_getElem? hold)
                refine Bar.rIxL_ (SqL.of e5) hix ?_
                walk_at "rd"
                refine Bar.rAppend_ e5 (Bar.szLt (by rw [List.length_map]; omega)) ?_
                walk_at "rd"
                refine ⟨fun p o np y => ?_, ⟨_, _, (upd_ne nRb.symm).trans hb5⟩, ⟨q2 + 1, by omega, RowsP.app e5 l g5 ho w⟩, rfl⟩
                rw [upd_ne (ne_of_none y hRH)]
                exact K5 _ _ np (K4 _ _ np (K3 _ _ np y))
              · walk_at "rd"
                exact ⟨K3.trans K4, ⟨_, _, hb4⟩, ⟨q2, qm2, RP.kp K4 hb3 nRb⟩, rfl⟩
            · walk_at "rd"
              exact ⟨K3, ⟨_, _, hb3⟩, ⟨q2, qm2, RP⟩, rfl⟩
          · walk_at "rd"
            exact ⟨K3, ⟨_, _, hb3⟩, ⟨q2, qm2, RP⟩, rfl⟩
        · rintro σ H4 ⟨K4, ⟨c4, n4, hb4⟩, ⟨q3, qm3, RP⟩, rfl⟩
          clear K3 hb3 qm2
          walk_at "rd"
          refine ⟨b, c4, z, n4, _, rfl, hb4, by decide, by decide, fun r5 H5 r5l r5u ⟨K5, c5, n5, hb5⟩ => ?_⟩
          replace RP := RP.kp K5 hb4 nRb
          replace K5 := K4.trans K5
          clear K4 hb4
          obtain ⟨ts, e, l, g⟩ := RP
          walk_at "rd"
          refine ⟨b, c5, z, n5, _, rfl, hb5, by rw [List.length_map]; omega, by rw [List.length_map]; exact Int.le_trans (show (ts.length : Int) + 1 ≤ 7 by omega) (by decide), fun tn H6 tnl tnu ⟨K6, c6, n6, hb6⟩ => ?_⟩
          rw [List.length_map] at tnu
          have e6 := K6 _ _ nRb e
          have g6 : ∀ t ∈ ts, ∃ a c, H6 t = some (.tup [.int a, .int c]) ∧ Gr a c := fun t ht => by
            obtain ⟨a, c, y, w⟩ := g t ht
            exact ⟨a, c, K6 _ _ (ne_of y hb5 (by intro w; cases w)) y, w⟩
          replace K6 := K5.trans K6
          clear K5 hb5 e g
          walk_at "rd"
          refine Bar.rSlL_ (SqL.of e6) fun s1 hs1 => ?_
          walk_at "rd"
          refine Bar.rSlL_ (SqL.of (Bar.lkNew hs1 e6)) fun s2 hs2 => ?_
          walk_at "rd"
          obtain ⟨u1, eu1, su1⟩ := cut_map ts (some tn) none
          obtain ⟨u2, eu2, su2⟩ := cut_map ts none (some tn)
          have lu1 : u1.length = ts.length - tn.toNat := by
            rw [← List.length_map (f := V.ref), ← eu1, cut_hi tnl (by rw [List.length_map]; omega), List.length_map]
          have lu2 : u2.length = tn.toNat := by
            rw [← List.length_map (f := V.ref), ← eu2, cut_lo tnl (by rw [List.length_map]; omega)]
          rw [eu1] at hs2
          rw [eu1, eu2]
          refine rCat_ (Bar.lkNew hs2 upd_same) upd_same (Nat.le_trans (show _ ≤ 1000 by rw [List.length_map, List.length_map]; omega) (by decide)) fun s3 hs3 => ?_
          walk_at "rd"
          have keep : ∀ {p : Addr} {o : HO}, H6 p = some o → upd (upd (upd H6 s1 (.lst (u1.map V.ref))) s2 (.lst (u2.map V.ref))) s3 (.lst (u1.map V.ref ++ u2.map V.ref)) p = some o := fun y => Bar.lkNew hs3 (Bar.lkNew hs2 (Bar.lkNew hs1 y))
          have e7 : upd (upd (upd H6 s1 (.lst (u1.map V.ref))) s2 (.lst (u2.map V.ref))) s3 (.lst (u1.map V.ref ++ u2.map V.ref)) s3 = some (.lst ((u1 ++ u2).map V.ref)) := by
            rw [upd_same, List.map_append]
          have s3H : H s3 = none := K6.free hb hb6 (freeNew (freeNew hs3))
          generalize upd (upd (upd H6 s1 (.lst (u1.map V.ref))) s2 (.lst (u2.map V.ref))) s3 (.lst (u1.map V.ref ++ u2.map V.ref)) = H7 at keep e7 ⊢
          have g7 : ∀ t ∈ u1 ++ u2, ∃ a c, H7 t = some (.tup [.int a, .int c]) ∧ Gr a c := fun t ht => by
            obtain ⟨a, c, y, w⟩ := g6 t (by
              rcases List.mem_append.mp ht with ht | ht
              · exact su1 t ht
              · exact su2 t ht)
            exact ⟨a, c, keep y, w⟩
          have l7 : (u1 ++ u2).length = q3 := by
            rw [List.length_append]
            omega
          have K7 : Kp b H H7 := fun p o np y => keep (K6 _ _ np y)
          have hb7 := keep hb6
          have ns3 : s3 ≠ b := fun e => by
            rw [e, hb] at s3H
            cases s3H
          clear keep su1 su2 lu1 lu2 eu1 eu2 e6 g6 K6 hb6 hs3 hs2 hs1
          refine ⟨fun σ H' => Kp b H H' ∧ (∃ c n, H' b = some (box c z n)) ∧ ∃ (R : Addr), H R = none ∧ RowsP H' R q3 Gr ∧ ∃ x4' : Option V, σ = [some (.ref b), some (.int m), some (.ref R), x3, x4', some (.int r5), x6, some (.int tn), none], ?_, ?_⟩
          · walk_at "rd"
            refine ⟨b, c6, z, n6, 2, rfl, hb7, by decide, by decide, fun r8 H8 _ _ ⟨K8, c8, n8, hb8⟩ => ?_⟩
            have e8 := K8 _ _ ns3 e7
            have g8 : ∀ t ∈ u1 ++ u2, ∃ a c, H8 t = some (.tup [.int a, .int c]) ∧ Gr a c := fun t ht => by
              obtain ⟨a, c, y, w⟩ := g7 t ht
              exact ⟨a, c, K8 _ _ (ne_of y hb7 (by intro w; cases w)) y, w⟩
            walk_at "rd"
            refine ite2 (fun h3 => ?_) (fun h3 => ?_)
            · walk_at "rd"
              refine ⟨_, _, rfl, SqL.of e8, fun s4 hs4 => ?_⟩
              walk_at "rd"
              refine ⟨fun p o np y => Bar.lkNew hs4 (K8 _ _ np (K7 _ _ np y)), ⟨_, _, Bar.lkNew hs4 hb8⟩, s4, (K7.trans K8).free hb hb8 hs4, ⟨(u1 ++ u2).reverse, by rw [upd_same, List.map_reverse], by rw [List.length_reverse, l7], fun t ht => ?_⟩, _, rfl⟩
              obtain ⟨a, c, y, w⟩ := g8 t (List.mem_reverse.mp ht)
              exact ⟨a, c, Bar.lkNew hs4 y, w⟩
            · walk_at "rd"
              exact ⟨K7.trans K8, ⟨_, _, hb8⟩, s3, s3H, ⟨u1 ++ u2, e8, l7, g8⟩, _, rfl⟩
          · rintro σ H8 ⟨K8, ⟨c8, n8, hb8⟩, R8, R8H, ⟨ts, e, l, g⟩, x4', rfl⟩
            walk_at "rd"
            refine Bar.lcL (xs := ts.map V.ref) (τ := [some (.ref b), some (.int m), some (.ref R8), x3, x4', some (.int r5), x6, some (.int tn), none]) rfl (SqL.of e) (fun D hD => ⟨fun j H' => Same H8 H' ∧ ∃ us : List Addr, H' D = some (.lst (us.map V.ref)) ∧ us.length = j ∧ ∀ t ∈ us, ∃ a c, H' t = some (.tup [.int a, .int c]) ∧ Gm a c,
              ⟨fun _ _ y => Bar.lkNew hD y, [], upd_same, rfl, fun _ z => nomatch z⟩, fun i H' _ ⟨S, _⟩ => SqL.of (S _ _ e), ?_, ?_⟩)
            · rintro j x H' hx ⟨S, us, hD', lus, gus⟩
              obtain ⟨t, ht, rfl⟩ : ∃ t, t ∈ ts ∧ x = V.ref t := by
                obtain ⟨t, ht, e⟩ := List.mem_map.mp (List.mem_of_getElem? hx)
                exact ⟨t, ht, e.symm⟩
              have jl : j < ts.length := by
                have := (List.getElem?_eq_some_iff.mp hx).1
                rwa [List.length_map] at this
              obtain ⟨oa, ob, ho, w1, w2, w3, w4⟩ := g t ht
              have ho6 := S _ _ ho
              have ap : 0 < oa := by omega
              walk_at "rd"
              refine ⟨rfl, ?_⟩
              walk_at "rd"
              intro t' ht'
              refine ⟨_, Bar.lkNew ht' hD', Bar.szLt (by rw [List.length_map]; omega), fun p o y => ?_, us ++ [t'], by rw [upd_same, List.map_append]; rfl, by rw [List.length_append, lus]; rfl, fun u hu => ?_⟩
              · rw [upd_ne (ne_of_none y hD)]
                exact Bar.lkNew ht' (S _ _ y)
              · have kT : ∀ {t'' : Addr} {xs : List V}, upd H' t' (.tup [.int oa, .int ((ob + r5) % oa)]) t'' = some (.tup xs) → upd (upd H' t' (.tup [.int oa, .int ((ob + r5) % oa)])) D (.lst (us.map V.ref ++ [.ref t'])) t'' = some (.tup xs) := fun y => by
                  rw [upd_ne (ne_of y (Bar.lkNew ht' hD') (by intro w; cases w))]
                  exact y
                rcases List.mem_append.mp hu with hu | hu
                · obtain ⟨a, c, y, w⟩ := gus u hu
                  exact ⟨a, c, kT (Bar.lkNew ht' y), w⟩
                · cases List.mem_singleton.mp hu
                  exact ⟨_, _, kT upd_same, w1, w2, Int.emod_nonneg _ (by omega), Int.emod_lt_of_pos _ ap⟩
            · rintro H9 ⟨S, us, hD', lus, gus⟩
              walk_at "rd"
              rw [List.length_map] at lus
              exact k D us.length H9 (K8.free hb hb8 hD) ⟨fun p o np y => S _ _ (K8 _ _ np y), _, _, S _ _ hb8⟩ (Nat.zero_le _) (by omega) ⟨us, hD', rfl, gus⟩
end

end Lw
namespace Lw
open PySem L2 Bar

/-! ### _law_same -/
def flat : V → Prop
  | .non => True
  | .bl _ => True
  | .int _ => True
  | .str _ => True
  | _ => False
def SameAt (H : Hp) : Nat → V → V → Prop
  | 0, _, _ => False
  | n + 1, v, u => (v = u ∧ flat v) ∨ ∃ (a b : Addr) (xs ys : List V), v = .ref a ∧ u = .ref b ∧ ((H a = some (.lst xs) ∧ H b = some (.lst ys)) ∨ (H a = some (.tup xs) ∧ H b = some (.tup ys))) ∧
    xs.length ≤ 1000 ∧ xs.length = ys.length ∧ ∀ (i : Nat) (x y : V), xs[i]? = some x → ys[i]? = some y → SameAt H n x y
def spSame (n : Nat) : Sp := fun vs H Q _ => ∃ v u, vs = [v, u] ∧ SameAt H n v u ∧ Q (.bl true) H
def spInt : Sp := fun vs H Q _ => ∃ i : Int, vs = [.int i] ∧ Q (.bl true) H
instance {i : Int} {H : Hp} {Q : VK} {E : XK} : Bar.Rd (spInt ([.int i] ++ []) H Q E) (Q (.bl true) H) := ⟨fun h => ⟨i, rfl, h⟩⟩
theorem same_int {n : Nat} {i : Int} {H : Hp} {Q : VK} {E : XK} (h : Q (.bl true) H) : spSame (n + 1) [.int i, .int i] H Q E := ⟨_, _, rfl, .inl ⟨rfl, trivial⟩, h⟩
theorem same_intE {n : Nat} {i j : Int} {H : Hp} {Q : VK} {E : XK} (e : i = j) (h : Q (.bl true) H) : spSame (n + 1) [.int i, .int j] H Q E := by
  subst e
  exact same_int h
theorem same_bl {n : Nat} {i : Bool} {H : Hp} {Q : VK} {E : XK} (h : Q (.bl true) H) : spSame (n + 1) [.bl i, .bl i] H Q E := ⟨_, _, rfl, .inl ⟨rfl, trivial⟩, h⟩
section
variable {P : Program} {w : World} {K : PySem.W.Frag} {mg : Str → Option Value} {base : Heap}
theorem ok_int {f : Addr} {fd : FuncData} (F : Fun K "_law_int" "_law_int" s_law_int f fd) (T : Txt mg) : FnOk P w K mg base CX0 1 f fd P_law_int spInt := by
  refine F.ok sc_law_int (fun vs H Q E h => ?_) (fun cdv A outer s H vs Q E hr h => ?_)
  · obtain ⟨i, rfl, _⟩ := h
    rfl
  · obtain ⟨i, rfl, k⟩ := h
    refine ⟨_, (pss_one (ps_ret (pe_and (pe_callB call_isi rfl T.b_isinstance (by decide +kernel) (pa_cons (pv 0) (pa_cons (pe_bltn (v := .ty "int") (u := .type "int") rfl T.b_int (by decide +kernel) rfl) pa_nil))) (pe_one (pe_not (pe_callB call_isi rfl T.b_isinstance (by decide +kernel) (pa_cons (pv 0) (pa_cons (pe_bltn (v := .ty "bool") (u := .type "bool") rfl T.b_bool (by decide +kernel) rfl) pa_nil)))))))), ?_⟩
    refine Bar.rStart (σ := [some (.int i)]) rfl ?_
    walk_at "rd"
    exact k
theorem fn_same {f : Addr} {fd : FuncData} (F : Fun K "_law_same" "_law_same" s_law_same f fd) (T : Txt mg) (gf : mg "_law_same" = some (.ref f)) (bf : Binds K fd P_law_same [])
    (f_law_int : Fn P w K mg base "_law_int" P_law_int [] 1 spInt) : ∀ n, Fn P w K mg base "_law_same" P_law_same [] (n + 1) (spSame n) := by
  intro n
  induction n with
  | zero =>
    refine ⟨f, fd, [], gf, F.kp, bf, .nil, fn_false ?_⟩
    rintro vs H Q E ⟨v, u, _, h, _⟩
    exact h
  | succ n f_law_same =>
    refine ⟨f, fd, [], gf, F.kp, bf, .nil, F.ok sc_law_same (fun vs H Q E h => ?_) (fun cdv A outer s H vs Q E hr h => ?_)⟩
    · obtain ⟨v, u, rfl, _⟩ := h
      rfl
    · obtain ⟨v, u, rfl, h, k⟩ := h
      have hr1 : Room 1 (A.deeper (PyProof.Rows.envOfC "_law_same" (defScope s_law_same) s.heap.objs.size f cdv)) := hr.mono (by omega)
      have hr2 : Room (n + 1) (A.deeper (PyProof.Rows.envOfC "_law_same" (defScope s_law_same) s.heap.objs.size f cdv)) := hr
      refine ⟨_, (pss_cons (ps_if (pt_cmpR o_isN (pv 1) pe_non (nomark _)) (pss_one (ps_ret (pe_cmpR o_isN (pv 0) pe_non (nomark _)))) pss_nil)
    (pss_cons (ps_if (pt_val (pe_callB call_isi rfl T.b_isinstance (by decide +kernel) (pa_cons (pv 1) (pa_cons (pe_bltn (v := .ty "bool") (u := .type "bool") rfl T.b_bool (by decide +kernel) rfl) pa_nil)))) (pss_one (ps_ret (pe_and (pe_callB call_isi rfl T.b_isinstance (by decide +kernel) (pa_cons (pv 0) (pa_cons (pe_bltn (v := .ty "bool") (u := .type "bool") rfl T.b_bool (by decide +kernel) rfl) pa_nil))) (pe_one (pe_cmpR op_eq (pv 0) (pv 1) (nomark _)))))) pss_nil)
    (pss_cons (ps_if (pt_val (pe_callB call_isi rfl T.b_isinstance (by decide +kernel) (pa_cons (pv 1) (pa_cons (pe_bltn (v := .ty "int") (u := .type "int") rfl T.b_int (by decide +kernel) rfl) pa_nil)))) (pss_one (ps_ret (pe_and (pe_fn f_law_int (hr.mono (by omega)) rfl (pa_cons (pv 0) pa_nil)) (pe_one (pe_cmpR op_eq (pv 0) (pv 1) (nomark _)))))) pss_nil)
    (pss_cons (ps_if (pt_val (pe_callB call_isi rfl T.b_isinstance (by decide +kernel) (pa_cons (pv 1) (pa_cons (pe_bltn (v := .ty "str") (u := .type "str") rfl T.b_str (by decide +kernel) rfl) pa_nil)))) (pss_one (ps_ret (pe_and (pe_callB call_isi rfl T.b_isinstance (by decide +kernel) (pa_cons (pv 0) (pa_cons (pe_bltn (v := .ty "str") (u := .type "str") rfl T.b_str (by decide +kernel) rfl) pa_nil))) (pe_one (pe_cmpR op_eq (pv 0) (pv 1) (nomark _)))))) pss_nil)
    (pss_cons (ps_if (PW.pt (pw_or (pt_cmpR op_ne (pe_callB call_isi rfl T.b_isinstance (by decide +kernel) (pa_cons (pv 1) (pa_cons (pe_bltn (v := .ty "list") (u := .type "list") rfl T.b_list (by decide +kernel) rfl) pa_nil))) (pe_callB call_isi rfl T.b_isinstance (by decide +kernel) (pa_cons (pv 0) (pa_cons (pe_bltn (v := .ty "list") (u := .type "list") rfl T.b_list (by decide +kernel) rfl) pa_nil))) (nomark _)) (pw_or1 (pt_cmpR op_ne (pe_callB call_isi rfl T.b_isinstance (by decide +kernel) (pa_cons (pv 1) (pa_cons (pe_bltn (v := .ty "tuple") (u := .type "tuple") rfl T.b_tuple (by decide +kernel) rfl) pa_nil))) (pe_callB call_isi rfl T.b_isinstance (by decide +kernel) (pa_cons (pv 0) (pa_cons (pe_bltn (v := .ty "tuple") (u := .type "tuple") rfl T.b_tuple (by decide +kernel) rfl) pa_nil))) (nomark _))))) (pss_one (ps_ret pe_bl)) pss_nil)
    (pss_cons (ps_if (pt_cmpR op_ne (pe_callB c_len rfl T.b_len PySem.boot_len (pa_cons (pv 0) pa_nil)) (pe_callB c_len rfl T.b_len PySem.boot_len (pa_cons (pv 1) pa_nil)) (nomark _)) (pss_one (ps_ret pe_bl)) pss_nil)
    (pss_cons (ps_for PassesOwn.never rfl  (pi_range1 rfl T.b_range (pa_cons (pe_callB c_len rfl T.b_len PySem.boot_len (pa_cons (pv 1) pa_nil)) pa_nil)) (pg_name (i := 2) sc_law_same.nd rfl (Or.inl rfl)) (pss_one (ps_if (pt_not (pt_val (pe_fn f_law_same (hr.mono (by omega)) rfl (pa_cons (pe_ix ix_seq (pv 0) (pv 2) (fun _ _ => rfl)) (pa_cons (pe_ix ix_seq (pv 1) (pv 2) (fun _ _ => rfl)) pa_nil))))) (pss_one (ps_ret pe_bl)) pss_nil)))
    (pss_one (ps_ret pe_bl))))))))), ?_⟩
      refine Bar.rStart (σ := [some v, some u, none]) rfl ?_
      rcases h with ⟨rfl, hf⟩ | ⟨a, b, xs, ys, rfl, rfl, hab, hx, hxy, hall⟩
      · cases v with
        | non =>
          walk_at "rd"
          exact k
        | bl z =>
          walk_at "rd"
          rw [beq_self_eq_true]
          exact k
        | int z =>
          walk_at "rd"
          rw [decide_eq_true rfl]
          exact k
        | str z =>
          walk_at "rd"
          exact k
        | byt z => exact hf.elim
        | flt z => exact hf.elim
        | ref z => exact hf.elim
        | ty z => exact hf.elim
      · have hloop : ∀ x : Option V, x = none → True := fun _ _ => trivial
        rcases hab with ⟨ha, hb⟩ | ⟨ha, hb⟩
        · walk_at "rd"
          rw [hxy, decide_eq_true rfl]
          walk_at "rd"
          refine Bar.forR ys.length (by simp) (fun _ σ H' => H' = H ∧ ∃ x, σ = [some (.ref a), some (.ref b), x]) (by omega) ⟨rfl, _, rfl⟩ ?_ ?_
          · rintro i σ H' hi ⟨e, x, rfl⟩
            subst e
            obtain ⟨y, hy⟩ : ∃ y, ys[i]? = some y := ⟨_, List.getElem?_eq_getElem hi⟩
            obtain ⟨x', hx'⟩ : ∃ y, xs[i]? = some y := ⟨_, List.getElem?_eq_getElem (by omega)⟩
            walk_at "rd"
            refine Bar.rIxSL ha (atI_nat hx') ?_
            walk_at "rd"
            refine Bar.rIxSL hb (atI_nat hy) ?_
            walk_at "rd"
            refine ⟨x', y, rfl, hall i _ _ hx' hy, ?_⟩
            walk_at "rd"
            exact ⟨rfl, _, rfl⟩
          · rintro σ H' ⟨rfl, x, rfl⟩
            walk_at "rd"
            exact k
        · walk_at "rd"
          rw [hxy, decide_eq_true rfl]
          walk_at "rd"
          refine Bar.forR ys.length (by simp) (fun _ σ H' => H' = H ∧ ∃ x, σ = [some (.ref a), some (.ref b), x]) (by omega) ⟨rfl, _, rfl⟩ ?_ ?_
          · rintro i σ H' hi ⟨e, x, rfl⟩
            subst e
            obtain ⟨y, hy⟩ : ∃ y, ys[i]? = some y := ⟨_, List.getElem?_eq_getElem hi⟩
            obtain ⟨x', hx'⟩ : ∃ y, xs[i]? = some y := ⟨_, List.getElem?_eq_getElem (by omega)⟩
            walk_at "rd"
            refine Bar.rIxST ha (atI_nat hx') ?_
            walk_at "rd"
            refine Bar.rIxST hb (atI_nat hy) ?_
            walk_at "rd"
            refine ⟨x', y, rfl, hall i _ _ hx' hy, ?_⟩
            walk_at "rd"
            exact ⟨rfl, _, rfl⟩
          · rintro σ H' ⟨rfl, x, rfl⟩
            walk_at "rd"
            exact k
end


/-! ### grids -/
abbrev gf (st o : Int) : List (Str × V) := [("step", .int st), ("offset", .int o)]
def GridAt (C : Addr) (H : Hp) (g : Addr) (st o : Int) : Prop := ∃ dx, H g = some (.ins C dx (gf st o))
structure GTxt (K : PySem.W.Frag) (C : Addr) : Prop where
  cl : Cls K C
  nS : NoAttr K C "step"
  nO : NoAttr K C "offset"
theorem put_step (st : Int) : putF ("step" : Str) (.int st) [] = ([("step", V.int st)] : List (Str × V)) := rfl
theorem put_off (st o : Int) : putF ("offset" : Str) (.int o) ([("step", V.int st)] : List (Str × V)) = gf st o := by
  show (if ("step" : Str) = "offset" then _ else (("step" : Str), V.int st) :: putF "offset" (V.int o) []) = _
  rw [if_neg (show ¬ (("step" : Str) = "offset") by decide +kernel)]
  rfl
theorem gf_step (st o : Int) : (gf st o).lookup ("step" : Str) = some (.int st) := by
  rw [← put_off, lookup_putF, if_neg (show ¬ (("step" : Str) = "offset") by decide +kernel), ← put_step, lookup_putF, if_pos rfl]
theorem gf_off (st o : Int) : (gf st o).lookup ("offset" : Str) = some (.int o) := by
  rw [← put_off, lookup_putF, if_pos rfl]
/-- a new grid -/
def spInit (C : Addr) : Sp := fun vs H Q _ => ∃ (p dx : Addr) (st o : Int), vs = [.ref p, .int st, .int o] ∧ H p = some (.ins C dx []) ∧ 1 ≤ st ∧ ∀ H', Kp p H H' → H' p = some (.ins C dx (gf st (o % st))) → Q .non H'
def spIn (C : Addr) : Sp := fun vs H Q _ => ∃ (g : Addr) (st o x : Int), vs = [.ref g, .int x] ∧ GridAt C H g st o ∧ 1 ≤ st ∧ Q (.bl (decide (x % st = o))) H
section
variable {P : Program} {w : World} {K : PySem.W.Frag} {mg : Str → Option Value} {base : Heap} {C : Addr}
theorem mkG {H : Hp} {R : Addr → Hp → Prop} {E : XK} {st o : Int} (s1 : 1 ≤ st) (h : ∀ x H2, H x = none → Same H H2 → GridAt C H2 x st (o % st) → R x H2) :
    ∀ x dx, H x = none → H dx = none → dx ≠ x → spInit C [.ref x, .int st, .int o] (upd (upd H dx (.own x)) x (.ins C dx [])) (fun v H2 => v = .non ∧ R x H2) E := by
  intro x dx hx hdx ne
  refine ⟨x, dx, st, o, rfl, upd_same, s1, fun H' k hp => ⟨rfl, h x H' hx (fun b u e => ?_) ⟨dx, hp⟩⟩⟩
  have nb : b ≠ x := ne_of_none e hx
  refine k b u nb ?_
  rw [upd_ne nb]
  exact Bar.lkNew hdx e
theorem GridAt.same {H H' : Hp} {g : Addr} {st o : Int} (k : Same H H') (h : GridAt C H g st o) : GridAt C H' g st o := by
  obtain ⟨dx, h⟩ := h
  exact ⟨dx, k _ _ h⟩
theorem GridAt.kp {b : Addr} {xs : List V} {H H' : Hp} {g : Addr} {st o : Int} (k : Kp b H H') (hb : H b = some (.lst xs)) (h : GridAt C H g st o) : GridAt C H' g st o := by
  obtain ⟨dx, h⟩ := h
  exact ⟨dx, k _ _ (ne_of h hb (by intro z; cases z)) h⟩
theorem GridAt.kp2 {b l : Addr} {xs : List V} {H H' : Hp} {g : Addr} {st o : Int} (k : Kp2 b l H H') (hb : H b = some (.lst xs)) (hl : H l = none) (h : GridAt C H g st o) : GridAt C H' g st o := by
  obtain ⟨dx, h⟩ := h
  exact ⟨dx, k _ _ (ne_of h hb (by intro z; cases z)) (ne_of_none h hl) h⟩
theorem rIn_ {H : Hp} {g : Addr} {st o x : Int} {R : Bool → Prop} (h : GridAt C H g st o) (s1 : 1 ≤ st) (r : R (decide (x % st = o))) {Q : VK} (e : ∀ b, R b → Q (.bl b) H) : rOwnIn C (spIn C) (.int x) (.ref g) H Q := by
  obtain ⟨dx, hg⟩ := h
  exact ⟨g, dx, _, rfl, hg, g, st, o, x, rfl, ⟨dx, hg⟩, s1, _, rfl, e _ r⟩
theorem rInG {H : Hp} {g : Addr} {st o x : Int} {Q : VK} (h : GridAt C H g st o) (s1 : 1 ≤ st) (r : Q (.bl (decide (x % st = o))) H) : rOwnIn C (spIn C) (.int x) (.ref g) H Q := by
  obtain ⟨dx, hg⟩ := h
  exact ⟨g, dx, _, rfl, hg, g, st, o, x, rfl, ⟨dx, hg⟩, s1, _, rfl, r⟩
theorem in_iff (u b a : Int) : decide (u % a = b % a) = decide ((u - b) % a = 0) := decide_eq_decide.mpr Int.emod_eq_emod_iff_emod_sub_eq_zero
theorem in_ne (u b a : Int) : (!(decide (u % a = b % a) == decide ((u - b) % a = 0))) = false := by
  rw [in_iff]
  simp
theorem GridAt.new {H : Hp} {g p : Addr} {u : HO} {st o : Int} (hp : H p = none) (h : GridAt C H g st o) : GridAt C (upd H p u) g st o := by
  obtain ⟨dx, h⟩ := h
  exact ⟨dx, Bar.lkNew hp h⟩
theorem ok_init {f : Addr} {fd : FuncData} {dvs : List V} (F : FunD K "__init__" "Grid.__init__" (defArgs s_Grid___init__) (defBody s_Grid___init__) (defScope s_Grid___init__) dvs [] f fd) (G : GTxt K C) : FnOk P w K mg base CX0 1 f fd P_Grid___init__ (spInit C) := by
  refine F.ok sc_Grid___init__ (fun vs H Q E h => ?_) (fun cdv A outer s H vs Q E hr h => ?_)
  · obtain ⟨p, dx, st, o, rfl, _⟩ := h
    rfl
  · obtain ⟨p, dx, st, o, rfl, hp, s1, k⟩ := h
    refine ⟨_, PSs.nox (pss_cons (ps_if (pt_cmpR op_lt (pv 1) pe_int (nomark _)) (pss_one ps_never) pss_nil)
    (pss_cons (ps_fld (pv 0) (pv 1) rfl)
    (pss_one (ps_fld (pv 0) (pe_op op_mod (pv 2) (pv 1)) rfl)))), ?_⟩
    refine Bar.rStart (σ := [some (.ref p), some (.int st), some (.int o)]) rfl ?_
    walk_at "rd"
    refine ite2 (fun h => absurd (of_decide_eq_true h) (by omega)) (fun h => ?_)
    walk_at "rd"
    refine ⟨p, C, dx, _, rfl, hp, G.cl, G.nS, (by show 0 < 1000; decide), ?_⟩
    rw [put_step]
    walk_at "rd"
    refine ⟨p, C, dx, _, rfl, upd_same, G.cl, G.nO, (by show 1 < 1000; decide), ?_⟩
    rw [put_off]
    walk_at "rd"
    refine k _ (fun a o' n e => ?_) upd_same
    rw [upd_ne n, upd_ne n]
    exact e
theorem ok_in {f : Addr} {fd : FuncData} (F : Fun K "__contains__" "Grid.__contains__" s_Grid___contains__ f fd) (G : GTxt K C) : FnOk P w K mg base CX0 1 f fd P_Grid___contains__ (spIn C) := by
  refine F.ok sc_Grid___contains__ (fun vs H Q E h => ?_) (fun cdv A outer s H vs Q E hr h => ?_)
  · obtain ⟨g, st, o, x, rfl, _⟩ := h
    rfl
  · obtain ⟨g, st, o, x, rfl, ⟨dx, hg⟩, s1, k⟩ := h
    refine ⟨_, (pss_one (ps_ret (pe_cmpR op_eq (pe_op op_mod (pv 1) (pe_fld (pv 0) rfl)) (pe_fld (pv 0) rfl) (nomark _)))), ?_⟩
    refine Bar.rStart (σ := [some (.ref g), some (.int x)]) rfl ?_
    walk_at "rd"
    refine Bar.rFldV hg G.cl G.nS (gf_step _ _) ?_
    walk_at "rd"
    refine Bar.rFldV hg G.cl G.nO (gf_off _ _) ?_
    walk_at "rd"
    exact k
end


/-! ### k progressions that hold 2 ^ k integers in a row hold them all -/
section
/-- values at n, seen at y: y gives a shift for each progression -/
abbrev Fy := Int → (Nat → Int) → Int
def mv (e y : Nat → Int) : Nat → Int := fun i => y i - e i
/-- g keeps a recurrence with these shifts -/
def Rec : List (Nat → Int) → Fy → Prop
  | [], g => ∀ n y, g n y = 0
  | u :: l, g => Rec l (fun n y => g (n + 1) y - g n (mv u y))
theorem Rec.zero : ∀ (l : List (Nat → Int)), Rec l (fun _ _ => 0)
  | [] => fun _ _ => rfl
  | u :: l => by
    show Rec l (fun _ _ => (0 : Int) - 0)
    exact Rec.zero l
theorem Rec.congr : ∀ {l : List (Nat → Int)} {g h : Fy}, (∀ n y, g n y = h n y) → Rec l g → Rec l h
  | [], g, h, e, r => fun n y => (e n y).symm.trans (r n y)
  | u :: l, g, h, e, r => Rec.congr (l := l) (fun n y => by rw [e, e]) r
theorem Rec.sub : ∀ {l : List (Nat → Int)} {g h : Fy}, Rec l g → Rec l h → Rec l (fun n y => g n y - h n y)
  | [], g, h, a, b => fun n y => by
    show g n y - h n y = 0
    rw [a n y, b n y]
    rfl
  | u :: l, g, h, a, b => Rec.congr (l := l) (fun n y => by
    show (g (n + 1) y - g n (mv u y)) - (h (n + 1) y - h n (mv u y)) = (g (n + 1) y - h (n + 1) y) - (g n (mv u y) - h n (mv u y))
    omega) (Rec.sub (l := l) a b)
/-- a recurrence kept is kept with more shifts -/
theorem Rec.more : ∀ {l : List (Nat → Int)} (m : List (Nat → Int)) {g : Fy}, Rec l g → Rec (l ++ m) g
  | [], m, g, a => Rec.congr (fun n y => (a n y).symm) (Rec.zero m)
  | u :: l, m, g, a => Rec.more (l := l) m a
theorem Rec.next : ∀ (l : List (Nat → Int)) {g : Fy}, Rec l g → Rec l (fun n y => g (n + 1) y)
  | [], g, a => fun n y => a (n + 1) y
  | v :: l, g, a => Rec.next l (g := fun n y => g (n + 1) y - g n (mv v y)) a
theorem Rec.past (u : Nat → Int) : ∀ (l : List (Nat → Int)) {g : Fy}, Rec l g → Rec l (fun n y => g n (mv u y))
  | [], g, a => fun n y => a n (mv u y)
  | v :: l, g, a => by
    refine Rec.congr (l := l) (fun n y => ?_) (Rec.past u l (g := fun n y => g (n + 1) y - g n (mv v y)) a)
    have e : mv v (mv u y) = mv u (mv v y) := by
      funext i
      show y i - u i - v i = y i - v i - u i
      omega
    show g (n + 1) (mv u y) - g n (mv v (mv u y)) = g (n + 1) (mv u y) - g n (mv u (mv v y))
    rw [e]
theorem Rec.more' : ∀ (m : List (Nat → Int)) {l : List (Nat → Int)} {g : Fy}, Rec l g → Rec (m ++ l) g
  | [], l, g, a => a
  | u :: m, l, g, a => by
    show Rec (m ++ l) (fun n y => g (n + 1) y - g n (mv u y))
    exact Rec.more' m (l := l) ((Rec.next l a).sub (Rec.past u l a))
/-- the values shifted, along with n: the shifts all move by e -/
theorem Rec.turn (e : Nat → Int) : ∀ {l : List (Nat → Int)} {g : Fy}, Rec l g → ∀ c : Int, Rec (l.map fun u => fun i => u i + e i) (fun n y => g n (fun i => y i - (n + c) * e i))
  | [], g, a, c => fun n y => a n _
  | u :: l, g, a, c => by
    refine Rec.congr (l := l.map fun u => fun i => u i + e i) (fun n y => ?_) (Rec.turn e (l := l) a (c + 1))
    show g (n + 1) (fun i => y i - (n + (c + 1)) * e i) - g n (mv u (fun i => y i - (n + (c + 1)) * e i)) = g (n + 1) (fun i => y i - (n + 1 + c) * e i) - g n (fun i => (mv (fun i => u i + e i) y) i - (n + c) * e i)
    have e1 : (fun i => y i - (n + (c + 1)) * e i) = fun i => y i - (n + 1 + c) * e i := by
      funext i
      rw [show n + (c + 1) = n + 1 + c by omega]
    have e2 : mv u (fun i => y i - (n + (c + 1)) * e i) = fun i => (mv (fun i => u i + e i) y) i - (n + c) * e i := by
      funext i
      show y i - (n + (c + 1)) * e i - u i = y i - (u i + e i) - (n + c) * e i
      grind
    rw [e2, e1]
/-- zero at as many integers in a row as there are shifts: zero at all -/
theorem Rec.all : ∀ {l : List (Nat → Int)} {g : Fy}, Rec l g → ∀ a : Int, (∀ i : Nat, i < l.length → ∀ y, g (a + i) y = 0) → ∀ n y, g n y = 0
  | [], g, r, a, h, n, y => r n y
  | u :: l, g, r, a, h, n, y => by
    have z := Rec.all (l := l) r a (fun i hi y => by
      have h1 := h (i + 1) (by show i + 1 < l.length + 1; omega) y
      have h2 := h i (by show i < l.length + 1; omega) (mv u y)
      show g (a + i + 1) y - g (a + i) (mv u y) = 0
      rw [show a + (i : Int) + 1 = a + ((i + 1 : Nat) : Int) by omega, h1, h2]
      rfl)
    have st : ∀ n y, g (n + 1) y = g n (mv u y) := fun n y => by
      have := z n y
      omega
    have h0 : ∀ y, g a y = 0 := fun y => by
      have := h 0 (by show 0 < l.length + 1; omega) y
      rwa [show a + ((0 : Nat) : Int) = a by omega] at this
    have up : ∀ (k : Nat) y, g (a + k) y = 0 := by
      intro k
      induction k with
      | zero => intro y; rw [show a + ((0 : Nat) : Int) = a by omega]; exact h0 y
      | succ k ih =>
        intro y
        rw [show a + ((k + 1 : Nat) : Int) = a + k + 1 by omega, st]
        exact ih _
    have dn : ∀ (k : Nat) y, g (a - k) y = 0 := by
      intro k
      induction k with
      | zero => intro y; rw [show a - ((0 : Nat) : Int) = a by omega]; exact h0 y
      | succ k ih =>
        intro y
        have e := st (a - ((k + 1 : Nat) : Int)) (fun i => y i + u i)
        have e2 : mv u (fun i => y i + u i) = y := by
          funext i
          show y i + u i - u i = y i
          omega
        rw [e2, show a - ((k + 1 : Nat) : Int) + 1 = a - k by omega] at e
        rw [← e]
        exact ih _
    by_cases hn : a ≤ n
    · have := up (n - a).toNat y
      rwa [show a + ((n - a).toNat : Int) = n by omega] at this
    · have := dn (a - n).toNat y
      rwa [show a - ((a - n).toNat : Int) = n by omega] at this
/-- 1 where the shift of each progression is none, less where it is n's; the progressions stand from k on -/
def pf : List (Int × Int) → Nat → Fy
  | [], _ => fun _ _ => 1
  | (s, o) :: l, k => fun n y => ((if y k % s = 0 then 1 else 0) - (if (y k - (n - o)) % s = 0 then 1 else 0)) * pf l (k + 1) n y
def sh : List (Int × Int) → Nat → List (Nat → Int)
  | [], _ => [fun _ => 0]
  | _ :: l, k => sh l (k + 1) ++ (sh l (k + 1)).map fun u => fun i => u i + (if i = k then 1 else 0)
theorem sh_length : ∀ (l : List (Int × Int)) (k : Nat), (sh l k).length = 2 ^ l.length
  | [], k => rfl
  | p :: l, k => by
    show (sh l (k + 1) ++ (sh l (k + 1)).map _).length = 2 ^ (l.length + 1)
    rw [List.length_append, List.length_map, sh_length l (k + 1), Nat.pow_succ]
    omega
/-- an earlier shift changes nothing -/
theorem pf_away : ∀ (l : List (Int × Int)) (k j : Nat) (d : Int) (n : Int) (y : Nat → Int), j < k → pf l k n (fun i => y i - d * (if i = j then 1 else 0)) = pf l k n y
  | [], _, _, _, _, _, _ => rfl
  | (s, o) :: l, k, j, d, n, y, h => by
    show (_ - _) * pf l (k + 1) n _ = (_ - _) * pf l (k + 1) n y
    rw [pf_away l (k + 1) j d n y (by omega)]
    have e : y k - d * (if k = j then 1 else 0) = y k := by
      rw [if_neg (show ¬ k = j by omega)]
      omega
    show ((if (y k - d * (if k = j then 1 else 0)) % s = 0 then 1 else 0) - (if ((y k - d * (if k = j then 1 else 0)) - (n - o)) % s = 0 then 1 else 0)) * _ = _
    rw [e]
/-- a factor that the shifts don't touch -/
theorem Rec.times (c : (Nat → Int) → Int) : ∀ {l : List (Nat → Int)} {g : Fy}, (∀ u ∈ l, ∀ y, c (mv u y) = c y) → Rec l g → Rec l (fun n y => c y * g n y)
  | [], g, hc, r => fun n y => by
    show c y * g n y = 0
    rw [r n y, Int.mul_zero]
  | u :: l, g, hc, r => by
    refine Rec.congr (l := l) (fun n y => ?_) (Rec.times c (l := l) (fun v hv => hc v (List.mem_cons_of_mem _ hv)) r)
    show c y * (g (n + 1) y - g n (mv u y)) = c y * g (n + 1) y - c (mv u y) * g n (mv u y)
    rw [hc u (List.mem_cons_self ..) y, Int.mul_sub]
theorem sh_zero : ∀ (l : List (Int × Int)) (k j : Nat), j < k → ∀ u ∈ sh l k, u j = 0
  | [], k, j, h, u, hu => by
    cases List.mem_singleton.mp hu
    rfl
  | p :: l, k, j, h, u, hu => by
    rcases List.mem_append.mp hu with hu | hu
    · exact sh_zero l (k + 1) j (by omega) u hu
    · obtain ⟨v, hv, rfl⟩ := List.mem_map.mp hu
      show v j + (if j = k then 1 else 0) = 0
      rw [sh_zero l (k + 1) j (by omega) v hv, if_neg (by omega)]
      rfl
theorem pf_rec : ∀ (l : List (Int × Int)) (k : Nat), Rec (sh l k) (pf l k)
  | [], k => fun n y => by
    show (1 : Int) - 1 = 0
    rfl
  | (s, o) :: l, k => by
    have r := pf_rec l (k + 1)
    have z := sh_zero l (k + 1) k (by omega)
    have r1 : Rec (sh l (k + 1)) (fun n y => (if y k % s = 0 then 1 else 0) * pf l (k + 1) n y) := r.times (fun y => if y k % s = 0 then 1 else 0) fun u hu y => by
      show (if (y k - u k) % s = 0 then (1 : Int) else 0) = _
      rw [z u hu, Int.sub_zero]
    have r2 := r1.turn (fun i => if i = k then 1 else 0) (-o)
    have r3 : Rec ((sh l (k + 1)).map fun u => fun i => u i + (if i = k then 1 else 0)) (fun n y => (if (y k - (n - o)) % s = 0 then 1 else 0) * pf l (k + 1) n y) := by
      refine Rec.congr (fun n y => ?_) r2
      rw [pf_away l (k + 1) k (n + -o) n y (by omega)]
      have e : y k - (n + -o) * (if k = k then 1 else 0) = y k - (n - o) := by
        rw [if_pos rfl]
        omega
      show (if (y k - (n + -o) * (if k = k then 1 else 0)) % s = 0 then (1 : Int) else 0) * _ = _
      rw [e]
    exact Rec.congr (fun n y => by
      show _ - _ = (_ - _) * pf l (k + 1) n y
      rw [Int.sub_mul]) ((r1.more _).sub (r3.more' _))
/-- some progression holds x -/
def hits (ps : List (Int × Int)) (x : Int) : Bool := ps.any fun p => (x - p.2) % p.1 == 0
theorem pf_hit : ∀ (l : List (Int × Int)) (k : Nat) (n : Int), hits l n = true → ∀ y, pf l k n y = 0
  | [], _, _, h, _ => by cases h
  | (s, o) :: l, k, n, h, y => by
    show (_ - _) * pf l (k + 1) n y = 0
    by_cases e : (n - o) % s = 0
    · have e2 : (y k - (n - o)) % s = 0 ↔ y k % s = 0 := by
        have d := Int.dvd_of_emod_eq_zero e
        constructor
        · intro z
          have := Int.dvd_add (Int.dvd_of_emod_eq_zero z) d
          rw [Int.sub_add_cancel] at this
          exact Int.emod_eq_zero_of_dvd this
        · intro z
          exact Int.emod_eq_zero_of_dvd (Int.dvd_sub (Int.dvd_of_emod_eq_zero z) d)
      by_cases e3 : y k % s = 0
      · rw [if_pos e3, if_pos (e2.mpr e3)]
        omega
      · rw [if_neg e3, if_neg (fun z => e3 (e2.mp z))]
        omega
    · have h2 : hits l n = true := by
        unfold hits at h ⊢
        rw [List.any_cons] at h
        rcases Bool.or_eq_true_iff.mp h with h | h
        · exact absurd (beq_iff_eq.mp h) e
        · exact h
      rw [pf_hit l (k + 1) n h2 y, Int.mul_zero]
theorem pf_miss : ∀ (l : List (Int × Int)) (k : Nat) (n : Int), hits l n = false → pf l k n (fun _ => 0) = 1
  | [], _, _, _ => rfl
  | (s, o) :: l, k, n, h => by
    unfold hits at h
    rw [List.any_cons] at h
    obtain ⟨h1, h2⟩ := Bool.or_eq_false_iff.mp h
    show ((if (0 : Int) % s = 0 then 1 else 0) - (if ((0 : Int) - (n - o)) % s = 0 then 1 else 0)) * pf l (k + 1) n (fun _ => 0) = 1
    have e : ¬ ((0 : Int) - (n - o)) % s = 0 := fun z => by
      have d := Int.dvd_of_emod_eq_zero z
      rw [Int.zero_sub] at d
      have := Int.emod_eq_zero_of_dvd (Int.dvd_neg.mp d)
      rw [this] at h1
      cases h1
    rw [if_pos (Int.zero_emod s), if_neg e, pf_miss l (k + 1) n h2]
    rfl
/-- the fact of the document -/
theorem hits_all {ps : List (Int × Int)} {a : Int} (h : ∀ i : Nat, i < 2 ^ ps.length → hits ps (a + i) = true) (x : Int) : hits ps x = true := by
  cases q : hits ps x with
  | true => rfl
  | false =>
    have z := (pf_rec ps 0).all a (fun i hi y => pf_hit ps 0 _ (h i (by rwa [sh_length] at hi)) y) x (fun _ => 0)
    rw [pf_miss ps 0 x q] at z
    cases z
end

/-! ### lists of pairs and of grids -/
/-- at R the list of the pairs at ts -/
def RowsAt (H : Hp) (R : Addr) (ts : List Addr) (pr : Addr → Int × Int) : Prop := H R = some (.lst (ts.map V.ref)) ∧ ∀ t ∈ ts, H t = some (.tup [.int (pr t).1, .int (pr t).2]) ∧ Gm (pr t).1 (pr t).2
theorem RowsP.at {H : Hp} {R : Addr} {n : Nat} (h : RowsP H R n Gm) : ∃ ts pr, RowsAt H R ts pr ∧ ts.length = n := by
  obtain ⟨ts, e, l, g⟩ := h
  have q : ∀ t, ∃ p : Int × Int, t ∈ ts → H t = some (.tup [.int p.1, .int p.2]) ∧ Gm p.1 p.2 := fun t => by
    by_cases ht : t ∈ ts
    · obtain ⟨a, b, z, w⟩ := g t ht
      exact ⟨(a, b), fun _ => ⟨z, w⟩⟩
    · exact ⟨(0, 0), fun z => absurd z ht⟩
  exact ⟨ts, fun t => Classical.choose (q t), ⟨e, fun t ht => Classical.choose_spec (q t) ht⟩, l⟩
theorem RowsAt.same {H H' : Hp} {R : Addr} {ts : List Addr} {pr : Addr → Int × Int} (S : Same H H') (h : RowsAt H R ts pr) : RowsAt H' R ts pr := ⟨S _ _ h.1, fun t ht => ⟨S _ _ (h.2 t ht).1, (h.2 t ht).2⟩⟩
def GridsAt (C : Addr) (H : Hp) (L : Addr) (gs : List Addr) (ps : List (Int × Int)) : Prop := H L = some (.lst (gs.map V.ref)) ∧ gs.length = ps.length ∧ ∀ (i : Nat) g, gs[i]? = some g → ∃ p, ps[i]? = some p ∧ GridAt C H g p.1 p.2 ∧ 1 ≤ p.1 ∧ 0 ≤ p.2 ∧ p.2 < p.1
theorem GridsAt.same {C : Addr} {H H' : Hp} {L : Addr} {gs : List Addr} {ps : List (Int × Int)} (S : Same H H') (h : GridsAt C H L gs ps) : GridsAt C H' L gs ps := ⟨S _ _ h.1, h.2.1, fun i g e => by
  obtain ⟨p, e2, G, w⟩ := h.2.2 i g e
  exact ⟨p, e2, G.same S, w⟩⟩
theorem GridsAt.kp {C b : Addr} {xs : List V} {H H' : Hp} {L : Addr} {gs : List Addr} {ps : List (Int × Int)} (k : Kp b H H') (hb : H b = some (.lst xs)) (n : L ≠ b) (h : GridsAt C H L gs ps) : GridsAt C H' L gs ps := ⟨k _ _ n h.1, h.2.1, fun i g e => by
  obtain ⟨p, e2, G, w⟩ := h.2.2 i g e
  exact ⟨p, e2, G.kp k hb, w⟩⟩
theorem RowsAt.kp {b : Addr} {xs : List V} {H H' : Hp} {R : Addr} {ts : List Addr} {pr : Addr → Int × Int} (k : Kp b H H') (hb : H b = some (.lst xs)) (n : R ≠ b) (h : RowsAt H R ts pr) : RowsAt H' R ts pr := ⟨k _ _ n h.1, fun t ht => ⟨k _ _ (ne_of (h.2 t ht).1 hb (by intro z; cases z)) (h.2 t ht).1, (h.2 t ht).2⟩⟩
theorem GridsAt.wide {C : Addr} {H : Hp} {L : Addr} {gs : List Addr} {ps : List (Int × Int)} (h : GridsAt C H L gs ps) : ∀ p ∈ ps, 0 ≤ p.2 ∧ p.2 < p.1 := fun p hp => by
  obtain ⟨i, hi, e⟩ := List.getElem_of_mem hp
  have hg : i < gs.length := by rw [h.2.1]; exact hi
  obtain ⟨p', e2, _, _, w⟩ := h.2.2 i gs[i] (List.getElem?_eq_getElem hg)
  rw [List.getElem?_eq_getElem hi, e] at e2
  cases e2
  exact w
theorem hits_app {ps qs : List (Int × Int)} {x : Int} : hits (ps ++ qs) x = (hits ps x || hits qs x) := List.any_append
theorem hits_mem {ts : List Addr} {pr : Addr → Int × Int} {t : Addr} {x : Int} (ht : t ∈ ts) (h : (x - (pr t).2) % (pr t).1 = 0) : hits (ts.map pr) x = true := List.any_eq_true.mpr ⟨_, List.mem_map_of_mem ht, beq_iff_eq.mpr h⟩
theorem hits_next {ts : List Addr} {pr : Addr → Int × Int} {t : Addr} {x : Int} {i : Nat} (e : ts[i]? = some t) (h : hits ((ts.take i).map pr) x = false) (n : ¬ (x - (pr t).2) % (pr t).1 = 0) : hits ((ts.take (i + 1)).map pr) x = false := by
  rw [List.take_add_one, e, List.map_append, hits_app, h]
  show (((x - (pr t).2) % (pr t).1 == 0) || false) = false
  rw [Bool.or_false]
  exact beq_eq_false_iff_ne.mpr n
theorem hits_in {x : Int} : ∀ ps : List (Int × Int), (∀ p ∈ ps, 0 ≤ p.2 ∧ p.2 < p.1) → (ps.map fun p => decide (x % p.1 = p.2)).any id = hits ps x
  | [], _ => rfl
  | p :: ps, h => by
    show (decide (x % p.1 = p.2) || (ps.map fun p => decide (x % p.1 = p.2)).any id) = ((x - p.2) % p.1 == 0 || hits ps x)
    rw [hits_in ps fun q hq => h q (List.mem_cons_of_mem _ hq)]
    obtain ⟨h0, h1⟩ := h p (List.mem_cons_self ..)
    have e := in_iff x p.2 p.1
    rw [Int.emod_eq_of_lt h0 h1] at e
    rw [e]
    rfl
theorem pow_nat (n : Nat) : ((2 : Int) ^ n).toNat = 2 ^ n := by
  have e : (2 : Int) ^ n = ((2 ^ n : Nat) : Int) := by
    rw [Int.natCast_pow]
    rfl
  rw [e, Int.toNat_natCast]
theorem pow_six {n : Nat} (h : n ≤ 6) : 2 ^ n ≤ 64 := Nat.le_trans (Nat.pow_le_pow_right (by decide) h) (by decide)
def spOn (K : PySem.W.Frag) : Sp := fun vs H Q _ => ∃ (t : Addr) (a b x : Int), vs = [.ref t, .int x] ∧ SqT K H t [.int a, .int b] ∧ 1 ≤ a ∧ Q (.bl (decide ((x - b) % a = 0))) H
def spHit : Sp := fun vs H Q _ => ∃ (R : Addr) (ts : List Addr) (pr : Addr → Int × Int) (x : Int), vs = [.ref R, .int x] ∧ RowsAt H R ts pr ∧ Q (.bl (hits (ts.map pr) x)) H
def spMade (C : Addr) : Sp := fun vs H Q _ => ∃ (R : Addr) (ts : List Addr) (pr : Addr → Int × Int), vs = [.ref R] ∧ RowsAt H R ts pr ∧ ts.length ≤ 6 ∧ ∀ L gs H', H L = none → Same H H' → GridsAt C H' L gs (ts.map pr) → Q (.ref L) H'
section
variable {P : Program} {w : World} {K : PySem.W.Frag} {mg : Str → Option Value} {base : Heap} {C : Addr}
theorem ok_on {f : Addr} {fd : FuncData} (F : Fun K "_law_in" "_law_in" s_law_in f fd) (T : Txt mg) : FnOk P w K mg base CX0 1 f fd P_law_in (spOn K) := by
  refine F.ok sc_law_in (fun vs H Q E h => ?_) (fun cdv A outer s H vs Q E hr h => ?_)
  · obtain ⟨t, a, b, x, rfl, _⟩ := h
    rfl
  · obtain ⟨t, a, b, x, rfl, ht, a1, k⟩ := h
    refine ⟨_, (pss_one (ps_ret (pe_cmpR op_eq (pe_op op_mod (pe_callTy c_int rfl T.b_int (by decide +kernel) (pa_cons (pe_op op_sub (pv 1) (pe_ix ix_tup (pv 0) pe_int (fun _ _ => rfl))) pa_nil)) (pe_ix ix_tup (pv 0) pe_int (fun _ _ => rfl))) pe_int (nomark _)))), ?_⟩
    refine Bar.rStart (σ := [some (.ref t), some (.int x)]) rfl ?_
    walk_at "rd"
    exact k
theorem ok_hit {f : Addr} {fd : FuncData} (F : Fun K "_law_hit" "_law_hit" s_law_hit f fd) (T : Txt mg) (f_law_in : Fn P w K mg base "_law_in" P_law_in [] 1 (spOn K)) : FnOk P w K mg base CX0 2 f fd P_law_hit spHit := by
  refine F.ok sc_law_hit (fun vs H Q E h => ?_) (fun cdv A outer s H vs Q E hr h => ?_)
  · obtain ⟨R, ts, pr, x, rfl, _⟩ := h
    rfl
  · obtain ⟨R, ts, pr, x, rfl, RA, k⟩ := h
    have hR := RA.1
    refine ⟨_, (pss_cons (ps_for PassesOwn.never rfl  (pi_list (pv 0)) (pg_name (i := 2) sc_law_hit.nd rfl (Or.inl rfl)) (pss_one (ps_if (pt_val (pe_fn f_law_in (hr.mono (by omega)) rfl (pa_cons (pv 2) (pa_cons (pv 1) pa_nil)))) (pss_one (ps_ret pe_bl)) pss_nil)))
    (pss_one (ps_ret pe_bl))), ?_⟩
    refine Bar.rStart (σ := [some (.ref R), some (.int x), none]) rfl ?_
    walk_at "rd"
    refine Bar.forL (xs := ts.map V.ref) (fun i σ H' => H' = H ∧ (∃ y : Option V, σ = [some (.ref R), some (.int x), y]) ∧ hits ((ts.take i).map pr) x = false) (SqL.of hR) ⟨rfl, ⟨_, rfl⟩, rfl⟩ (fun i σ H2 _ ⟨e, _⟩ => by rw [e]; exact SqL.of hR) ?_ ?_
    · rintro i v σ H' hv ⟨rfl, ⟨y, rfl⟩, hn⟩
      rw [List.getElem?_map] at hv
      obtain ⟨t, et, rfl⟩ := Option.map_eq_some_iff.mp hv
      obtain ⟨ht, g1, g2, g3, g4⟩ := RA.2 t (List.mem_of_getElem? et)
      walk_at "rd"
      refine ⟨t, _, _, x, rfl, SqT.of ht, g1, ?_⟩
      walk_at "rd"
      refine ite2 (fun h => ?_) (fun h => ?_)
      · walk_at "rd"
        rw [hits_mem (List.mem_of_getElem? et) (of_decide_eq_true h)] at k
        exact k
      · walk_at "rd"
        exact ⟨rfl, ⟨_, rfl⟩, hits_next et hn fun z => h (decide_eq_true z)⟩
    · rintro σ H' ⟨rfl, ⟨y, rfl⟩, hn⟩
      rw [List.length_map, List.take_length] at hn
      rw [hn] at k
      walk_at "rd"
      exact k
theorem ok_made {f : Addr} {fd : FuncData} (F : Fun K "_law_made" "_law_made" s_law_made f fd) (T : Txt mg) (mk_Grid2 : Made P w K mg base "Grid" C P_Grid___init__ [] 1 (spInit C)) : FnOk P w K mg base CX0 3 f fd P_law_made (spMade C) := by
  refine F.ok sc_law_made (fun vs H Q E h => ?_) (fun cdv A outer s H vs Q E hr h => ?_)
  · obtain ⟨R, ts, pr, rfl, _⟩ := h
    rfl
  · obtain ⟨R, ts, pr, rfl, RA, l6, k⟩ := h
    have hR := RA.1
    refine ⟨_, (pss_one (ps_ret (pe_lc (own := [("_law_row", 1)]) (g := gName 1) rfl sc_law_made.nd (pi_list (pv 0)) (blkOk_by (own := [("_law_row", 1)]) (N := N_law_made) (sc := defScope s_law_made) (by decide +kernel)) (fun _ _ _ _ _ => pg_name (i := 1) sc_law_made.nd rfl (Or.inl rfl)) (fun _ _ _ _ _ => pts_nil) (fun _ _ _ _ _ => (pe_mk mk_Grid2 (hr.mono (by omega)) rfl (pa_cons (pe_ix (r := rIxT K) ix_tup (pv 1) pe_int (fun _ _ => rfl)) (pa_cons (pe_ix (r := rIxT K) ix_tup (pv 1) pe_int (fun _ _ => rfl)) pa_nil))))))), ?_⟩
    refine Bar.rStart (σ := [some (.ref R), none]) rfl ?_
    walk_at "rd"
    refine Bar.lcL (xs := ts.map V.ref) (τ := [some (.ref R), none]) rfl (SqL.of hR) (fun D hD => ⟨fun i H' => Same H H' ∧ ∃ gs : List Addr, H' D = some (.lst (gs.map V.ref)) ∧ gs.length = i ∧ ∀ (j : Nat) g, gs[j]? = some g → ∃ t, ts[j]? = some t ∧ GridAt C H' g (pr t).1 (pr t).2,
      ⟨fun _ _ z => Bar.lkNew hD z, [], upd_same, rfl, fun j g e => by cases e⟩, fun i H' _ ⟨S, _⟩ => SqL.of (S _ _ hR), ?_, ?_⟩)
    · rintro i v H' hv ⟨S, gs, hd, lg, gg⟩
      have il : i < ts.length := by
        have := (List.getElem?_eq_some_iff.mp hv).1
        rwa [List.length_map] at this
      rw [List.getElem?_map] at hv
      obtain ⟨t, et, rfl⟩ := Option.map_eq_some_iff.mp hv
      obtain ⟨ht, g1, g2, g3, g4⟩ := RA.2 t (List.mem_of_getElem? et)
      have ht' := S _ _ ht
      walk_at "rd"
      refine ⟨rfl, ?_⟩
      walk_at "rd"
      refine mkG g1 fun g H3 hg S3 G3 => ?_
      rw [Int.emod_eq_of_lt g3 g4] at G3
      have kG : ∀ {q : Addr} {x y : Int}, GridAt C H3 q x y → GridAt C (upd H3 D (.lst (gs.map V.ref ++ [.ref g]))) q x y := by
        rintro q x y ⟨dx, q⟩
        exact ⟨dx, by rw [upd_ne (ne_of q (S3 _ _ hd) (by intro w; cases w))]; exact q⟩
      refine ⟨_, S3 _ _ hd, Bar.szLt (by rw [List.length_map]; omega), fun p o z => ?_, gs ++ [g], by rw [upd_same, List.map_append]; rfl, by rw [List.length_append, lg]; rfl, fun j q e => ?_⟩
      · rw [upd_ne (ne_of_none z hD)]
        exact S3 _ _ (S _ _ z)
      · by_cases jl : j < gs.length
        · rw [List.getElem?_append_left jl] at e
          obtain ⟨u, eu, Gu⟩ := gg j q e
          exact ⟨u, eu, kG (Gu.same S3)⟩
        · have ji : j = i := by
            have := (List.getElem?_eq_some_iff.mp e).1
            rw [List.length_append] at this
            have : j < gs.length + 1 := this
            omega
          subst ji
          rw [List.getElem?_append_right (by omega), lg, Nat.sub_self] at e
          cases e
          exact ⟨t, et, kG G3⟩
    · rintro H3 ⟨S3, gs, hd, lg, gg⟩
      rw [List.length_map] at lg
      walk_at "rd"
      refine k D gs H3 hD S3 ⟨hd, by rw [List.length_map, lg], fun j g e => ?_⟩
      obtain ⟨t, et, Gt⟩ := gg j g e
      obtain ⟨_, g1, g2, g3, g4⟩ := RA.2 t (List.mem_of_getElem? et)
      exact ⟨pr t, by rw [List.getElem?_map, et]; rfl, Gt, g1, g3, g4⟩
end

end Lw
namespace Lw
open PySem L2 Bar
/-! ### gaps of a list or a tuple of grids -/
def SeqH (H : Hp) (L : Addr) (xs : List V) : Prop := H L = some (.lst xs) ∨ H L = some (.tup xs)
theorem SeqH.same {H H' : Hp} {L : Addr} {xs : List V} (S : Same H H') (h : SeqH H L xs) : SeqH H' L xs := h.imp (S _ _) (S _ _)
def GridsS (C : Addr) (H : Hp) (L : Addr) (gs : List Addr) (ps : List (Int × Int)) : Prop := SeqH H L (gs.map V.ref) ∧ gs.length = ps.length ∧ ∀ (i : Nat) g, gs[i]? = some g → ∃ p, ps[i]? = some p ∧ GridAt C H g p.1 p.2 ∧ 1 ≤ p.1 ∧ 0 ≤ p.2 ∧ p.2 < p.1
theorem GridsS.same {C : Addr} {H H' : Hp} {L : Addr} {gs : List Addr} {ps : List (Int × Int)} (S : Same H H') (h : GridsS C H L gs ps) : GridsS C H' L gs ps := ⟨h.1.same S, h.2.1, fun i g e => by
  obtain ⟨p, e2, G, w⟩ := h.2.2 i g e
  exact ⟨p, e2, G.same S, w⟩⟩
theorem GridsAt.s {C : Addr} {H : Hp} {L : Addr} {gs : List Addr} {ps : List (Int × Int)} (h : GridsAt C H L gs ps) : GridsS C H L gs ps := ⟨.inl h.1, h.2⟩
theorem GridsAt.t {C : Addr} {H : Hp} {L p : Addr} {gs : List Addr} {ps : List (Int × Int)} (hp : H p = none) (h : GridsAt C H L gs ps) : GridsS C (upd H p (.tup (gs.map V.ref))) p gs ps := ⟨.inr upd_same, h.2.1, fun i g e => by
  obtain ⟨q, e2, G, w⟩ := h.2.2 i g e
  exact ⟨q, e2, G.new hp, w⟩⟩
theorem GridsS.wide {C : Addr} {H : Hp} {L : Addr} {gs : List Addr} {ps : List (Int × Int)} (h : GridsS C H L gs ps) : ∀ p ∈ ps, 0 ≤ p.2 ∧ p.2 < p.1 := fun p hp => by
  obtain ⟨i, hi, e⟩ := List.getElem_of_mem hp
  have hg : i < gs.length := by rw [h.2.1]; exact hi
  obtain ⟨p', e2, _, _, w⟩ := h.2.2 i gs[i] (List.getElem?_eq_getElem hg)
  rw [List.getElem?_eq_getElem hi, e] at e2
  cases e2
  exact w
/-- the least gap not before s, if there is one before s + 64 -/
def IsGap (ps : List (Int × Int)) (s : Int) : Option Int → Prop
  | some g => s ≤ g ∧ g < s + 64 ∧ hits ps g = false ∧ ∀ y, s ≤ y → y < g → hits ps y = true
  | none => ∀ y, s ≤ y → y < s + 64 → hits ps y = true
theorem IsGap.uniq {ps : List (Int × Int)} {s : Int} {o p : Option Int} (h : IsGap ps s o) (k : IsGap ps s p) : o = p := by
  have no : ∀ {y : Int}, hits ps y = false → hits ps y = true → False := fun a b => by
    rw [a] at b
    cases b
  cases o with
  | none => cases p with
    | none => rfl
    | some g => exact absurd (h g k.1 k.2.1) (fun z => no k.2.2.1 z)
  | some g => cases p with
    | none => exact absurd (k g h.1 h.2.1) (fun z => no h.2.2.1 z)
    | some g' =>
      have h1 : ¬ g < g' := fun z => no h.2.2.1 (k.2.2.2 g h.1 z)
      have h2 : ¬ g' < g := fun z => no k.2.2.1 (h.2.2.2 g' k.1 z)
      rw [show g = g' by omega]
def oV : Option Int → V
  | some g => .int g
  | none => .non
theorem flat_oV : ∀ o, flat (oV o)
  | some _ => trivial
  | none => trivial
def spGapS (C : Addr) : Sp := fun vs H Q _ => ∃ (L : Addr) (gs : List Addr) (ps : List (Int × Int)) (x : Int), vs = [.ref L, .int x] ∧ GridsS C H L gs ps ∧ ps.length ≤ 6 ∧ ∀ H', Same H H' → Q (.bl (!hits ps x)) H'
def spCheckX (CT : Addr) : Sp := fun vs H Q E => ∃ (L : Addr) (xs : List V), vs = [.ref L] ∧ SeqH H L xs ∧ (xs.length ≤ 6 → Q .non H) ∧
  (6 < xs.length → ∀ d H', H d = none → Same H H' → H' d = some (.xd [("most", .int 6), ("kind", .str "grids")]) → E (.ref CT) (some d) H')
def RefAt (H : Hp) (r : Addr) : Prop := ∃ t, H r = some (.lst [.non, .ref t]) ∧ H t = some (.lst [.str "grids", .int 6, .bl true, .bl true, .bl false])
abbrev okTM : V → V → Prop := fun v u => v = .str "grids" ∧ u = .int 6
section
variable {P : Program} {w : World} {K : PySem.W.Frag} {mg : Str → Option Value} {base : Heap} {C : Addr}
theorem ok_eTM {f C CB : Addr} {fd : FuncData} (F : Fun K "__init__" "TooMany.__init__" s_TooMany___init__ f fd) (eb : EBase K mg "BarclipsError" CB) (O : OexC K C) (no1 : PySem.W.findIn K (.ref C) "kind" = some none) (no2 : PySem.W.findIn K (.ref C) "most" = some none) : FnOk P w K mg base CX0 1 f fd P_TooMany___init__ (spErr2 C "kind" "most" okTM) := by
  refine F.ok sc_TooMany___init__ (fun vs H Q E h => ?_) (fun cdv A outer s H vs Q E hr h => ?_)
  · obtain ⟨a, v, u, rfl, _⟩ := h
    rfl
  · obtain ⟨a, v, u, rfl, ha, ⟨rfl, rfl⟩, k⟩ := h
    refine ⟨_, (pss_cons (ps_expr (pe_baseInit eb rfl (pa_cons (pv 0) (pa_cons (pe_joined (PJ.cons pe_str (PJ.cons (pe_fmt (pv 1)) (PJ.cons pe_str (PJ.cons (pe_fmt (pv 2)) PJ.nil))))) pa_nil))))
    (pss_cons (ps_ost (pv 0) (pv 1) rfl)
    (pss_one (ps_ost (pv 0) (pv 2) rfl)))), ?_⟩
    refine Bar.rStart (σ := [some (.ref a), some (.str "grids"), some (.int 6)]) rfl ?_
    walk_at "rd"
    refine ⟨"more ", rfl, by decide +kernel, ?_⟩
    refine ⟨_, rfl, .inl ⟨"grids", rfl, by decide +kernel, ?_⟩⟩
    refine ⟨"grids", rfl, by decide +kernel, ?_⟩
    refine ⟨" than ", rfl, by decide +kernel, ?_⟩
    refine ⟨_, rfl, .inr ⟨6, rfl, by decide, ?_⟩⟩
    refine ⟨_, rfl, by decide +kernel, ?_⟩
    walk_at "rd"
    refine ⟨a, C, _, rfl, by decide, O, ha, ?_⟩
    walk_at "rd"
    refine ⟨a, C, rfl, O, no1, .inl ⟨ha, fun d hd ne => ?_⟩⟩
    walk_at "rd"
    refine ⟨a, C, rfl, O, no2, .inr ⟨d, _, upd_same, (upd_ne ne).trans upd_same, by simp, ?_⟩⟩
    walk_at "rd"
    exact k d hd ne
theorem ok_checkX {f CT : Addr} {fd : FuncData} {tok : Tok} (F : Fun K "check_grids" "check_grids" s_check_grids f fd) (T : Txt mg) (g_int_MOST_GRIDS : mg "MOST_GRIDS" = some (.int 6 tok)) (er_TooMany : Err P w K mg base "TooMany" CT P_TooMany___init__ 1 (spErr2 CT "kind" "most" okTM)) : FnOk P w K mg base (L2.CX P w) 3 f fd P_check_grids (spCheckX CT) := by
  refine F.okX sc_check_grids (fun vs H Q E h => ?_) (fun cdv A outer s H vs Q E hr h => ?_)
  · obtain ⟨L, xs, rfl, _⟩ := h
    rfl
  · obtain ⟨L, xs, rfl, hL, k1, k2⟩ := h
    refine ⟨_, (pss_one (ps_if (pt_cmpR op_gt (pe_callB c_len rfl T.b_len PySem.boot_len (pa_cons (pv 0) pa_nil)) (pe_glob (v := .int 6) rfl g_int_MOST_GRIDS ⟨_, rfl⟩) (nomark _)) (pss_one (ps_raise rfl (takes_of rfl rfl rfl rfl) (pmk_err er_TooMany (hr.mono (by omega)) rfl (pa_cons pe_str (pa_cons (pe_glob (v := .int 6) rfl g_int_MOST_GRIDS ⟨_, rfl⟩) pa_nil))))) pss_nil)), ?_⟩
    refine Bar.rStart (σ := [some (.ref L)]) rfl ?_
    rcases hL with hL | hL
    all_goals
      walk_at "rd"
      refine ite2 (fun h => ?_) (fun h => ?_)
      · walk_at "rd"
        have h6 := of_decide_eq_true h
        refine rErr2 ⟨rfl, rfl⟩ fun d H' hd S e => ?_
        exact k2 (by omega) d H' hd S e
      · walk_at "rd"
        refine k1 ?_
        by_cases z : xs.length ≤ 6
        · exact z
        · exact absurd (decide_eq_true (show (xs.length : Int) > 6 by omega)) h
end


/-! ### more of the grids -/
def spG1 (C : Addr) (f : Int → Int → Int → V) (ok : Int → Int → Int → Prop) : Sp := fun vs H Q _ => ∃ (g : Addr) (st o x : Int), vs = [.ref g, .int x] ∧ GridAt C H g st o ∧ 1 ≤ st ∧ st ≤ big ∧ ok st o x ∧ Q (f st o x) H
abbrev spTick (C : Addr) : Sp := spG1 C (fun st o n => .int (o + st * n)) (fun st _ n => CMulW st n)
abbrev spAfter (C : Addr) : Sp := spG1 C (fun st o t => .int (t + (o - t) % st)) (fun _ _ _ => True)
abbrev spBefore (C : Addr) : Sp := spG1 C (fun st o t => .int (t - (t - o) % st)) (fun _ _ _ => True)
abbrev spDiv (C : Addr) : Sp := spG1 C (fun st o t => .int ((t - o) / st)) (fun _ _ _ => True)
abbrev spMod (C : Addr) : Sp := spG1 C (fun st o t => .int ((t - o) % st)) (fun _ _ _ => True)
section
variable {P : Program} {w : World} {K : PySem.W.Frag} {mg : Str → Option Value} {base : Heap} {C : Addr}
theorem rFS {H : Hp} {g : Addr} {st o : Int} {R : V → Prop} (G : GTxt K C) (h : GridAt C H g st o) (r : R (.int st)) : ∃ a C dx fs v, V.ref g = .ref a ∧ H a = some (.ins C dx fs) ∧ Cls K C ∧ NoAttr K C "step" ∧ fs.lookup ("step" : Str) = some v ∧ R v := by
  obtain ⟨dx, hg⟩ := h
  exact Bar.rFldV hg G.cl G.nS (gf_step _ _) r
theorem rFO {H : Hp} {g : Addr} {st o : Int} {R : V → Prop} (G : GTxt K C) (h : GridAt C H g st o) (r : R (.int o)) : ∃ a C dx fs v, V.ref g = .ref a ∧ H a = some (.ins C dx fs) ∧ Cls K C ∧ NoAttr K C "offset" ∧ fs.lookup ("offset" : Str) = some v ∧ R v := by
  obtain ⟨dx, hg⟩ := h
  exact Bar.rFldV hg G.cl G.nO (gf_off _ _) r
theorem gf_none (st o : Int) {m : Str} (h1 : ¬ m = "step") (h2 : ¬ m = "offset") : (gf st o).lookup m = none := by
  rw [← put_off, lookup_putF, if_neg h2, ← put_step, lookup_putF, if_neg h1]
  rfl
/-- a method of a grid is looked up -/
theorem rMG {H : Hp} {g : Addr} {st o : Int} {m : Str} {R : Prop} (h : GridAt C H g st o) (h1 : ¬ m = "step") (h2 : ¬ m = "offset") (r : R) : ∃ a dx fs, V.ref g = .ref a ∧ H a = some (.ins C dx fs) ∧ fs.lookup m = none ∧ R := by
  obtain ⟨dx, hg⟩ := h
  exact ⟨g, dx, _, rfl, hg, gf_none _ _ h1 h2, r⟩
theorem rGL {H : Hp} {g : Addr} {st o i : Int} {sp : Sp} {Q : VK} (h : GridAt C H g st o) (r : sp [.ref g, .int i] H Q E0) : rOwnL C sp (.ref g) (.int i) H Q := by
  obtain ⟨dx, hg⟩ := h
  exact ⟨g, dx, _, i, rfl, rfl, hg, r⟩
theorem rGR {H : Hp} {g : Addr} {st o i : Int} {sp : Sp} {Q : VK} (h : GridAt C H g st o) (r : sp [.ref g, .int i] H Q E0) : rOwnR C sp (.int i) (.ref g) H Q := by
  obtain ⟨dx, hg⟩ := h
  exact ⟨g, dx, _, i, rfl, rfl, hg, r⟩
theorem st_div {st : Int} (h1 : 1 ≤ st) (h2 : st ≤ big) : CDivW 0 st := wide_div (by omega) (log_big (by omega) h2) (by decide) (by decide)
theorem ok_rdiv {f : Addr} {fd : FuncData} (F : Fun K "__rfloordiv__" "Grid.__rfloordiv__" s_Grid___rfloordiv__ f fd) (G : GTxt K C) : FnOk P w K mg base CX0 1 f fd P_Grid___rfloordiv__ (spDiv C) := by
  refine F.ok sc_Grid___rfloordiv__ (fun vs H Q E h => ?_) (fun cdv A outer s H vs Q E hr h => ?_)
  · obtain ⟨g, st, o, x, rfl, _⟩ := h
    rfl
  · obtain ⟨g, st, o, x, rfl, hg, s1, s2, c, k⟩ := h
    refine ⟨_, (pss_one (ps_ret (pe_op op_fdivW (pe_op op_sub (pv 1) (pe_fld (pv 0) rfl)) (pe_fld (pv 0) rfl)))), ?_⟩
    refine Bar.rStart (σ := [some (.ref g), some (.int x)]) rfl ?_
    walk_at "rd"
    refine rFO G hg ?_
    walk_at "rd"
    refine rFS G hg ?_
    walk_at "rd"
    refine Bar.rI_ (st_div s1 s2) ?_
    walk_at "rd"
    exact k
end

section
variable {P : Program} {w : World} {K : PySem.W.Frag} {mg : Str → Option Value} {base : Heap} {C : Addr}
theorem ok_tick_of {f : Addr} {fd : FuncData} (F : Fun K "tick_of" "Grid.tick_of" s_Grid_tick_of f fd) (G : GTxt K C) : FnOk P w K mg base CX0 1 f fd P_Grid_tick_of (spTick C) := by
  refine F.ok sc_Grid_tick_of (fun vs H Q E h => ?_) (fun cdv A outer s H vs Q E hr h => ?_)
  · obtain ⟨g, st, o, x, rfl, _⟩ := h
    rfl
  · obtain ⟨g, st, o, x, rfl, hg, s1, s2, c, k⟩ := h
    refine ⟨_, (pss_one (ps_ret (pe_op op_add (pe_fld (pv 0) rfl) (pe_op op_mulW (pe_fld (pv 0) rfl) (pv 1))))), ?_⟩
    refine Bar.rStart (σ := [some (.ref g), some (.int x)]) rfl ?_
    walk_at "rd"
    refine rFO G hg ?_
    walk_at "rd"
    refine rFS G hg ?_
    walk_at "rd"
    exact k
end


/-! ### ticks counted -/
def bw (st o lo hi : Int) : Int := if hi ≤ lo then 0 else (hi - 1 - o) / st - (lo - 1 - o) / st
def spBetween (C : Addr) : Sp := fun vs H Q _ => ∃ (g : Addr) (st o lo hi : Int), vs = [.ref g, .int lo, .int hi] ∧ GridAt C H g st o ∧ 1 ≤ st ∧ st ≤ big ∧ Q (.int (bw st o lo hi)) H
section
variable {P : Program} {w : World} {K : PySem.W.Frag} {mg : Str → Option Value} {base : Heap} {C : Addr}
theorem ok_between {f : Addr} {fd : FuncData} (F : Fun K "between" "Grid.between" s_Grid_between f fd) (G : GTxt K C) (o_Grid_RFloorDiv : OprR P w K mg base C .FloorDiv P_Grid___rfloordiv__ 1 (spDiv C)) : FnOk P w K mg base CX0 2 f fd P_Grid_between (spBetween C) := by
  refine F.ok sc_Grid_between (fun vs H Q E h => ?_) (fun cdv A outer s H vs Q E hr h => ?_)
  · obtain ⟨g, st, o, lo, hi, rfl, _⟩ := h
    rfl
  · obtain ⟨g, st, o, lo, hi, rfl, hg, s1, s2, k⟩ := h
    refine ⟨_, (pss_cons (ps_if (pt_cmpR op_le (pv 2) (pv 1) (nomark _)) (pss_one (ps_ret pe_int)) pss_nil)
    (pss_one (ps_ret (pe_op op_sub (pe_op (op_R o_Grid_RFloorDiv no_floordiv (hr.mono (by omega))) (pe_op op_sub (pv 2) pe_int) (pv 0)) (pe_op (op_R o_Grid_RFloorDiv no_floordiv (hr.mono (by omega))) (pe_op op_sub (pv 1) pe_int) (pv 0)))))), ?_⟩
    refine Bar.rStart (σ := [some (.ref g), some (.int lo), some (.int hi)]) rfl ?_
    walk_at "rd"
    unfold bw at k
    refine ite2 (fun h => ?_) (fun h => ?_)
    · walk_at "rd"
      rw [if_pos (of_decide_eq_true h)] at k
      exact k
    · walk_at "rd"
      refine rGR hg ⟨g, st, _, _, rfl, hg, s1, s2, trivial, ?_⟩
      walk_at "rd"
      refine rGR hg ⟨g, st, _, _, rfl, hg, s1, s2, trivial, ?_⟩
      walk_at "rd"
      rw [if_neg (fun q => h (decide_eq_true q))] at k
      exact k
end
section
variable {a b o n lo hi : Int}
theorem div_pred (h : 0 < a) : n / a - (n - 1) / a = if n % a = 0 then 1 else 0 := by
  have e1 := Int.emod_def n a
  have e2 := Int.emod_nonneg n (show a ≠ 0 by omega)
  have e3 := Int.emod_lt_of_pos n h
  by_cases q : n % a = 0
  · rw [if_pos q]
    have e : (n - 1) / a = n / a - 1 := by
      have e4 : n - 1 = (a - 1) + a * (n / a - 1) := by
        rw [Int.mul_sub]
        omega
      rw [e4, Int.add_mul_ediv_left _ _ (by omega), Int.ediv_eq_zero_of_lt (by omega) (by omega)]
      omega
    omega
  · rw [if_neg q]
    have e : (n - 1) / a = n / a := by
      have e4 : n - 1 = (n % a - 1) + a * (n / a) := by omega
      rw [e4, Int.add_mul_ediv_left _ _ (by omega), Int.ediv_eq_zero_of_lt (by omega) (by omega)]
      omega
    omega
theorem div_neg' (h : 0 < a) : (n - 1) / a = -((-n) / a) - 1 := by
  have e1 := Int.emod_def (-n) a
  have e2 := Int.emod_nonneg (-n) (show a ≠ 0 by omega)
  have e3 := Int.emod_lt_of_pos (-n) h
  have e4 : n - 1 = (a - 1 - (-n) % a) + a * (-((-n) / a) - 1) := by
    rw [Int.mul_sub, Int.mul_neg]
    omega
  rw [e4, Int.add_mul_ediv_left _ _ (by omega), Int.ediv_eq_zero_of_lt (by omega) (by omega)]
  have e5 : (-(a - 1 - -n % a + a * (-(-n / a) - 1) + 1)) = -n := by omega
  omega
/-- the law's own count -/
theorem bw_one (h : 0 < a) : bw a (b % a) lo hi = if hi ≤ lo then 0 else (b - lo) / a - (b - hi) / a := by
  unfold bw
  by_cases q : hi ≤ lo
  · rw [if_pos q, if_pos q]
  · rw [if_neg q, if_neg q]
    have e0 := Int.emod_def b a
    have e1 : (hi - 1 - b % a) / a = -((b % a - hi) / a) - 1 := by
      have := div_neg' (n := hi - b % a) h
      rw [show hi - 1 - b % a = hi - b % a - 1 by omega, this, show -(hi - b % a) = b % a - hi by omega]
    have e2 : (lo - 1 - b % a) / a = -((b % a - lo) / a) - 1 := by
      have := div_neg' (n := lo - b % a) h
      rw [show lo - 1 - b % a = lo - b % a - 1 by omega, this, show -(lo - b % a) = b % a - lo by omega]
    have e3 : (b - hi) / a = (b % a - hi) / a + b / a := by
      rw [show b - hi = (b % a - hi) + a * (b / a) by omega, Int.add_mul_ediv_left _ _ (by omega)]
    have e4 : (b - lo) / a = (b % a - lo) / a + b / a := by
      rw [show b - lo = (b % a - lo) + a * (b / a) by omega, Int.add_mul_ediv_left _ _ (by omega)]
    omega
def cnt (a b lo : Int) : Nat → Nat
  | 0 => 0
  | w + 1 => cnt a b lo w + if (lo + (w : Int) - b) % a = 0 then 1 else 0
theorem cnt_bw (h : 0 < a) : ∀ w : Nat, (cnt a b lo w : Int) = bw a (b % a) lo (lo + (w : Int))
  | 0 => by
    unfold cnt bw
    rw [if_pos (by omega)]
    rfl
  | w + 1 => by
    have ih := cnt_bw h w
    have e0 := Int.emod_def b a
    have d := div_pred (n := lo + (w : Int) - b % a) h
    have e : ((lo + (w : Int) - b % a) % a = 0) = ((lo + (w : Int) - b) % a = 0) := by
      rw [show lo + (w : Int) - b % a = (lo + (w : Int) - b) + a * (b / a) by omega, Int.add_mul_emod_self_left]
    simp only [e] at d
    have e2 : bw a (b % a) lo (lo + ((w + 1 : Nat) : Int)) = bw a (b % a) lo (lo + (w : Int)) + ((lo + (w : Int) - b % a) / a - (lo + (w : Int) - b % a - 1) / a) := by
      unfold bw
      rw [if_neg (by omega)]
      by_cases q : w = 0
      · subst q
        rw [if_pos (by omega)]
        rw [show lo + ((0 + 1 : Nat) : Int) - 1 - b % a = lo + ((0 : Nat) : Int) - b % a by omega, show lo + ((0 : Nat) : Int) - b % a - 1 = lo - 1 - b % a by omega]
        omega
      · rw [if_neg (by omega)]
        rw [show lo + ((w + 1 : Nat) : Int) - 1 - b % a = lo + (w : Int) - b % a by omega, show lo + (w : Int) - b % a - 1 = lo + (w : Int) - 1 - b % a by omega]
        omega
    rw [e2, d, ← ih]
    show ((cnt a b lo w + (if (lo + (w : Int) - b) % a = 0 then 1 else 0) : Nat) : Int) = _
    split <;> simp
theorem cnt_le : ∀ w : Nat, cnt a b lo w ≤ w
  | 0 => Nat.le_refl _
  | w + 1 => by
    have := cnt_le w
    unfold cnt
    split <;> omega
theorem cnt_yes {w : Nat} (h : (lo + (w : Int) - b) % a = 0) : cnt a b lo (w + 1) = cnt a b lo w + 1 := by
  show cnt a b lo w + _ = _
  rw [if_pos h]
theorem cnt_no {w : Nat} (h : ¬ (lo + (w : Int) - b) % a = 0) : cnt a b lo (w + 1) = cnt a b lo w := by
  show cnt a b lo w + _ = _
  rw [if_neg h]
  rfl
theorem bw_back (w : Int) (h : 0 ≤ w) : bw a o lo (lo - w) = 0 := by
  unfold bw
  rw [if_pos (by omega)]
end

end Lw
namespace Lw
open PySem L2 Bar

/-! ### the inverse, by Euclid's steps -/
section
theorem mulW_ok {x y : Int} (h1 : x.natAbs < 2 ^ 1400) (h2 : y.natAbs < 2 ^ 1400) : CMulW x y := wide_mul h1 h2 (by decide) (by decide) (by decide)
theorem divW_ok {x y : Int} (h0 : 0 < y) (h2 : y.natAbs < 2 ^ 1400) : CDivW x y := wide_div h0 h2 (by decide) (by decide)
/-- what stands in the four names: e is the sign of the right one -/
structure Eu (n m l r lt rt : Int) : Prop where
  l1 : 1 ≤ l
  r0 : 0 ≤ r
  rl : r < l
  lm : l ≤ m
  gl : ∀ d : Int, d ∣ l → d ∣ r → d ∣ m ∧ d ∣ n
  cl : ∃ q, n * lt = l + m * q
  cr : ∃ q, n * rt = r + m * q
  bd : ∃ (e L R : Int), (e = 1 ∨ e = -1) ∧ 0 ≤ L ∧ L ≤ m ∧ 0 ≤ R ∧ lt = -(e * L) ∧ rt = e * R ∧ l * R + r * L = m
theorem Eu.start {n m : Int} (h : 1 ≤ m) : Eu n m m (n % m) 0 1 := by
  have h0 := Int.emod_nonneg n (show m ≠ 0 by omega)
  have h1 := Int.emod_lt_of_pos n (show 0 < m by omega)
  have e := Int.emod_add_mul_ediv n m
  refine ⟨h, h0, h1, Int.le_refl _, fun d h1 h2 => ⟨h1, ?_⟩, ⟨-1, by grind⟩, ⟨n / m, by omega⟩, ⟨1, 0, 1, .inl rfl, by omega, by omega, by omega, by omega, by omega, by grind⟩⟩
  rw [← e]
  exact Int.dvd_add h2 (Int.dvd_mul_of_dvd_left h1)
theorem Eu.step {n m l r lt rt : Int} (h : Eu n m l r lt rt) (hr : 0 < r) : Eu n m r (l - l / r * r) rt (lt - l / r * rt) := by
  obtain ⟨l1, r0, rl, lm, gl, ⟨q, cl⟩, ⟨p, cr⟩, ⟨e, L, R, he, L0, Lm, R0, e1, e2, e3⟩⟩ := h
  have em := Int.emod_add_mul_ediv l r
  have m0 := Int.emod_nonneg l (show r ≠ 0 by omega)
  have m1 := Int.emod_lt_of_pos l hr
  have t0 : 0 ≤ l / r := Int.ediv_nonneg (by omega) (by omega)
  have eq : l - l / r * r = l % r := by grind
  generalize l / r = t at *
  have Rm : R ≤ m := by
    have h1 : 1 * R ≤ l * R := Int.mul_le_mul_of_nonneg_right l1 R0
    have h2 : 0 ≤ r * L := Int.mul_nonneg r0 L0
    omega
  have tR : 0 ≤ t * R := Int.mul_nonneg t0 R0
  refine ⟨by omega, by omega, by omega, by omega, fun d h1 h2 => gl d ?_ h1, ⟨p, cr⟩, ⟨q - t * p, by grind⟩, ⟨-e, R, L + t * R, by omega, R0, Rm, by omega, by grind, by grind, by grind⟩⟩
  have e5 : l = (l - t * r) + t * r := by omega
  rw [e5]
  exact Int.dvd_add h2 (Int.dvd_mul_of_dvd_right h1)
/-- all four are of the modulus' size -/
theorem Eu.size {n m l r lt rt : Int} (h : Eu n m l r lt rt) (hm : m.natAbs < 2 ^ 1400) : l.natAbs < 2 ^ 1400 ∧ r.natAbs < 2 ^ 1400 ∧ (l / r).natAbs < 2 ^ 1400 ∧ rt.natAbs < 2 ^ 1400 := by
  obtain ⟨l1, r0, rl, lm, gl, _, _, ⟨e, L, R, he, L0, Lm, R0, e1, e2, e3⟩⟩ := h
  have Rm : R ≤ m := by
    have h1 : 1 * R ≤ l * R := Int.mul_le_mul_of_nonneg_right l1 R0
    have h2 : 0 ≤ r * L := Int.mul_nonneg r0 L0
    omega
  have q := Int.natAbs_ediv_le_natAbs l r
  refine ⟨Nat.lt_of_le_of_lt (by omega) hm, Nat.lt_of_le_of_lt (by omega) hm, Nat.lt_of_le_of_lt (by omega) hm, Nat.lt_of_le_of_lt ?_ hm⟩
  rcases he with he | he <;> subst he <;> omega
theorem Eu.fin {n m l r lt rt : Int} (h : Eu n m l r lt rt) (hr : ¬ 0 < r) (co : ∀ d : Int, 1 ≤ d → d ∣ m → d ∣ n → d = 1) : ∃ q, n * (lt % m) = 1 + m * q := by
  obtain ⟨l1, r0, rl, lm, gl, ⟨q, cl⟩, _, _⟩ := h
  have r00 : r = 0 := by omega
  subst r00
  obtain ⟨h1, h2⟩ := gl l (Int.dvd_refl l) (Int.dvd_zero l)
  have e := co l l1 h1 h2
  subst e
  have em := Int.emod_add_mul_ediv lt m
  exact ⟨q - n * (lt / m), by grind⟩
/-! ### the common grid -/
/-- the greatest common divisor, as the program has it -/
abbrev gd (a b : Int) : Int := ((Nat.gcd a.natAbs b.natAbs : Nat) : Int)
structure Cm (a1 o1 a2 o2 : Int) : Prop where
  a1l : 1 ≤ a1
  a2l : 1 ≤ a2
  o1l : 0 ≤ o1
  o1u : o1 < a1
  o2l : 0 ≤ o2
  o2u : o2 < a2
  a1s : a1.natAbs < 2 ^ 1326
  a2s : a2.natAbs < 2 ^ 1326
theorem gd_pos {a b : Int} (h : 1 ≤ a) : 1 ≤ gd a b := by
  have h1 : 0 < Nat.gcd a.natAbs b.natAbs := Nat.gcd_pos_of_pos_left _ (by omega)
  show 1 ≤ ((Nat.gcd a.natAbs b.natAbs : Nat) : Int)
  omega
theorem gd_dl (a b : Int) : gd a b ∣ a := Int.ofNat_dvd_left.mpr (Nat.gcd_dvd_left _ _)
theorem gd_dr (a b : Int) : gd a b ∣ b := Int.ofNat_dvd_left.mpr (Nat.gcd_dvd_right _ _)
theorem gd_co {a b : Int} (h : 1 ≤ a) : ∀ d : Int, 1 ≤ d → d ∣ b / gd a b → d ∣ a / gd a b → d = 1 := by
  intro d d1 h1 h2
  have gp := gd_pos (b := b) h
  obtain ⟨x, hx⟩ := gd_dl a b
  obtain ⟨y, hy⟩ := gd_dr a b
  have ex : a / gd a b = x := Int.ediv_eq_of_eq_mul_right (by omega) hx
  have ey : b / gd a b = y := Int.ediv_eq_of_eq_mul_right (by omega) hy
  rw [ex] at h2
  rw [ey] at h1
  obtain ⟨u, hu⟩ := h2
  obtain ⟨v, hv⟩ := h1
  have ha : (gd a b * d) ∣ a := ⟨u, by grind⟩
  have hb : (gd a b * d) ∣ b := ⟨v, by grind⟩
  have k : (gd a b * d).natAbs ∣ Nat.gcd a.natAbs b.natAbs := Nat.dvd_gcd (Int.natAbs_dvd_natAbs.mpr ha) (Int.natAbs_dvd_natAbs.mpr hb)
  have gn : 0 < Nat.gcd a.natAbs b.natAbs := Nat.gcd_pos_of_pos_left _ (by omega)
  have k2 := Nat.le_of_dvd gn k
  rw [Int.natAbs_mul, Int.natAbs_natCast] at k2
  have d2 : d.natAbs ≤ 1 := by
    by_cases z : d.natAbs ≤ 1
    · exact z
    · have h3 : Nat.gcd a.natAbs b.natAbs * 2 ≤ Nat.gcd a.natAbs b.natAbs * d.natAbs := Nat.mul_le_mul_left _ (by omega)
      omega
  omega
theorem meet_dvd {a1 o1 a2 o2 t : Int} (h1 : t % a1 = o1) (h2 : t % a2 = o2) : (o2 - o1) % gd a1 a2 = 0 := by
  refine Int.emod_eq_zero_of_dvd ?_
  have e1 := Int.emod_add_mul_ediv t a1
  have e2 := Int.emod_add_mul_ediv t a2
  have e3 : o2 - o1 = a1 * (t / a1) - a2 * (t / a2) := by omega
  rw [e3]
  exact Int.dvd_sub (Int.dvd_mul_of_dvd_left (gd_dl _ _)) (Int.dvd_mul_of_dvd_left (gd_dr _ _))
theorem quot_size {a d : Int} (h : 1 ≤ a) (s : a.natAbs < 2 ^ 1326) : (a / d).natAbs < 2 ^ 1400 :=
  Nat.lt_of_le_of_lt (Int.natAbs_ediv_le_natAbs a d) (Nat.lt_of_lt_of_le s (Nat.pow_le_pow_right (by decide) (by decide)))
theorem quot_pos {a d : Int} (h : 1 ≤ a) (d1 : 1 ≤ d) (hd : d ∣ a) : 1 ≤ a / d := by
  obtain ⟨x, hx⟩ := hd
  have ex : a / d = x := Int.ediv_eq_of_eq_mul_right (by omega) hx
  rw [ex]
  by_cases z : 1 ≤ x
  · exact z
  · have : d * x ≤ 0 := Int.mul_nonpos_of_nonneg_of_nonpos (by omega) (by omega)
    omega
/-- the number of the common tick -/
theorem cm_tick {a1 o1 a2 o2 inv : Int} (h : Cm a1 o1 a2 o2) (hd : (o2 - o1) % gd a1 a2 = 0) (hi : ∃ q, a1 / gd a1 a2 * inv = 1 + a2 / gd a1 a2 * q) (t : Int)
    (ht : t = o1 + a1 * ((o2 - o1) / gd a1 a2 * inv % (a2 / gd a1 a2))) : 0 ≤ t ∧ t < a1 * (a2 / gd a1 a2) ∧ t % a1 = o1 ∧ t % a2 = o2 := by
  have gp := gd_pos (b := a2) h.a1l
  obtain ⟨x, hx⟩ := gd_dl a1 a2
  obtain ⟨y, hy⟩ := gd_dr a1 a2
  obtain ⟨z, hz⟩ := Int.dvd_of_emod_eq_zero hd
  have c1 := quot_pos h.a2l gp (gd_dr a1 a2)
  generalize gd a1 a2 = d at *
  have ex : a1 / d = x := Int.ediv_eq_of_eq_mul_right (by omega) hx
  have ey : a2 / d = y := Int.ediv_eq_of_eq_mul_right (by omega) hy
  have ez : (o2 - o1) / d = z := Int.ediv_eq_of_eq_mul_right (by omega) hz
  rw [ey] at c1
  rw [ex, ey] at hi
  rw [ey, ez] at ht
  rw [ey]
  obtain ⟨q, hq⟩ := hi
  have em := Int.emod_add_mul_ediv (z * inv) y
  have n0 := Int.emod_nonneg (z * inv) (show y ≠ 0 by omega)
  have n1 := Int.emod_lt_of_pos (z * inv) (show 0 < y by omega)
  generalize z * inv % y = n at *
  generalize z * inv / y = u at *
  have p0 : 0 ≤ a1 * n := Int.mul_nonneg (by have := h.a1l; omega) n0
  have p1 : a1 * (n + 1) ≤ a1 * y := Int.mul_le_mul_of_nonneg_left (by omega) (by have := h.a1l; omega)
  have l1 := h.o1l
  have u1 := h.o1u
  refine ⟨by omega, ?_, ?_, ?_⟩
  · rw [Int.mul_add, Int.mul_one] at p1
    omega
  · rw [ht, Int.add_mul_emod_self_left]
    exact Int.emod_eq_of_lt l1 u1
  · have e : t = o2 + a2 * (z * q - x * u) := by grind
    rw [e, Int.add_mul_emod_self_left]
    exact Int.emod_eq_of_lt h.o2l h.o2u
/-- a tick is on the common grid exactly if it is on both -/
theorem cm_iff {a1 o1 a2 o2 t x : Int} (h : Cm a1 o1 a2 o2) (t0 : 0 ≤ t) (t1 : t < a1 * (a2 / gd a1 a2)) (m1 : t % a1 = o1) (m2 : t % a2 = o2) : x % (a1 * (a2 / gd a1 a2)) = t ↔ x % a1 = o1 ∧ x % a2 = o2 := by
  have gp := gd_pos (b := a2) h.a1l
  obtain ⟨p, hp⟩ := gd_dl a1 a2
  obtain ⟨y, hy⟩ := gd_dr a1 a2
  have co := gd_co (b := a2) h.a1l
  have ey : a2 / gd a1 a2 = y := Int.ediv_eq_of_eq_mul_right (by omega) hy
  have ep : a1 / gd a1 a2 = p := Int.ediv_eq_of_eq_mul_right (by omega) hp
  rw [ey] at t1
  rw [ey, ep] at co
  rw [ey]
  constructor
  · intro e
    have em := Int.emod_add_mul_ediv x (a1 * y)
    rw [e] at em
    constructor
    · rw [← em, Int.mul_assoc, Int.add_mul_emod_self_left, m1]
    · have e2 : t + a1 * y * (x / (a1 * y)) = t + a2 * (p * (x / (a1 * y))) := by
        generalize gd a1 a2 = d at *
        generalize x / (a1 * y) = w
        grind
      rw [← em, e2, Int.add_mul_emod_self_left, m2]
  · rintro ⟨e1, e2⟩
    have d1 : a1 ∣ x - t := Int.dvd_of_emod_eq_zero (Int.emod_eq_emod_iff_emod_sub_eq_zero.mp (e1.trans m1.symm))
    have d2 : a2 ∣ x - t := Int.dvd_of_emod_eq_zero (Int.emod_eq_emod_iff_emod_sub_eq_zero.mp (e2.trans m2.symm))
    have d3 : a1 * y ∣ x - t := by
      obtain ⟨u, hu⟩ := d1
      obtain ⟨v, hv⟩ := d2
      -- p u = y v, p and y have no common divisor: y divides u
      have e5 : p * u = y * v := by
        have : gd a1 a2 * (p * u) = gd a1 a2 * (y * v) := by grind
        exact Int.eq_of_mul_eq_mul_left (by omega) this
      have g1 : Nat.gcd y.natAbs p.natAbs = 1 := by
        have y1 : 1 ≤ y := by
          by_cases z : 1 ≤ y
          · exact z
          · have : gd a1 a2 * y ≤ 0 := Int.mul_nonpos_of_nonneg_of_nonpos (by omega) (by omega)
            have := h.a2l
            omega
        have gpos : 0 < Nat.gcd y.natAbs p.natAbs := Nat.gcd_pos_of_pos_left _ (by omega)
        have := co (Nat.gcd y.natAbs p.natAbs : Nat) (by omega) (Int.ofNat_dvd_left.mpr (Nat.gcd_dvd_left _ _)) (Int.ofNat_dvd_left.mpr (Nat.gcd_dvd_right _ _))
        omega
      have k : y.natAbs ∣ p.natAbs * u.natAbs := by
        rw [← Int.natAbs_mul, e5, Int.natAbs_mul]
        exact Nat.dvd_mul_right _ _
      have k2 : y ∣ u := Int.natAbs_dvd_natAbs.mp ((Nat.Coprime.dvd_of_dvd_mul_left (show Nat.Coprime y.natAbs p.natAbs from g1) k))
      obtain ⟨w, hw⟩ := k2
      exact ⟨w, by rw [hu, hw]; grind⟩
    have e3 : x % (a1 * y) = t % (a1 * y) := Int.emod_eq_emod_iff_emod_sub_eq_zero.mpr (Int.emod_eq_zero_of_dvd d3)
    rw [e3]
    exact Int.emod_eq_of_lt t0 t1
end


def spInv : Sp := fun vs H Q _ => ∃ (n m : Int), vs = [.int n, .int m] ∧ 1 ≤ m ∧ m.natAbs < 2 ^ 1400 ∧ (∀ d : Int, 1 ≤ d → d ∣ m → d ∣ n → d = 1) ∧ ∀ x H', Same H H' → 0 ≤ x → x < m → (∃ q, n * x = 1 + m * q) → Q (.int x) H'
/-- the common grid of two, or None -/
def spCommon (C : Addr) : Sp := fun vs H Q _ => ∃ (g1 g2 : Addr) (a1 o1 a2 o2 : Int), vs = [.ref g1, .ref g2] ∧ GridAt C H g1 a1 o1 ∧ GridAt C H g2 a2 o2 ∧ Cm a1 o1 a2 o2 ∧ a1 ≤ big ∧ (¬ (o2 - o1) % gd a1 a2 = 0 → Q .non H) ∧
  ((o2 - o1) % gd a1 a2 = 0 → ∀ p t H', Same H H' → GridAt C H' p (a1 * (a2 / gd a1 a2)) t → 0 ≤ t → t < a1 * (a2 / gd a1 a2) → t % a1 = o1 → t % a2 = o2 → Q (.ref p) H')
section
variable {P : Program} {w : World} {K : PySem.W.Frag} {mg : Str → Option Value} {base : Heap} {C : Addr}
theorem ok_inverse {f : Addr} {fd : FuncData} (F : Fun K "inverse" "inverse" s_inverse f fd) (T : Txt mg) : FnOk P w K mg base CX0 1 f fd P_inverse spInv := by
  refine F.ok sc_inverse (fun vs H Q E h => ?_) (fun cdv A outer s H vs Q E hr h => ?_)
  · obtain ⟨n, m, rfl, _⟩ := h
    rfl
  · obtain ⟨n, m, rfl, m1, ms, co, k⟩ := h
    refine ⟨_, (pss_cons (ps_par (i := 2) (j := 3) (by rfl) sc_inverse.nd rfl rfl (by decide) rfl rfl (pa_cons (pv 1) (pa_cons (pe_op op_mod (pv 0) (pv 1)) pa_nil)) (by rfl))
    (pss_cons (ps_asg (pe_tup (pa_cons pe_int (pa_cons pe_int pa_nil))) (pg_tup rfl (pgs_cons (pg_name (i := 4) sc_inverse.nd rfl (Or.inl rfl)) (pgs_cons (pg_name (i := 5) sc_inverse.nd rfl (Or.inl rfl)) pgs_nil))))
    (pss_cons (ps_while PassesOwn.never (pt_cmpR op_gt (pv 3) pe_int (nomark _)) (pss_cons (ps_set (i := 6) sc_inverse.nd rfl (Or.inl rfl) (pe_op op_fdivW (pv 2) (pv 3)))
    (pss_cons (ps_par (i := 2) (j := 3) (by rfl) sc_inverse.nd rfl rfl (by decide) rfl rfl (pa_cons (pv 3) (pa_cons (pe_op op_sub (pv 2) (pe_op op_mulW (pv 6) (pv 3))) pa_nil)) (by rfl))
    (pss_one (ps_par (i := 4) (j := 5) (by rfl) sc_inverse.nd rfl rfl (by decide) rfl rfl (pa_cons (pv 5) (pa_cons (pe_op op_sub (pv 4) (pe_op op_mulW (pv 6) (pv 5))) pa_nil)) (by rfl))))))
    (pss_one (ps_ret (pe_op op_mod (pv 4) (pv 1))))))), ?_⟩
    refine Bar.rStart (σ := [some (.int n), some (.int m), none, none, none, none, none]) rfl ?_
    walk_at "rd"
    try simp only [List.set_cons_succ, List.set_cons_zero]
    walk_at "rd"
    intro tp htp
    walk_at "rd"
    refine ⟨fun z σ H' => Same H H' ∧ ∃ (l r lt rt : Int) (t : Option V), z = r.toNat ∧ Eu n m l r lt rt ∧ σ = [some (.int n), some (.int m), some (.int l), some (.int r), some (.int lt), some (.int rt), t], ⟨_, fun _ _ z => Bar.lkNew htp z, _, _, _, _, _, rfl, Eu.start m1, rfl⟩, ?_⟩
    rintro z σ H' ⟨SH, l, r, lt, rt, t, rfl, eu, rfl⟩
    obtain ⟨zl, zr, zq, zt⟩ := eu.size ms
    walk_at "rd"
    refine ite2 (fun h => ?_) (fun h => ?_)
    · have r1 : 0 < r := of_decide_eq_true h
      refine ⟨fun σ' H'' => ∃ m', m' < r.toNat ∧ Same H H'' ∧ ∃ (l r lt rt : Int) (t : Option V), m' = r.toNat ∧ Eu n m l r lt rt ∧ σ' = [some (.int n), some (.int m), some (.int l), some (.int r), some (.int lt), some (.int rt), t], fun _ _ h => h, ?_⟩
      walk_at "rd"
      refine Bar.rI_ (divW_ok r1 zr) ?_
      walk_at "rd"
      refine Bar.rI_ (mulW_ok zq zr) ?_
      walk_at "rd"
      try simp only [List.set_cons_succ, List.set_cons_zero]
      walk_at "rd"
      refine Bar.rI_ (mulW_ok zq zt) ?_
      walk_at "rd"
      try simp only [List.set_cons_succ, List.set_cons_zero]
      walk_at "rd"
      have eu2 := eu.step r1
      exact ⟨_, by have := eu2.rl; have := eu2.r0; omega, SH, _, _, _, _, _, rfl, eu2, rfl⟩
    · have r0 : ¬ 0 < r := fun z => h (decide_eq_true z)
      walk_at "rd"
      exact k _ _ SH (Int.emod_nonneg lt (by omega)) (Int.emod_lt_of_pos lt (by omega)) (eu.fin r0 co)
theorem ok_common {f : Addr} {fd : FuncData} (F : Fun K "common" "Grid.common" s_Grid_common f fd) (T : Txt mg) (G : GTxt K C) (g_gcd : mg "gcd" = some (.builtin "math.gcd")) (finverse : Fn P w K mg base "inverse" P_inverse [] 1 spInv)
    (mk_Grid2 : Made P w K mg base "Grid" C P_Grid___init__ [] 1 (spInit C)) (m_Grid_tick_of : Mth P w K mg base C "tick_of" P_Grid_tick_of [] 1 (spTick C)) : FnOk P w K mg base CX0 3 f fd P_Grid_common (spCommon C) := by
  refine F.ok sc_Grid_common (fun vs H Q E h => ?_) (fun cdv A outer s H vs Q E hr h => ?_)
  · obtain ⟨g1, g2, a1, o1, a2, o2, rfl, _⟩ := h
    rfl
  · obtain ⟨g1, g2, a1, o1, a2, o2, rfl, hg1, hg2, cm, ab, k0, k1⟩ := h
    refine ⟨_, (pss_cons (ps_set (i := 2) sc_Grid_common.nd rfl (Or.inl rfl) (pe_callBfun cr_gcd rfl g_gcd (pa_cons (pe_fld (pv 0) rfl) (pa_cons (pe_fld (pv 1) rfl) pa_nil))))
    (pss_cons (ps_set (i := 3) sc_Grid_common.nd rfl (Or.inl rfl) (pe_op op_sub (pe_fld (pv 1) rfl) (pe_fld (pv 0) rfl)))
    (pss_cons (ps_if (pt_cmpR op_ne (pe_op op_mod (pv 3) (pv 2)) pe_int (nomark _)) (pss_one (ps_ret pe_non)) pss_nil)
    (pss_cons (ps_set (i := 4) sc_Grid_common.nd rfl (Or.inl rfl) (pe_op op_fdivW (pe_fld (pv 1) rfl) (pv 2)))
    (pss_cons (ps_set (i := 5) sc_Grid_common.nd rfl (Or.inl rfl) (pe_op op_mod (pe_op op_mulW (pe_op op_fdivW (pv 3) (pv 2)) (pe_fn finverse (hr.mono (by omega)) rfl (pa_cons (pe_op op_fdivW (pe_fld (pv 0) rfl) (pv 2)) (pa_cons (pv 4) pa_nil)))) (pv 4)))
    (pss_one (ps_ret (pe_mk mk_Grid2 (hr.mono (by omega)) rfl (pa_cons (pe_op op_mulW (pe_fld (pv 0) rfl) (pv 4)) (pa_cons (pe_mth m_Grid_tick_of (pv 0) (hr.mono (by omega)) (pa_cons (pv 5) pa_nil)) pa_nil)))))))))), ?_⟩
    refine Bar.rStart (σ := [some (.ref g1), some (.ref g2), none, none, none, none]) rfl ?_
    have gp := gd_pos (b := a2) cm.a1l
    have gs : (gd a1 a2).natAbs < 2 ^ 1400 := by
      refine Nat.lt_of_le_of_lt ?_ (Nat.lt_of_lt_of_le cm.a1s (Nat.pow_le_pow_right (by decide) (show 1326 ≤ 1400 by decide)))
      show (((Nat.gcd a1.natAbs a2.natAbs : Nat) : Int)).natAbs ≤ _
      rw [Int.natAbs_natCast]
      exact Nat.gcd_le_left _ (by have := cm.a1l; omega)
    walk_at "rd"
    refine rFS G hg1 ?_
    walk_at "rd"
    refine rFS G hg2 ?_
    walk_at "rd"
    refine ⟨a1, a2, rfl, ?_⟩
    have eD : ((Nat.gcd a1.natAbs a2.natAbs : Nat) : Int) = gd a1 a2 := rfl
    rw [eD]
    clear eD
    walk_at "rd"
    refine rFO G hg2 ?_
    walk_at "rd"
    refine rFO G hg1 ?_
    walk_at "rd"
    refine ite2 (fun h => ?_) (fun h => ?_)
    · walk_at "rd"
      refine k0 (fun z => ?_)
      rw [decide_eq_true z] at h
      cases h
    have hd : (o2 - o1) % gd a1 a2 = 0 := by
      by_cases z : (o2 - o1) % gd a1 a2 = 0
      · exact z
      · rw [decide_eq_false z] at h
        exact absurd rfl h
    have q1 := quot_pos cm.a1l gp (gd_dl a1 a2)
    have q2 := quot_pos cm.a2l gp (gd_dr a1 a2)
    have s1 := quot_size (d := gd a1 a2) cm.a1l cm.a1s
    have s2 := quot_size (d := gd a1 a2) cm.a2l cm.a2s
    have s3 : ((o2 - o1) / gd a1 a2).natAbs < 2 ^ 1400 := by
      refine Nat.lt_of_le_of_lt (Int.natAbs_ediv_le_natAbs _ _) (Nat.lt_of_lt_of_le (show (o2 - o1).natAbs < 2 ^ 1326 from ?_) (Nat.pow_le_pow_right (by decide) (show 1326 ≤ 1400 by decide)))
      by_cases z : (o2 - o1).natAbs ≤ a1.natAbs
      · exact Nat.lt_of_le_of_lt z cm.a1s
      · exact Nat.lt_of_le_of_lt (by have := cm.o1l; have := cm.o1u; have := cm.o2l; have := cm.o2u; omega) cm.a2s
    walk_at "rd"
    refine rFS G hg2 ?_
    walk_at "rd"
    refine Bar.rI_ (divW_ok (by omega) gs) ?_
    walk_at "rd"
    refine Bar.rI_ (divW_ok (by omega) gs) ?_
    walk_at "rd"
    refine rFS G hg1 ?_
    walk_at "rd"
    refine Bar.rI_ (divW_ok (by omega) gs) ?_
    walk_at "rd"
    refine ⟨_, _, rfl, q2, s2, gd_co cm.a1l, fun inv HX SX i0 i1 hi => ?_⟩
    replace hg1 := hg1.same SX
    replace hg2 := hg2.same SX
    have is : inv.natAbs < 2 ^ 1400 := Nat.lt_of_le_of_lt (by omega) s2
    walk_at "rd"
    refine Bar.rI_ (mulW_ok s3 is) ?_
    walk_at "rd"
    have ns : ((o2 - o1) / gd a1 a2 * inv % (a2 / gd a1 a2)).natAbs < 2 ^ 1400 := by
      have n0 := Int.emod_nonneg ((o2 - o1) / gd a1 a2 * inv) (show a2 / gd a1 a2 ≠ 0 by omega)
      have n1 := Int.emod_lt_of_pos ((o2 - o1) / gd a1 a2 * inv) (show 0 < a2 / gd a1 a2 by omega)
      exact Nat.lt_of_le_of_lt (by omega) s2
    have a1t : a1.natAbs < 2 ^ 1400 := Nat.lt_of_lt_of_le cm.a1s (Nat.pow_le_pow_right (by decide) (by decide))
    refine rFS G hg1 ?_
    walk_at "rd"
    refine Bar.rI_ (mulW_ok a1t s2) ?_
    walk_at "rd"
    refine rMG hg1 (by decide) (by decide) ?_
    walk_at "rd"
    refine ⟨g1, a1, o1, _, rfl, hg1, cm.a1l, ab, mulW_ok a1t ns, ?_⟩
    walk_at "rd"
    obtain ⟨t0, t1, t2, t3⟩ := cm_tick cm hd hi _ rfl
    have l1 : 1 ≤ a1 * (a2 / gd a1 a2) := by
      have := Int.mul_le_mul_of_nonneg_left q2 (show 0 ≤ a1 by have := cm.a1l; omega)
      have := cm.a1l
      omega
    refine mkG l1 fun p H2 hp S G2 => ?_
    rw [Int.emod_eq_of_lt t0 t1] at G2
    walk_at "rd"
    exact k1 hd p _ H2 (fun b u z => S _ _ (SX _ _ z)) G2 t0 t1 t2 t3
end

end Lw
namespace Lw
open PySem L2 Bar

/-! ### inclusion and exclusion -/
def inC (c : Int × Int) (x : Int) : Bool := (x - c.2) % c.1 == 0
abbrev Sgn := List (Int × (Int × Int))
def ssum (S : Sgn) (x : Int) : Int := (S.map fun s => if inC s.2 x then s.1 else 0).sum
def gapI (ps : List (Int × Int)) (x : Int) : Int := if hits ps x then 0 else 1
theorem ssum_app (S J : Sgn) (x : Int) : ssum (S ++ J) x = ssum S x + ssum J x := by
  unfold ssum
  rw [List.map_append, List.sum_append_int]
theorem ssum_one (s : Int × (Int × Int)) (x : Int) : ssum [s] x = if inC s.2 x then s.1 else 0 := by
  unfold ssum
  rw [List.map_cons, List.map_nil, List.sum_cons, List.sum_nil, Int.add_zero]
/-- J is what S has in common with p, the signs turned -/
def JoinS (S : Sgn) (p : Int × Int) (J : Sgn) : Prop := ∀ x, ssum J x = if inC p x then -(ssum S x) else 0
theorem join_nil (p : Int × Int) : JoinS [] p [] := fun x => by
  show (0 : Int) = if inC p x then -0 else 0
  split <;> rfl
theorem join_no {S J : Sgn} {p : Int × Int} {s : Int × (Int × Int)} (h : JoinS S p J) (no : ∀ x, (inC s.2 x && inC p x) = false) : JoinS (S ++ [s]) p J := fun x => by
  rw [h x, ssum_app, ssum_one]
  have n := no x
  cases a : inC p x
  · rfl
  · rw [a, Bool.and_true] at n
    rw [n]
    simp
theorem join_yes {S J : Sgn} {p m : Int × Int} {s : Int × (Int × Int)} (h : JoinS S p J) (yes : ∀ x, inC m x = (inC s.2 x && inC p x)) : JoinS (S ++ [s]) p (J ++ [(-s.1, m)]) := fun x => by
  rw [ssum_app, ssum_app, h x, ssum_one, ssum_one]
  show _ + (if inC m x then -s.1 else 0) = _
  rw [yes x]
  cases a : inC p x <;> cases b : inC s.2 x <;> simp <;> omega
theorem hits_snoc (ps : List (Int × Int)) (p : Int × Int) (x : Int) : hits (ps ++ [p]) x = (hits ps x || inC p x) := by
  rw [hits_app]
  congr 1
  show (((x - p.2) % p.1 == 0) || false) = _
  rw [Bool.or_false]
  rfl
theorem gap_next {ps : List (Int × Int)} {S J : Sgn} {p : Int × Int} (h : ∀ x, ssum S x = gapI ps x) (j : JoinS S p J) (x : Int) : ssum (S ++ J) x = gapI (ps ++ [p]) x := by
  rw [ssum_app, j x, h x]
  unfold gapI
  rw [hits_snoc]
  cases a : inC p x <;> cases b : hits ps x <;> simp
theorem gap_start (x : Int) : ssum [(1, (1, 0))] x = gapI [] x := by
  rw [ssum_one]
  have : inC (1, 0) x = true := beq_iff_eq.mpr (Int.emod_one _)
  rw [this]
  rfl
theorem inC_iff {c : Int × Int} {x : Int} (h0 : 0 ≤ c.2) (h1 : c.2 < c.1) : inC c x = decide (x % c.1 = c.2) := by
  have e := in_iff x c.2 c.1
  rw [Int.emod_eq_of_lt h0 h1] at e
  rw [e]
  unfold inC
  cases q : (x - c.2) % c.1 == 0
  · exact (decide_eq_false (beq_eq_false_iff_ne.mp q)).symm
  · exact (decide_eq_true (beq_iff_eq.mp q)).symm
theorem inC_no {a1 o1 a2 o2 x : Int} (h : Cm a1 o1 a2 o2) (no : ¬ (o2 - o1) % gd a1 a2 = 0) : (inC (a1, o1) x && inC (a2, o2) x) = false := by
  rw [inC_iff (c := (a1, o1)) h.o1l h.o1u, inC_iff (c := (a2, o2)) h.o2l h.o2u]
  refine Bool.eq_false_iff.mpr fun z => no ?_
  rw [Bool.and_eq_true, decide_eq_true_eq, decide_eq_true_eq] at z
  exact meet_dvd z.1 z.2
theorem inC_yes {a1 o1 a2 o2 t x : Int} (h : Cm a1 o1 a2 o2) (t0 : 0 ≤ t) (t1 : t < a1 * (a2 / gd a1 a2)) (m1 : t % a1 = o1) (m2 : t % a2 = o2) : inC (a1 * (a2 / gd a1 a2), t) x = (inC (a1, o1) x && inC (a2, o2) x) := by
  rw [inC_iff (c := (a1, o1)) h.o1l h.o1u, inC_iff (c := (a2, o2)) h.o2l h.o2u, inC_iff (c := (a1 * (a2 / gd a1 a2), t)) t0 t1]
  show decide (x % (a1 * (a2 / gd a1 a2)) = t) = (decide (x % a1 = o1) && decide (x % a2 = o2))
  rw [← Bool.decide_and]
  exact decide_eq_decide.mpr (cm_iff h t0 t1 m1 m2)
def gapsN (ps : List (Int × Int)) (lo : Int) : Nat → Int
  | 0 => 0
  | n + 1 => gapsN ps lo n + gapI ps (lo + (n : Int))
def gapsB (ps : List (Int × Int)) (lo hi : Int) : Int := if hi ≤ lo then 0 else gapsN ps lo (hi - lo).toNat
theorem sum_zero {α : Type} : ∀ (l : List α) (f : α → Int), (∀ a ∈ l, f a = 0) → (l.map f).sum = 0
  | [], _, _ => rfl
  | a :: l, f, h => by
    rw [List.map_cons, List.sum_cons, h a (List.mem_cons_self ..), sum_zero l f fun b hb => h b (List.mem_cons_of_mem _ hb)]
    rfl
theorem sum_add' {α : Type} : ∀ (l : List α) (f g : α → Int), (l.map fun a => f a + g a).sum = (l.map f).sum + (l.map g).sum
  | [], _, _ => rfl
  | a :: l, f, g => by
    rw [List.map_cons, List.map_cons, List.map_cons, List.sum_cons, List.sum_cons, List.sum_cons, sum_add' l f g]
    omega
theorem count_eq {S : Sgn} {ps : List (Int × Int)} {lo : Int} (h : ∀ x, ssum S x = gapI ps x) : ∀ w : Nat, (S.map fun s => s.1 * (cnt s.2.1 s.2.2 lo w : Int)).sum = gapsN ps lo w := by
  intro w
  induction w with
  | zero => exact sum_zero _ _ fun s _ => by show s.1 * ((0 : Nat) : Int) = 0; omega
  | succ w ih =>
    show _ = gapsN ps lo w + gapI ps (lo + (w : Int))
    rw [← ih, ← h, ← show _ = ssum S (lo + (w : Int)) from rfl]
    unfold ssum
    rw [← sum_add']
    congr 1
    refine List.map_congr_left fun s _ => ?_
    unfold inC
    by_cases z : (lo + (w : Int) - s.2.2) % s.2.1 = 0
    · rw [cnt_yes z, beq_iff_eq.mpr z]
      rw [Int.natCast_add, Int.mul_add]
      simp
    · rw [cnt_no z, beq_eq_false_iff_ne.mpr z]
      simp
theorem bw_cnt {a b lo hi : Int} (h0 : 0 ≤ b) (h1 : b < a) (h : ¬ hi ≤ lo) : bw a b lo hi = (cnt a b lo (hi - lo).toNat : Int) := by
  rw [cnt_bw (by omega), Int.emod_eq_of_lt h0 h1, show lo + (((hi - lo).toNat : Nat) : Int) = hi by omega]
theorem count_bw {S : Sgn} {ps : List (Int × Int)} {lo hi : Int} (h : ∀ x, ssum S x = gapI ps x) (ok : ∀ s ∈ S, 0 ≤ s.2.2 ∧ s.2.2 < s.2.1) : (S.map fun s => s.1 * bw s.2.1 s.2.2 lo hi).sum = gapsB ps lo hi := by
  unfold gapsB
  by_cases z : hi ≤ lo
  · rw [if_pos z]
    refine sum_zero _ _ fun s _ => ?_
    unfold bw
    rw [if_pos z, Int.mul_zero]
  · rw [if_neg z, ← count_eq h]
    congr 1
    refine List.map_congr_left fun s hs => ?_
    rw [bw_cnt (ok s hs).1 (ok s hs).2 z]
theorem bw_size {a b lo hi : Int} (h0 : 0 ≤ b) (h1 : b < a) : 0 ≤ bw a b lo hi ∧ (bw a b lo hi = 0 ∨ bw a b lo hi ≤ hi - lo) := by
  by_cases z : hi ≤ lo
  · unfold bw
    rw [if_pos z]
    exact ⟨Int.le_refl _, .inl rfl⟩
  · rw [bw_cnt h0 h1 z]
    have := cnt_le (a := a) (b := b) (lo := lo) (hi - lo).toNat
    omega
/-- the terms after n lists' members -/
def OkS (n : Nat) (S : Sgn) : Prop := ∀ s ∈ S, (s.1 = 1 ∨ s.1 = -1) ∧ 1 ≤ s.2.1 ∧ s.2.1 ≤ lim ^ n ∧ 0 ≤ s.2.2 ∧ s.2.2 < s.2.1
theorem lim_pow {n : Nat} (h : n ≤ 6) : lim ^ n ≤ big := by
  have l1 : (1 : Int) ≤ lim := by decide
  have step : ∀ m : Nat, lim ^ n ≤ lim ^ (n + m) := fun m => by
    induction m with
    | zero => exact Int.le_refl _
    | succ m ih =>
      have p0 : (0 : Int) ≤ lim ^ (n + m) := Int.pow_nonneg (by decide)
      have := Int.mul_le_mul_of_nonneg_left l1 p0
      rw [Int.mul_one, ← Int.pow_succ] at this
      exact Int.le_trans ih this
  have e : n + (6 - n) = 6 := by omega
  have := step (6 - n)
  rw [e] at this
  exact Int.le_trans this (by decide)
theorem big_size {x : Int} (h0 : 1 ≤ x) (h : x ≤ big) : x.natAbs < 2 ^ 1326 := log_big (by omega) h
theorem OkS.cm {n : Nat} {S : Sgn} (h : OkS n S) (n6 : n ≤ 6) {s : Int × (Int × Int)} (hs : s ∈ S) {p : Int × Int} (p1 : 1 ≤ p.1) (p2 : p.1 ≤ lim) (p3 : 0 ≤ p.2) (p4 : p.2 < p.1) : Cm s.2.1 s.2.2 p.1 p.2 ∧ s.2.1 ≤ big := by
  obtain ⟨_, h1, h2, h3, h4⟩ := h s hs
  have b := Int.le_trans h2 (lim_pow n6)
  exact ⟨⟨h1, p1, h3, h4, p3, p4, big_size h1 b, big_size p1 (Int.le_trans p2 lim_big)⟩, b⟩
theorem lcm_lim {n : Nat} {a1 a2 : Int} (h1 : 1 ≤ a1) (h2 : a1 ≤ lim ^ n) (h3 : 1 ≤ a2) (h4 : a2 ≤ lim) : 1 ≤ a1 * (a2 / gd a1 a2) ∧ a1 * (a2 / gd a1 a2) ≤ lim ^ (n + 1) := by
  have gp := gd_pos (b := a2) h1
  have q1 := quot_pos h3 gp (gd_dr a1 a2)
  have q2 : a2 / gd a1 a2 ≤ a2 := Int.ediv_le_self _ (by omega)
  have m1 : a1 * 1 ≤ a1 * (a2 / gd a1 a2) := Int.mul_le_mul_of_nonneg_left q1 (by omega)
  have m2 : a1 * (a2 / gd a1 a2) ≤ a1 * lim := Int.mul_le_mul_of_nonneg_left (Int.le_trans q2 h4) (by omega)
  have m3 : a1 * lim ≤ lim ^ n * lim := Int.mul_le_mul_of_nonneg_right h2 (by decide)
  rw [Int.pow_succ]
  exact ⟨by omega, Int.le_trans m2 m3⟩
theorem OkS.app {n : Nat} {S J : Sgn} (h : OkS n S) (j : OkS (n + 1) J) : OkS (n + 1) (S ++ J) := fun s hs => by
  rcases List.mem_append.mp hs with hs | hs
  · obtain ⟨h0, h1, h2, h3⟩ := h s hs
    refine ⟨h0, h1, Int.le_trans h2 ?_, h3⟩
    have p0 : (0 : Int) ≤ lim ^ n := Int.pow_nonneg (by decide)
    have := Int.mul_le_mul_of_nonneg_left (show (1 : Int) ≤ lim by decide) p0
    rwa [Int.mul_one, ← Int.pow_succ] at this
  · exact j s hs

end Lw
namespace Lw
open PySem L2 Bar

/-! ### the terms with which gaps are counted -/
theorem pg_tupK {X : Cx} {K : PySem.W.Frag} {pos : Pos} {es : List Expr} {k : Nat} {t : TGs} {n : Nat} (hK : X.K = K) (hc : X.calm = true) (h : PGs X es t) (h1 : (assignEach es X.env).length = n := by rfl) (h2 : List.findIdx? (fun x => x.fst) (assignEach es X.env) = none := by rfl) : PG X (Expr.Tuple es k pos) (gTup K n t) := by
  subst hK
  exact pg_tup hc h h1 h2
def SgE (C : Addr) (H : Hp) (ts : List Addr) (S : Sgn) : Prop := ts.length = S.length ∧ ∀ (i : Nat) t, ts[i]? = some t → ∃ s g, S[i]? = some s ∧ H t = some (.tup [.int s.1, .ref g]) ∧ GridAt C H g s.2.1 s.2.2
def JnV (C : Addr) (H : Hp) (v : V) : Option (Int × Int) → Prop
  | none => v = .non
  | some c => ∃ g, v = .ref g ∧ GridAt C H g c.1 c.2
def JnE (C : Addr) (H : Hp) (us : List Addr) (os : List (Int × Option (Int × Int))) : Prop := us.length = os.length ∧ ∀ (i : Nat) u, us[i]? = some u → ∃ o v, os[i]? = some o ∧ H u = some (.tup [.int o.1, v]) ∧ JnV C H v o.2
def picks (os : List (Int × Option (Int × Int))) : Sgn := os.filterMap fun o => o.2.map fun c => (o.1, c)
theorem picks_snoc (os : List (Int × Option (Int × Int))) (o : Int × Option (Int × Int)) : picks (os ++ [o]) = picks os ++ (o.2.map fun c => (o.1, c)).toList := by
  unfold picks
  rw [List.filterMap_append]
  congr 1
section
variable {C : Addr} {H H' : Hp} {ts us : List Addr} {S J : Sgn} {os : List (Int × Option (Int × Int))}
theorem GridAt.put {D : Addr} {xs ys : List V} {g : Addr} {st o : Int} (hD : H D = some (.lst xs)) (h : GridAt C H g st o) : GridAt C (upd H D (.lst ys)) g st o := by
  obtain ⟨dx, h⟩ := h
  exact ⟨dx, by rw [upd_ne (ne_of h hD (by intro w; cases w))]; exact h⟩
theorem tup_put {D t : Addr} {xs ys zs : List V} (hD : H D = some (.lst xs)) (h : H t = some (.tup zs)) : upd H D (.lst ys) t = some (.tup zs) := by
  rw [upd_ne (ne_of h hD (by intro w; cases w))]
  exact h
theorem SgE.same (K : Same H H') (h : SgE C H ts S) : SgE C H' ts S := ⟨h.1, fun i t e => by
  obtain ⟨s, g, e1, e2, G⟩ := h.2 i t e
  exact ⟨s, g, e1, K _ _ e2, G.same K⟩⟩
theorem SgE.put {D : Addr} {xs ys : List V} (hD : H D = some (.lst xs)) (h : SgE C H ts S) : SgE C (upd H D (.lst ys)) ts S := ⟨h.1, fun i t e => by
  obtain ⟨s, g, e1, e2, G⟩ := h.2 i t e
  exact ⟨s, g, e1, tup_put hD e2, G.put hD⟩⟩
theorem SgE.snoc {t g : Addr} {s : Int × (Int × Int)} (h : SgE C H ts S) (ht : H t = some (.tup [.int s.1, .ref g])) (G : GridAt C H g s.2.1 s.2.2) : SgE C H (ts ++ [t]) (S ++ [s]) := by
  refine ⟨by rw [List.length_append, List.length_append, h.1]; rfl, fun i u e => ?_⟩
  by_cases il : i < ts.length
  · rw [List.getElem?_append_left il] at e
    obtain ⟨s', g', e1, w⟩ := h.2 i u e
    exact ⟨s', g', by rw [List.getElem?_append_left (by rw [← h.1]; exact il)]; exact e1, w⟩
  · have := (List.getElem?_eq_some_iff.mp e).1
    rw [List.length_append] at this
    have ei : i = ts.length := by
      have : i < ts.length + 1 := this
      omega
    subst ei
    rw [List.getElem?_append_right (Nat.le_refl _), Nat.sub_self] at e
    cases e
    exact ⟨s, g, by rw [List.getElem?_append_right (by rw [h.1]; exact Nat.le_refl _), h.1, Nat.sub_self]; rfl, ht, G⟩
theorem SgE.app (h : SgE C H ts S) (j : SgE C H us J) : SgE C H (ts ++ us) (S ++ J) := by
  refine ⟨by rw [List.length_append, List.length_append, h.1, j.1], fun i t e => ?_⟩
  by_cases il : i < ts.length
  · rw [List.getElem?_append_left il] at e
    obtain ⟨s, g, e1, w⟩ := h.2 i t e
    exact ⟨s, g, by rw [List.getElem?_append_left (by rw [← h.1]; exact il)]; exact e1, w⟩
  · rw [List.getElem?_append_right (by omega)] at e
    obtain ⟨s, g, e1, w⟩ := j.2 _ t e
    exact ⟨s, g, by rw [List.getElem?_append_right (by rw [← h.1]; omega), ← h.1]; exact e1, w⟩
theorem JnV.same {v : V} {o : Option (Int × Int)} (K : Same H H') (h : JnV C H v o) : JnV C H' v o := by
  cases o with
  | none => exact h
  | some c =>
    obtain ⟨g, e, G⟩ := h
    exact ⟨g, e, G.same K⟩
theorem JnV.put {D : Addr} {xs ys : List V} {v : V} {o : Option (Int × Int)} (hD : H D = some (.lst xs)) (h : JnV C H v o) : JnV C (upd H D (.lst ys)) v o := by
  cases o with
  | none => exact h
  | some c =>
    obtain ⟨g, e, G⟩ := h
    exact ⟨g, e, G.put hD⟩
theorem JnE.same (K : Same H H') (h : JnE C H us os) : JnE C H' us os := ⟨h.1, fun i t e => by
  obtain ⟨o, v, e1, e2, G⟩ := h.2 i t e
  exact ⟨o, v, e1, K _ _ e2, G.same K⟩⟩
theorem JnE.put {D : Addr} {xs ys : List V} (hD : H D = some (.lst xs)) (h : JnE C H us os) : JnE C (upd H D (.lst ys)) us os := ⟨h.1, fun i t e => by
  obtain ⟨o, v, e1, e2, G⟩ := h.2 i t e
  exact ⟨o, v, e1, tup_put hD e2, G.put hD⟩⟩
theorem JnE.snoc {u : Addr} {o : Int × Option (Int × Int)} {v : V} (h : JnE C H us os) (hu : H u = some (.tup [.int o.1, v])) (G : JnV C H v o.2) : JnE C H (us ++ [u]) (os ++ [o]) := by
  refine ⟨by rw [List.length_append, List.length_append, h.1]; rfl, fun i t e => ?_⟩
  by_cases il : i < us.length
  · rw [List.getElem?_append_left il] at e
    obtain ⟨o', v', e1, w⟩ := h.2 i t e
    exact ⟨o', v', by rw [List.getElem?_append_left (by rw [← h.1]; exact il)]; exact e1, w⟩
  · have := (List.getElem?_eq_some_iff.mp e).1
    rw [List.length_append] at this
    have ei : i = us.length := by
      have : i < us.length + 1 := this
      omega
    subst ei
    rw [List.getElem?_append_right (Nat.le_refl _), Nat.sub_self] at e
    cases e
    exact ⟨o, v, by rw [List.getElem?_append_right (by rw [h.1]; exact Nat.le_refl _), h.1, Nat.sub_self]; rfl, hu, G⟩
end
theorem OkS.snoc {n : Nat} {S : Sgn} {s : Int × (Int × Int)} (h : OkS n S) (k : (s.1 = 1 ∨ s.1 = -1) ∧ 1 ≤ s.2.1 ∧ s.2.1 ≤ lim ^ n ∧ 0 ≤ s.2.2 ∧ s.2.2 < s.2.1) : OkS n (S ++ [s]) := fun q hq => by
  rcases List.mem_append.mp hq with hq | hq
  · exact h q hq
  · rw [List.mem_singleton.mp hq]
    exact k
/-- all steps divide one number that is not large -/
def DvB (n : Nat) (B : Int) (S : Sgn) : Prop := 1 ≤ B ∧ B ≤ lim ^ n ∧ ∀ s ∈ S, s.2.1 ∣ B
theorem lim_mono {n m : Nat} (h : n ≤ m) : lim ^ n ≤ lim ^ m := by
  have l1 : (1 : Int) ≤ lim := by decide
  have step : ∀ k : Nat, lim ^ n ≤ lim ^ (n + k) := fun k => by
    induction k with
    | zero => exact Int.le_refl _
    | succ k ih =>
      have p0 : (0 : Int) ≤ lim ^ (n + k) := Int.pow_nonneg (by decide)
      have := Int.mul_le_mul_of_nonneg_left l1 p0
      rw [Int.mul_one, ← Int.pow_succ] at this
      exact Int.le_trans ih this
  have := step (m - n)
  rwa [show n + (m - n) = m by omega] at this
def DvS (S : Sgn) : Prop := ∃ B : Int, 1 ≤ B ∧ B ≤ lim ^ 6 ∧ ∀ s ∈ S, s.2.1 ∣ B
theorem DvB.next {n : Nat} {B : Int} {S J : Sgn} {a : Int} (h : DvB n B S) (a1 : 1 ≤ a) (a2 : a ≤ lim) (j : ∀ s ∈ J, s.2.1 ∣ B * a) : DvB (n + 1) (B * a) (S ++ J) := by
  obtain ⟨b1, b2, b3⟩ := h
  have m1 : B * 1 ≤ B * a := Int.mul_le_mul_of_nonneg_left a1 (by omega)
  have m2 : B * a ≤ B * lim := Int.mul_le_mul_of_nonneg_left a2 (by omega)
  have m3 : B * lim ≤ lim ^ n * lim := Int.mul_le_mul_of_nonneg_right b2 (by decide)
  refine ⟨by omega, ?_, fun s hs => ?_⟩
  · rw [Int.pow_succ]
    exact Int.le_trans m2 m3
  · rcases List.mem_append.mp hs with hs | hs
    · exact Int.dvd_mul_of_dvd_left (b3 s hs)
    · exact j s hs
theorem lcm_dvd {a1 a2 B : Int} (h : a1 ∣ B) : a1 * (a2 / gd a1 a2) ∣ B * a2 := by
  obtain ⟨x, hx⟩ := h
  obtain ⟨y, hy⟩ := gd_dr a1 a2
  by_cases z : gd a1 a2 = 0
  · rw [z, Int.ediv_zero, Int.mul_zero]
    rw [z, Int.zero_mul] at hy
    rw [hy, Int.mul_zero]
    exact Int.dvd_refl 0
  · have e : a2 / gd a1 a2 = y := Int.ediv_eq_of_eq_mul_right z hy
    rw [e]
    refine ⟨x * gd a1 a2, ?_⟩
    conv => lhs; rw [hx, hy]
    have q : gd a1 (gd a1 a2 * y) = gd a1 a2 := by rw [← hy]
    grind
abbrev Lim (ps : List (Int × Int)) : Prop := ∀ p ∈ ps, p.1 ≤ lim
def spSigned (C : Addr) : Sp := fun vs H Q _ => ∃ (L : Addr) (gs : List Addr) (ps : List (Int × Int)), vs = [.ref L] ∧ GridsS C H L gs ps ∧ Lim ps ∧ ps.length ≤ 6 ∧
  ∀ D ts S H', Same H H' → H' D = some (.lst (ts.map V.ref)) → SgE C H' ts S → (∀ x, ssum S x = gapI ps x) → OkS 6 S → DvS S → S.length ≤ 64 → Q (.ref D) H'
def spCountB (C : Addr) : Sp := fun vs H Q _ => ∃ (D : Addr) (ts : List Addr) (S : Sgn) (ps : List (Int × Int)) (lo hi : Int), vs = [.ref D, .int lo, .int hi] ∧ H D = some (.lst (ts.map V.ref)) ∧ SgE C H ts S ∧ (∀ x, ssum S x = gapI ps x) ∧ OkS 6 S ∧ S.length ≤ 64 ∧ (hi - lo).natAbs < 2 ^ 1400 ∧ ∀ H', Same H H' → Q (.int (gapsB ps lo hi)) H'
def spGapsX (C CT : Addr) : Sp := fun vs H Q E => ∃ (L : Addr) (lo hi : Int), vs = [.ref L, .int lo, .int hi] ∧
  ((∃ gs ps, GridsS C H L gs ps ∧ Lim ps ∧ ps.length ≤ 6 ∧ (hi - lo).natAbs < 2 ^ 1400 ∧ ∀ H', Same H H' → Q (.int (gapsB ps lo hi)) H') ∨
   ∃ xs, SeqH H L xs ∧ 6 < xs.length ∧ ∀ d H', H d = none → Same H H' → H' d = some (.xd [("most", .int 6), ("kind", .str "grids")]) → E (.ref CT) (some d) H')
section
variable {P : Program} {w : World} {K : PySem.W.Frag} {mg : Str → Option Value} {base : Heap} {C : Addr}
theorem ok_signed {f : Addr} {fd : FuncData} (F : Fun K "signed_commons" "signed_commons" s_signed_commons f fd) (T : Txt mg) (g_Grid : mg "Grid" = some (.ref C)) (mk_Grid1 : Made P w K mg base "Grid" C P_Grid___init__ [.int 0] 1 (spInit C)) (sm_Grid_common : SMth P w K mg base C "common" P_Grid_common 3 (spCommon C)) : FnOk P w K mg base CX0 4 f fd P_signed_commons (spSigned C) := by
  refine F.ok sc_signed_commons (fun vs H Q E h => ?_) (fun cdv A outer s H vs Q E hr h => ?_)
  · obtain ⟨L, gs, ps, rfl, _⟩ := h
    rfl
  · obtain ⟨L, gs, ps, rfl, GA, lm, l6, k⟩ := h
    have lg := GA.2.1
    have item : ∀ {H' : Hp} {i : Nat} {v : V}, Same H H' → (gs.map V.ref)[i]? = some v → ∃ g p, v = .ref g ∧ ps[i]? = some p ∧ GridAt C H' g p.1 p.2 ∧ 1 ≤ p.1 ∧ p.1 ≤ lim ∧ 0 ≤ p.2 ∧ p.2 < p.1 := fun S e => by
      rw [List.getElem?_map] at e
      obtain ⟨g, eg, rfl⟩ := Option.map_eq_some_iff.mp e
      obtain ⟨p, ep, Gp, a, b, c⟩ := GA.2.2 _ g eg
      exact ⟨g, p, rfl, ep, Gp.same S, a, lm p (List.mem_of_getElem? ep), b, c⟩
    rcases id GA.1 with hL | hL
    · refine ⟨_, (pss_cons (ps_set (i := 1) sc_signed_commons.nd rfl (Or.inl rfl) (pe_lst (pa_cons (pe_tup (pa_cons pe_int (pa_cons (pe_mk mk_Grid1 (hr.mono (by omega)) rfl (pa_cons pe_int pa_nil)) pa_nil))) pa_nil)))
    (pss_cons (ps_for PassesOwn.never rfl  (pi_list (pv 0)) (pg_name (i := 2) sc_signed_commons.nd rfl (Or.inr rfl)) (pss_cons (ps_setLc (i := 3) (own := [("sign", 4), ("before", 5)]) rfl sc_signed_commons.nd rfl rfl (sw_true rfl rfl rfl (by decide +kernel)) (pi_list (pv 1)) (blkOk_by (own := [("sign", 4), ("before", 5)]) (N := N_signed_commons) (sc := defScope s_signed_commons) (by decide +kernel)) (fun _ _ _ _ _ => pg_tupK (K := K) (n := 2) rfl rfl (pgs_cons (pg_name (i := 4) sc_signed_commons.nd rfl (Or.inl rfl)) (pgs_cons (pg_name (i := 5) sc_signed_commons.nd rfl (Or.inl rfl)) pgs_nil))) (fun _ _ _ _ _ => pts_nil) (fun _ _ _ _ _ => (pe_tup (pa_cons (pe_un un_neg (pv 4)) (pa_cons (pe_smth sm_Grid_common (hr.mono (by omega)) (pe_glob (v := .ref C) rfl g_Grid rfl) (pa_cons (pv 5) (pa_cons (pv 2) pa_nil))) pa_nil)))))
    (pss_one (ps_set (i := 1) sc_signed_commons.nd rfl (Or.inl rfl) (pe_op op_cat (pv 1) (pe_lc (own := [("sign", 4), ("both", 6)]) rfl sc_signed_commons.nd (pi_list (pv 3)) (blkOk_by (own := [("sign", 4), ("both", 6)]) (N := N_signed_commons) (sc := defScope s_signed_commons) (by decide +kernel)) (fun _ _ _ _ _ => pg_tupK (K := K) (n := 2) rfl rfl (pgs_cons (pg_name (i := 4) sc_signed_commons.nd rfl (Or.inl rfl)) (pgs_cons (pg_name (i := 6) sc_signed_commons.nd rfl (Or.inl rfl)) pgs_nil))) (fun _ _ _ _ _ => (pts_one (pt_cmpR o_notN (pv 6) pe_non (nomark _)))) (fun _ _ _ _ _ => (pe_tup (pa_cons (pv 4) (pa_cons (pv 6) pa_nil))))))))))
    (pss_one (ps_ret (pv 1))))), ?_⟩
      refine Bar.rStart (σ := [some (.ref L), none, none, none, none, none, none]) rfl ?_
      walk_at "rd"
      refine mkG (show (1 : Int) ≤ 1 by decide) fun g0 H1 hg0 S1 G1 => ?_
      walk_at "rd"
      intro t0 ht0
      walk_at "rd"
      intro D0 hD0
      walk_at "rd"
      refine Bar.forL (xs := gs.map V.ref) (fun i σ H' => Same H H' ∧ ∃ (D : Addr) (ts : List Addr) (S : Sgn) (y z : Option V), H' D = some (.lst (ts.map V.ref)) ∧ SgE C H' ts S ∧ (∀ x, ssum S x = gapI (ps.take i) x) ∧ OkS i S ∧ (∃ B, DvB i B S) ∧ S.length ≤ 2 ^ i ∧ σ = [some (.ref L), some (.ref D), y, z, none, none, none]) (SqL.of (Bar.lkNew hD0 (Bar.lkNew ht0 (S1 _ _ hL)))) ?_ (fun i σ H2 _ ⟨S, _⟩ => SqL.of (S _ _ hL)) ?_ ?_
      · refine ⟨fun _ _ z => Bar.lkNew hD0 (Bar.lkNew ht0 (S1 _ _ z)), D0, [t0], [(1, (1, 0))], _, _, upd_same, ⟨rfl, fun i t e => ?_⟩, fun x => gap_start x, fun s hs => ?_, ⟨1, by decide, by decide, fun s hs => by rw [List.mem_singleton.mp hs]; exact Int.dvd_refl 1⟩, Nat.le_refl 1, rfl⟩
        · cases i with
          | zero =>
            cases e
            exact ⟨_, g0, rfl, Bar.lkNew hD0 upd_same, (G1.new ht0).new hD0⟩
          | succ i => cases e
        · rw [List.mem_singleton.mp hs]
          exact ⟨.inl rfl, by decide, by decide, by decide, by decide⟩
      · rintro i v σ H2 hv ⟨S2, D, ts, S, y, z, hD, SE, gp, ok, dv, l2, rfl⟩
        obtain ⟨g, p, rfl, ep, Gp, p1, p2, p3, p4⟩ := item S2 hv
        have i6 : i < 6 := by
          have := (List.getElem?_eq_some_iff.mp ep).1
          omega
        have l64 : S.length ≤ 64 := Nat.le_trans l2 (pow_six (by omega))
        have lt := SE.1
        obtain ⟨B, dv⟩ := dv
        walk_at "rd"
        refine Bar.lcL (xs := ts.map V.ref) (τ := [some (.ref L), some (.ref D), some (.ref g), z, none, none, none]) rfl (SqL.of hD) (fun D1 hD1 => ⟨fun j H' => Same H2 H' ∧ ∃ us os, H' D1 = some (.lst (us.map V.ref)) ∧ JnE C H' us os ∧ us.length = j ∧ JoinS (S.take j) p (picks os) ∧ OkS (i + 1) (picks os) ∧ ∀ s ∈ picks os, s.2.1 ∣ B * p.1,
          ⟨fun _ _ y => Bar.lkNew hD1 y, [], [], upd_same, ⟨rfl, fun i t e => by cases e⟩, rfl, join_nil p, (fun s hs => by cases hs), (fun s hs => by cases hs)⟩, fun j H' _ ⟨K, _⟩ => SqL.of (K _ _ hD), ?_, ?_⟩)
        · rintro j v H3 hv ⟨K3, us, os, hd, JE, lu, jn, oj, dj⟩
          rw [List.getElem?_map] at hv
          obtain ⟨t, et, rfl⟩ := Option.map_eq_some_iff.mp hv
          obtain ⟨s, gb, es, ht, G⟩ := SE.2 j t et
          have jl := (List.getElem?_eq_some_iff.mp es).1
          obtain ⟨cm, sb⟩ := ok.cm (by omega) (List.mem_of_getElem? es) p1 p2 p3 p4
          obtain ⟨sg, a1, a2, a3, a4⟩ := ok s (List.mem_of_getElem? es)
          have ej : S.take (j + 1) = S.take j ++ [s] := by rw [List.take_add_one, es]; rfl
          have Gb := G.same K3
          have Gp3 := Gp.same K3
          refine rTupU (SqT.of (K3 _ _ ht)) rfl ?_
          walk_at "rd"
          refine ⟨rfl, ?_⟩
          walk_at "rd"
          refine ⟨rfl, ?_⟩
          walk_at "rd"
          refine ⟨gb, g, s.2.1, s.2.2, p.1, p.2, rfl, Gb, Gp3, cm, sb, fun no => ?_, fun yes q o H4 K4 G4 o0 o1 m1 m2 => ?_⟩
          · walk_at "rd"
            intro u hu
            refine ⟨_, Bar.lkNew hu hd, Bar.szLt (by rw [List.length_map]; omega), fun q o z => ?_, us ++ [u], os ++ [(-s.1, none)], by rw [upd_same, List.map_append]; rfl, ((JE.same fun _ _ y => Bar.lkNew hu y).put (Bar.lkNew hu hd)).snoc (tup_put (Bar.lkNew hu hd) upd_same) rfl, by rw [List.length_append, lu]; rfl, ?_, ?_, ?_⟩
            · rw [upd_ne (ne_of_none z hD1)]
              exact Bar.lkNew hu (K3 _ _ z)
            · rw [picks_snoc, ej]
              show JoinS _ _ (_ ++ [])
              rw [List.append_nil]
              exact join_no jn fun x => inC_no cm no
            · rw [picks_snoc]
              show OkS _ (_ ++ [])
              rw [List.append_nil]
              exact oj
            · rw [picks_snoc]
              show ∀ s ∈ _ ++ [], _
              rw [List.append_nil]
              exact dj
          · walk_at "rd"
            intro u hu
            have hd4 := K4 _ _ hd
            obtain ⟨c1, c2⟩ := lcm_lim a1 a2 p1 p2
            refine ⟨_, Bar.lkNew hu hd4, Bar.szLt (by rw [List.length_map]; omega), fun q o z => ?_, us ++ [u], os ++ [(-s.1, some (s.2.1 * (p.1 / gd s.2.1 p.1), o))], by rw [upd_same, List.map_append]; rfl, ((JE.same fun _ _ y => Bar.lkNew hu (K4 _ _ y)).put (Bar.lkNew hu hd4)).snoc (tup_put (Bar.lkNew hu hd4) upd_same) ⟨q, rfl, (G4.new hu).put (Bar.lkNew hu hd4)⟩, by rw [List.length_append, lu]; rfl, ?_, ?_, ?_⟩
            · rw [upd_ne (ne_of_none z hD1)]
              exact Bar.lkNew hu (K4 _ _ (K3 _ _ z))
            · rw [picks_snoc, ej]
              exact join_yes jn fun x => inC_yes cm o0 o1 m1 m2
            · rw [picks_snoc]
              exact oj.snoc ⟨by rcases sg with e | e <;> (rw [e]; first | exact .inl rfl | exact .inr rfl), c1, c2, o0, o1⟩
            · rw [picks_snoc]
              intro s' hs'
              rcases List.mem_append.mp hs' with hs' | hs'
              · exact dj s' hs'
              · rw [List.mem_singleton.mp hs']
                exact lcm_dvd (dv.2.2 s (List.mem_of_getElem? es))
        · rintro H3 ⟨K3, us, os, hd, JE, lu, jn, oj, dj⟩
          rw [List.length_map] at lu jn
          rw [lt, List.take_length] at jn
          have lo := JE.1
          have hD3 := K3 _ _ hD
          walk_at "rd"
          refine Bar.lcL (xs := us.map V.ref) (τ := [some (.ref L), some (.ref D), some (.ref g), some (.ref D1), none, none, none]) rfl (SqL.of hd) (fun D2 hD2 => ⟨fun j H' => Same H3 H' ∧ ∃ ws, H' D2 = some (.lst (ws.map V.ref)) ∧ SgE C H' ws (picks (os.take j)) ∧ ws.length ≤ j,
            ⟨fun _ _ y => Bar.lkNew hD2 y, [], upd_same, ⟨rfl, fun i t e => by cases e⟩, Nat.le_refl _⟩, fun j H' _ ⟨K, _⟩ => SqL.of (K _ _ hd), ?_, ?_⟩)
          · rintro j v H4 hv ⟨K4, ws, hw, WE, lw⟩
            rw [List.getElem?_map] at hv
            obtain ⟨u, eu, rfl⟩ := Option.map_eq_some_iff.mp hv
            obtain ⟨o, v, eo, hu, jv⟩ := JE.2 j u eu
            have jl := (List.getElem?_eq_some_iff.mp eu).1
            have ej : os.take (j + 1) = os.take j ++ [o] := by rw [List.take_add_one, eo]; rfl
            have hu4 := K4 _ _ hu
            obtain ⟨og, oc⟩ := o
            cases oc with
            | none =>
              cases jv
              refine rTupU (SqT.of hu4) rfl ?_
              walk_at "rd"
              refine ⟨rfl, ?_⟩
              walk_at "rd"
              refine ⟨K4, ws, hw, ?_, by omega⟩
              rw [ej, picks_snoc]
              show SgE _ _ _ (_ ++ [])
              rw [List.append_nil]
              exact WE
            | some c =>
              obtain ⟨gq, rfl, Gq⟩ := jv
              refine rTupU (SqT.of hu4) rfl ?_
              walk_at "rd"
              refine ⟨rfl, ?_⟩
              walk_at "rd"
              intro t ht
              refine ⟨_, Bar.lkNew ht hw, Bar.szLt (by rw [List.length_map]; omega), fun q o z => ?_, ws ++ [t], by rw [upd_same, List.map_append]; rfl, ?_, by rw [List.length_append]; show ws.length + 1 ≤ j + 1; omega⟩
              · rw [upd_ne (ne_of_none z hD2)]
                exact Bar.lkNew ht (K4 _ _ z)
              · rw [ej, picks_snoc]
                exact ((WE.same fun _ _ y => Bar.lkNew ht y).put (Bar.lkNew ht hw)).snoc (g := gq) (tup_put (Bar.lkNew ht hw) upd_same) (((Gq.same K4).new ht).put (Bar.lkNew ht hw))
          · rintro H4 ⟨K4, ws, hw, WE, lw⟩
            rw [List.length_map] at lw
            rw [List.length_map, lo, List.take_length] at WE
            refine rCat_ (K4 _ _ hD3) hw (Nat.le_trans (show _ ≤ 1000 by rw [List.length_map, List.length_map]; omega) (by decide)) fun M hM => ?_
            rw [← List.map_append]
            walk_at "rd"
            have lw2 := WE.1
            refine ⟨fun _ _ y => Bar.lkNew hM (K4 _ _ (K3 _ _ (S2 _ _ y))), M, ts ++ ws, S ++ picks os, _, _, upd_same, (((SE.same K3).same K4).same fun _ _ y => Bar.lkNew hM y).app (WE.same fun _ _ y => Bar.lkNew hM y), fun x => ?_, ok.app oj, ⟨_, dv.next p1 p2 dj⟩, ?_, rfl⟩
            · rw [List.take_add_one, ep]
              exact gap_next gp jn x
            · rw [List.length_append, Nat.pow_succ]
              omega
      · rintro σ H2 ⟨S2, D, ts, S, y, z, hD, SE, gp, ok, dv, l2, rfl⟩
        rw [List.length_map, lg] at gp ok l2 dv
        rw [List.take_length] at gp
        walk_at "rd"
        obtain ⟨B, d1, d2, d3⟩ := dv
        refine k D ts S H2 S2 hD SE gp (fun s hs => ?_) ⟨B, d1, Int.le_trans d2 (lim_mono (by omega)), d3⟩ (Nat.le_trans l2 (pow_six l6))
        obtain ⟨h0, h1, h2, h3⟩ := ok s hs
        refine ⟨h0, h1, ?_, h3⟩
        have up : ∀ m : Nat, lim ^ ps.length ≤ lim ^ (ps.length + m) := fun m => by
          induction m with
          | zero => exact Int.le_refl _
          | succ m ih =>
            have p0 : (0 : Int) ≤ lim ^ (ps.length + m) := Int.pow_nonneg (by decide)
            have := Int.mul_le_mul_of_nonneg_left (show (1 : Int) ≤ lim by decide) p0
            rw [Int.mul_one, ← Int.pow_succ] at this
            exact Int.le_trans ih this
        have := up (6 - ps.length)
        rw [show ps.length + (6 - ps.length) = 6 by omega] at this
        exact Int.le_trans h2 this

    · refine ⟨_, (pss_cons (ps_set (i := 1) sc_signed_commons.nd rfl (Or.inl rfl) (pe_lst (pa_cons (pe_tup (pa_cons pe_int (pa_cons (pe_mk mk_Grid1 (hr.mono (by omega)) rfl (pa_cons pe_int pa_nil)) pa_nil))) pa_nil)))
    (pss_cons (ps_for PassesOwn.never rfl  (pi_tup (pv 0)) (pg_name (i := 2) sc_signed_commons.nd rfl (Or.inr rfl)) (pss_cons (ps_setLc (i := 3) (own := [("sign", 4), ("before", 5)]) rfl sc_signed_commons.nd rfl rfl (sw_true rfl rfl rfl (by decide +kernel)) (pi_list (pv 1)) (blkOk_by (own := [("sign", 4), ("before", 5)]) (N := N_signed_commons) (sc := defScope s_signed_commons) (by decide +kernel)) (fun _ _ _ _ _ => pg_tupK (K := K) (n := 2) rfl rfl (pgs_cons (pg_name (i := 4) sc_signed_commons.nd rfl (Or.inl rfl)) (pgs_cons (pg_name (i := 5) sc_signed_commons.nd rfl (Or.inl rfl)) pgs_nil))) (fun _ _ _ _ _ => pts_nil) (fun _ _ _ _ _ => (pe_tup (pa_cons (pe_un un_neg (pv 4)) (pa_cons (pe_smth sm_Grid_common (hr.mono (by omega)) (pe_glob (v := .ref C) rfl g_Grid rfl) (pa_cons (pv 5) (pa_cons (pv 2) pa_nil))) pa_nil)))))
    (pss_one (ps_set (i := 1) sc_signed_commons.nd rfl (Or.inl rfl) (pe_op op_cat (pv 1) (pe_lc (own := [("sign", 4), ("both", 6)]) rfl sc_signed_commons.nd (pi_list (pv 3)) (blkOk_by (own := [("sign", 4), ("both", 6)]) (N := N_signed_commons) (sc := defScope s_signed_commons) (by decide +kernel)) (fun _ _ _ _ _ => pg_tupK (K := K) (n := 2) rfl rfl (pgs_cons (pg_name (i := 4) sc_signed_commons.nd rfl (Or.inl rfl)) (pgs_cons (pg_name (i := 6) sc_signed_commons.nd rfl (Or.inl rfl)) pgs_nil))) (fun _ _ _ _ _ => (pts_one (pt_cmpR o_notN (pv 6) pe_non (nomark _)))) (fun _ _ _ _ _ => (pe_tup (pa_cons (pv 4) (pa_cons (pv 6) pa_nil))))))))))
    (pss_one (ps_ret (pv 1))))), ?_⟩
      refine Bar.rStart (σ := [some (.ref L), none, none, none, none, none, none]) rfl ?_
      walk_at "rd"
      refine mkG (show (1 : Int) ≤ 1 by decide) fun g0 H1 hg0 S1 G1 => ?_
      walk_at "rd"
      intro t0 ht0
      walk_at "rd"
      intro D0 hD0
      walk_at "rd"
      refine Bar.forT (xs := gs.map V.ref) (fun i σ H' => Same H H' ∧ ∃ (D : Addr) (ts : List Addr) (S : Sgn) (y z : Option V), H' D = some (.lst (ts.map V.ref)) ∧ SgE C H' ts S ∧ (∀ x, ssum S x = gapI (ps.take i) x) ∧ OkS i S ∧ (∃ B, DvB i B S) ∧ S.length ≤ 2 ^ i ∧ σ = [some (.ref L), some (.ref D), y, z, none, none, none]) (SqT.of (Bar.lkNew hD0 (Bar.lkNew ht0 (S1 _ _ hL)))) ?_ (fun i σ H2 _ ⟨S, _⟩ => SqT.of (S _ _ hL)) ?_ ?_
      · refine ⟨fun _ _ z => Bar.lkNew hD0 (Bar.lkNew ht0 (S1 _ _ z)), D0, [t0], [(1, (1, 0))], _, _, upd_same, ⟨rfl, fun i t e => ?_⟩, fun x => gap_start x, fun s hs => ?_, ⟨1, by decide, by decide, fun s hs => by rw [List.mem_singleton.mp hs]; exact Int.dvd_refl 1⟩, Nat.le_refl 1, rfl⟩
        · cases i with
          | zero =>
            cases e
            exact ⟨_, g0, rfl, Bar.lkNew hD0 upd_same, (G1.new ht0).new hD0⟩
          | succ i => cases e
        · rw [List.mem_singleton.mp hs]
          exact ⟨.inl rfl, by decide, by decide, by decide, by decide⟩
      · rintro i v σ H2 hv ⟨S2, D, ts, S, y, z, hD, SE, gp, ok, dv, l2, rfl⟩
        obtain ⟨g, p, rfl, ep, Gp, p1, p2, p3, p4⟩ := item S2 hv
        have i6 : i < 6 := by
          have := (List.getElem?_eq_some_iff.mp ep).1
          omega
        have l64 : S.length ≤ 64 := Nat.le_trans l2 (pow_six (by omega))
        have lt := SE.1
        obtain ⟨B, dv⟩ := dv
        walk_at "rd"
        refine Bar.lcL (xs := ts.map V.ref) (τ := [some (.ref L), some (.ref D), some (.ref g), z, none, none, none]) rfl (SqL.of hD) (fun D1 hD1 => ⟨fun j H' => Same H2 H' ∧ ∃ us os, H' D1 = some (.lst (us.map V.ref)) ∧ JnE C H' us os ∧ us.length = j ∧ JoinS (S.take j) p (picks os) ∧ OkS (i + 1) (picks os) ∧ ∀ s ∈ picks os, s.2.1 ∣ B * p.1,
          ⟨fun _ _ y => Bar.lkNew hD1 y, [], [], upd_same, ⟨rfl, fun i t e => by cases e⟩, rfl, join_nil p, (fun s hs => by cases hs), (fun s hs => by cases hs)⟩, fun j H' _ ⟨K, _⟩ => SqL.of (K _ _ hD), ?_, ?_⟩)
        · rintro j v H3 hv ⟨K3, us, os, hd, JE, lu, jn, oj, dj⟩
          rw [List.getElem?_map] at hv
          obtain ⟨t, et, rfl⟩ := Option.map_eq_some_iff.mp hv
          obtain ⟨s, gb, es, ht, G⟩ := SE.2 j t et
          have jl := (List.getElem?_eq_some_iff.mp es).1
          obtain ⟨cm, sb⟩ := ok.cm (by omega) (List.mem_of_getElem? es) p1 p2 p3 p4
          obtain ⟨sg, a1, a2, a3, a4⟩ := ok s (List.mem_of_getElem? es)
          have ej : S.take (j + 1) = S.take j ++ [s] := by rw [List.take_add_one, es]; rfl
          have Gb := G.same K3
          have Gp3 := Gp.same K3
          refine rTupU (SqT.of (K3 _ _ ht)) rfl ?_
          walk_at "rd"
          refine ⟨rfl, ?_⟩
          walk_at "rd"
          refine ⟨rfl, ?_⟩
          walk_at "rd"
          refine ⟨gb, g, s.2.1, s.2.2, p.1, p.2, rfl, Gb, Gp3, cm, sb, fun no => ?_, fun yes q o H4 K4 G4 o0 o1 m1 m2 => ?_⟩
          · walk_at "rd"
            intro u hu
            refine ⟨_, Bar.lkNew hu hd, Bar.szLt (by rw [List.length_map]; omega), fun q o z => ?_, us ++ [u], os ++ [(-s.1, none)], by rw [upd_same, List.map_append]; rfl, ((JE.same fun _ _ y => Bar.lkNew hu y).put (Bar.lkNew hu hd)).snoc (tup_put (Bar.lkNew hu hd) upd_same) rfl, by rw [List.length_append, lu]; rfl, ?_, ?_, ?_⟩
            · rw [upd_ne (ne_of_none z hD1)]
              exact Bar.lkNew hu (K3 _ _ z)
            · rw [picks_snoc, ej]
              show JoinS _ _ (_ ++ [])
              rw [List.append_nil]
              exact join_no jn fun x => inC_no cm no
            · rw [picks_snoc]
              show OkS _ (_ ++ [])
              rw [List.append_nil]
              exact oj
            · rw [picks_snoc]
              show ∀ s ∈ _ ++ [], _
              rw [List.append_nil]
              exact dj
          · walk_at "rd"
            intro u hu
            have hd4 := K4 _ _ hd
            obtain ⟨c1, c2⟩ := lcm_lim a1 a2 p1 p2
            refine ⟨_, Bar.lkNew hu hd4, Bar.szLt (by rw [List.length_map]; omega), fun q o z => ?_, us ++ [u], os ++ [(-s.1, some (s.2.1 * (p.1 / gd s.2.1 p.1), o))], by rw [upd_same, List.map_append]; rfl, ((JE.same fun _ _ y => Bar.lkNew hu (K4 _ _ y)).put (Bar.lkNew hu hd4)).snoc (tup_put (Bar.lkNew hu hd4) upd_same) ⟨q, rfl, (G4.new hu).put (Bar.lkNew hu hd4)⟩, by rw [List.length_append, lu]; rfl, ?_, ?_, ?_⟩
            · rw [upd_ne (ne_of_none z hD1)]
              exact Bar.lkNew hu (K4 _ _ (K3 _ _ z))
            · rw [picks_snoc, ej]
              exact join_yes jn fun x => inC_yes cm o0 o1 m1 m2
            · rw [picks_snoc]
              exact oj.snoc ⟨by rcases sg with e | e <;> (rw [e]; first | exact .inl rfl | exact .inr rfl), c1, c2, o0, o1⟩
            · rw [picks_snoc]
              intro s' hs'
              rcases List.mem_append.mp hs' with hs' | hs'
              · exact dj s' hs'
              · rw [List.mem_singleton.mp hs']
                exact lcm_dvd (dv.2.2 s (List.mem_of_getElem? es))
        · rintro H3 ⟨K3, us, os, hd, JE, lu, jn, oj, dj⟩
          rw [List.length_map] at lu jn
          rw [lt, List.take_length] at jn
          have lo := JE.1
          have hD3 := K3 _ _ hD
          walk_at "rd"
          refine Bar.lcL (xs := us.map V.ref) (τ := [some (.ref L), some (.ref D), some (.ref g), some (.ref D1), none, none, none]) rfl (SqL.of hd) (fun D2 hD2 => ⟨fun j H' => Same H3 H' ∧ ∃ ws, H' D2 = some (.lst (ws.map V.ref)) ∧ SgE C H' ws (picks (os.take j)) ∧ ws.length ≤ j,
            ⟨fun _ _ y => Bar.lkNew hD2 y, [], upd_same, ⟨rfl, fun i t e => by cases e⟩, Nat.le_refl _⟩, fun j H' _ ⟨K, _⟩ => SqL.of (K _ _ hd), ?_, ?_⟩)
          · rintro j v H4 hv ⟨K4, ws, hw, WE, lw⟩
            rw [List.getElem?_map] at hv
            obtain ⟨u, eu, rfl⟩ := Option.map_eq_some_iff.mp hv
            obtain ⟨o, v, eo, hu, jv⟩ := JE.2 j u eu
            have jl := (List.getElem?_eq_some_iff.mp eu).1
            have ej : os.take (j + 1) = os.take j ++ [o] := by rw [List.take_add_one, eo]; rfl
            have hu4 := K4 _ _ hu
            obtain ⟨og, oc⟩ := o
            cases oc with
            | none =>
              cases jv
              refine rTupU (SqT.of hu4) rfl ?_
              walk_at "rd"
              refine ⟨rfl, ?_⟩
              walk_at "rd"
              refine ⟨K4, ws, hw, ?_, by omega⟩
              rw [ej, picks_snoc]
              show SgE _ _ _ (_ ++ [])
              rw [List.append_nil]
              exact WE
            | some c =>
              obtain ⟨gq, rfl, Gq⟩ := jv
              refine rTupU (SqT.of hu4) rfl ?_
              walk_at "rd"
              refine ⟨rfl, ?_⟩
              walk_at "rd"
              intro t ht
              refine ⟨_, Bar.lkNew ht hw, Bar.szLt (by rw [List.length_map]; omega), fun q o z => ?_, ws ++ [t], by rw [upd_same, List.map_append]; rfl, ?_, by rw [List.length_append]; show ws.length + 1 ≤ j + 1; omega⟩
              · rw [upd_ne (ne_of_none z hD2)]
                exact Bar.lkNew ht (K4 _ _ z)
              · rw [ej, picks_snoc]
                exact ((WE.same fun _ _ y => Bar.lkNew ht y).put (Bar.lkNew ht hw)).snoc (g := gq) (tup_put (Bar.lkNew ht hw) upd_same) (((Gq.same K4).new ht).put (Bar.lkNew ht hw))
          · rintro H4 ⟨K4, ws, hw, WE, lw⟩
            rw [List.length_map] at lw
            rw [List.length_map, lo, List.take_length] at WE
            refine rCat_ (K4 _ _ hD3) hw (Nat.le_trans (show _ ≤ 1000 by rw [List.length_map, List.length_map]; omega) (by decide)) fun M hM => ?_
            rw [← List.map_append]
            walk_at "rd"
            have lw2 := WE.1
            refine ⟨fun _ _ y => Bar.lkNew hM (K4 _ _ (K3 _ _ (S2 _ _ y))), M, ts ++ ws, S ++ picks os, _, _, upd_same, (((SE.same K3).same K4).same fun _ _ y => Bar.lkNew hM y).app (WE.same fun _ _ y => Bar.lkNew hM y), fun x => ?_, ok.app oj, ⟨_, dv.next p1 p2 dj⟩, ?_, rfl⟩
            · rw [List.take_add_one, ep]
              exact gap_next gp jn x
            · rw [List.length_append, Nat.pow_succ]
              omega
      · rintro σ H2 ⟨S2, D, ts, S, y, z, hD, SE, gp, ok, dv, l2, rfl⟩
        rw [List.length_map, lg] at gp ok l2 dv
        rw [List.take_length] at gp
        walk_at "rd"
        obtain ⟨B, d1, d2, d3⟩ := dv
        refine k D ts S H2 S2 hD SE gp (fun s hs => ?_) ⟨B, d1, Int.le_trans d2 (lim_mono (by omega)), d3⟩ (Nat.le_trans l2 (pow_six l6))
        obtain ⟨h0, h1, h2, h3⟩ := ok s hs
        refine ⟨h0, h1, ?_, h3⟩
        have up : ∀ m : Nat, lim ^ ps.length ≤ lim ^ (ps.length + m) := fun m => by
          induction m with
          | zero => exact Int.le_refl _
          | succ m ih =>
            have p0 : (0 : Int) ≤ lim ^ (ps.length + m) := Int.pow_nonneg (by decide)
            have := Int.mul_le_mul_of_nonneg_left (show (1 : Int) ≤ lim by decide) p0
            rw [Int.mul_one, ← Int.pow_succ] at this
            exact Int.le_trans ih this
        have := up (6 - ps.length)
        rw [show ps.length + (6 - ps.length) = 6 by omega] at this
        exact Int.le_trans h2 this

theorem ok_countB {f : Addr} {fd : FuncData} (F : Fun K "count_between" "count_between" s_count_between f fd) (T : Txt mg) (m_Grid_between : Mth P w K mg base C "between" P_Grid_between [] 2 (spBetween C)) : FnOk P w K mg base CX0 3 f fd P_count_between (spCountB C) := by
  refine F.ok sc_count_between (fun vs H Q E h => ?_) (fun cdv A outer s H vs Q E hr h => ?_)
  · obtain ⟨D, ts, S, ps, lo, hi, rfl, _⟩ := h
    rfl
  · obtain ⟨D, ts, S, ps, lo, hi, rfl, hD, SE, gp, ok, l64, hw, k⟩ := h
    have lt := SE.1
    refine ⟨_, (pss_one (ps_ret (pe_callB (cr_sum rfl) rfl T.b_sum (by decide +kernel) (pa_cons (pe_lc (own := [("sign", 3), ("grid", 4)]) rfl sc_count_between.nd (pi_list (pv 0)) (blkOk_by (own := [("sign", 3), ("grid", 4)]) (N := N_count_between) (sc := defScope s_count_between) (by decide +kernel)) (fun _ _ _ _ _ => pg_tupK (K := K) (n := 2) rfl rfl (pgs_cons (pg_name (i := 3) sc_count_between.nd rfl (Or.inl rfl)) (pgs_cons (pg_name (i := 4) sc_count_between.nd rfl (Or.inl rfl)) pgs_nil))) (fun _ _ _ _ _ => pts_nil) (fun _ _ _ _ _ => (pe_op op_mulW (pv 3) (pe_mth m_Grid_between (pv 4) (hr.mono (by omega)) (pa_cons (pv 1) (pa_cons (pv 2) pa_nil)))))) pa_nil)))), ?_⟩
    refine Bar.rStart (σ := [some (.ref D), some (.int lo), some (.int hi), none, none]) rfl ?_
    walk_at "rd"
    refine Bar.lcL (xs := ts.map V.ref) (τ := [some (.ref D), some (.int lo), some (.int hi), none, none]) rfl (SqL.of hD) (fun D2 hD2 => ⟨fun i H' => Same H H' ∧ H' D2 = some (.lst (((S.take i).map fun s => s.1 * bw s.2.1 s.2.2 lo hi).map V.int)),
      ⟨fun _ _ z => Bar.lkNew hD2 z, upd_same⟩, fun i H' _ ⟨K, _⟩ => SqL.of (K _ _ hD), ?_, ?_⟩)
    · rintro i v H' hv ⟨K, hd⟩
      rw [List.getElem?_map] at hv
      obtain ⟨t, et, rfl⟩ := Option.map_eq_some_iff.mp hv
      have il := (List.getElem?_eq_some_iff.mp et).1
      obtain ⟨s, g, es, ht, G⟩ := SE.2 i t et
      obtain ⟨sg, a1, a2, a3, a4⟩ := ok s (List.mem_of_getElem? es)
      have G' := G.same K
      obtain ⟨b0, b1⟩ := bw_size (a := s.2.1) (lo := lo) (hi := hi) a3 a4
      have cw : CMulW s.1 (bw s.2.1 s.2.2 lo hi) := wide_mul (show s.1.natAbs < 2 ^ 2 by rcases sg with e | e <;> (rw [e]; decide)) (Nat.lt_of_le_of_lt (show (bw s.2.1 s.2.2 lo hi).natAbs ≤ (hi - lo).natAbs by omega) hw) (by decide) (by decide) (by decide)
      refine rTupU (SqT.of (K _ _ ht)) rfl ?_
      walk_at "rd"
      refine ⟨rfl, ?_⟩
      walk_at "rd"
      refine rMG G' (by decide) (by decide) ?_
      walk_at "rd"
      refine ⟨g, s.2.1, s.2.2, lo, hi, rfl, G', a1, Int.le_trans a2 (lim_pow (Nat.le_refl 6)), ?_⟩
      walk_at "rd"
      refine ⟨_, hd, Bar.szLt (by rw [List.length_map, List.length_map, List.length_take]; omega), fun q o z => ?_, ?_⟩
      · rw [upd_ne (ne_of_none z hD2)]
        exact K _ _ z
      · rw [upd_same, List.take_add_one, es, List.map_append, List.map_append]
        rfl
    · rintro H3 ⟨K3, hd⟩
      rw [List.length_map, lt, List.take_length] at hd
      walk_at "rd"
      refine rSum_ (SqL.of hd) ?_
      rw [count_bw gp fun s hs => ⟨(ok s hs).2.2.2.1, (ok s hs).2.2.2.2⟩]
      walk_at "rd"
      exact k _ K3
theorem ok_gapsX {f CT : Addr} {fd : FuncData} (F : Fun K "gaps_between" "gaps_between" s_gaps_between f fd) (T : Txt mg) (fxcheck_grids : FnX P w K mg base "check_grids" P_check_grids [] 3 (spCheckX CT)) (fsigned_commons : Fn P w K mg base "signed_commons" P_signed_commons [] 4 (spSigned C)) (fcount_between : Fn P w K mg base "count_between" P_count_between [] 3 (spCountB C)) : FnOk P w K mg base (L2.CX P w) 5 f fd P_gaps_between (spGapsX C CT) := by
  refine F.okX sc_gaps_between (fun vs H Q E h => ?_) (fun cdv A outer s H vs Q E hr h => ?_)
  · obtain ⟨L, lo, hi, rfl, _⟩ := h
    rfl
  · obtain ⟨L, lo, hi, rfl, h⟩ := h
    refine ⟨_, (pss_cons (ps_expr (pe_fnX fxcheck_grids (takes_of rfl rfl rfl rfl) (hr.mono (by omega)) rfl (pa_cons (pv 0) pa_nil)))
    (pss_one (ps_ret (pe_fn fcount_between (hr.mono (by omega)) rfl (pa_cons (pe_fn fsigned_commons (hr.mono (by omega)) rfl (pa_cons (pv 0) pa_nil)) (pa_cons (pv 1) (pa_cons (pv 2) pa_nil))))))), ?_⟩
    refine Bar.rStart (σ := [some (.ref L), some (.int lo), some (.int hi)]) rfl ?_
    rcases h with ⟨gs, ps, GA, lm, l6, hw, k⟩ | ⟨xs, hL, l7, k⟩
    · have lg := GA.2.1
      walk_at "rd"
      refine ⟨L, _, rfl, GA.1, fun _ => ?_, fun z => absurd z (by rw [List.length_map]; omega)⟩
      walk_at "rd"
      refine ⟨L, gs, ps, rfl, GA, lm, l6, fun D ts S H1 S1 hD SE gp ok _ l64 => ?_⟩
      walk_at "rd"
      refine ⟨D, ts, S, ps, lo, hi, rfl, hD, SE, gp, ok, l64, hw, fun H2 S2 => ?_⟩
      walk_at "rd"
      exact k _ fun _ _ z => S2 _ _ (S1 _ _ z)
    · walk_at "rd"
      exact ⟨L, _, rfl, hL, fun z => absurd z (by omega), fun _ d H' hd S e => k d H' hd S e⟩
end

end Lw
namespace Lw
open PySem L2 Bar

/-! ### the law's own terms -/
def spMeet : Sp := fun vs H Q _ => ∃ (t1 t2 : Addr) (a1 o1 a2 o2 : Int), vs = [.ref t1, .ref t2] ∧ H t1 = some (.tup [.int a1, .int o1]) ∧ H t2 = some (.tup [.int a2, .int o2]) ∧ Cm a1 o1 a2 o2 ∧ (¬ (o2 - o1) % gd a1 a2 = 0 → Q .non H) ∧
  ((o2 - o1) % gd a1 a2 = 0 → ∀ u t H', H u = none → Same H H' → H' u = some (.tup [.int (a1 * (a2 / gd a1 a2)), .int t]) → 0 ≤ t → t < a1 * (a2 / gd a1 a2) → t % a1 = o1 → t % a2 = o2 → Q (.ref u) H')
theorem half_step {a b : Int} (h1 : 1 ≤ b) (h : b ≤ a) : b * (a % b) * 2 ≤ a * b := by
  have e := Int.emod_add_mul_ediv a b
  have m1 := Int.emod_lt_of_pos a (show 0 < b by omega)
  have q1 : 1 ≤ a / b := (Int.le_ediv_iff_mul_le (show 0 < b by omega)).mpr (by omega)
  have l : a % b * 2 ≤ a := by
    have : b * 1 ≤ b * (a / b) := Int.mul_le_mul_of_nonneg_left q1 (by omega)
    omega
  have l2 : b * (a % b * 2) ≤ b * a := Int.mul_le_mul_of_nonneg_left l (by omega)
  grind
theorem eu_end {n m l lt rt : Int} (h : Eu n m l 0 lt rt) (n1 : 1 ≤ n) : l = gd n m ∧ (∃ q, n * lt = gd n m + m * q) ∧ lt.natAbs ≤ m.natAbs := by
  obtain ⟨l1, _, _, lm, gl, ⟨q, cl⟩, _, ⟨e, L, R, he, L0, Lm, R0, e1, e2, e3⟩⟩ := h
  obtain ⟨h1, h2⟩ := gl l (Int.dvd_refl l) (Int.dvd_zero l)
  have gp := gd_pos (b := m) n1
  have d1 : gd n m ∣ l := by
    have e : l = n * lt - m * q := by omega
    rw [e]
    exact Int.dvd_sub (Int.dvd_mul_of_dvd_left (gd_dl n m)) (Int.dvd_mul_of_dvd_left (gd_dr n m))
  have d2 : l ∣ gd n m := by
    have := Nat.dvd_gcd (Int.natAbs_dvd_natAbs.mpr h2) (Int.natAbs_dvd_natAbs.mpr h1)
    exact Int.natAbs_dvd_natAbs.mp (by rw [Int.natAbs_natCast]; exact this)
  have el : l = gd n m := by
    have a1 := Int.le_of_dvd (by omega) d1
    have a2 := Int.le_of_dvd (by omega) d2
    omega
  refine ⟨el, ⟨q, by rw [cl, el]⟩, ?_⟩
  rcases he with he | he <;> subst he <;> omega
def TmE (H : Hp) (ts : List Addr) (S : Sgn) : Prop := ts.length = S.length ∧ ∀ (i : Nat) t, ts[i]? = some t → ∃ s u, S[i]? = some s ∧ H t = some (.tup [.ref u, .int s.1]) ∧ H u = some (.tup [.int s.2.1, .int s.2.2])
section
variable {H H' : Hp} {ts us : List Addr} {S J : Sgn}
theorem TmE.keep (k : ∀ t xs, H t = some (.tup xs) → H' t = some (.tup xs)) (h : TmE H ts S) : TmE H' ts S := ⟨h.1, fun i t e => by
  obtain ⟨s, u, e1, e2, e3⟩ := h.2 i t e
  exact ⟨s, u, e1, k _ _ e2, k _ _ e3⟩⟩
theorem TmE.same (K : Same H H') (h : TmE H ts S) : TmE H' ts S := h.keep fun _ _ => K _ _
theorem TmE.put {D : Addr} {xs ys : List V} (hD : H D = some (.lst xs)) (h : TmE H ts S) : TmE (upd H D (.lst ys)) ts S := h.keep fun _ _ => tup_put hD
theorem TmE.kp {b : Addr} {xs : List V} (k : Kp b H H') (hb : H b = some (.lst xs)) (h : TmE H ts S) : TmE H' ts S := h.keep fun _ _ y => k _ _ (ne_of y hb (by intro w; cases w)) y
theorem TmE.app (h : TmE H ts S) (j : TmE H us J) : TmE H (ts ++ us) (S ++ J) := by
  refine ⟨by rw [List.length_append, List.length_append, h.1, j.1], fun i t e => ?_⟩
  by_cases il : i < ts.length
  · rw [List.getElem?_append_left il] at e
    obtain ⟨s, g, e1, w⟩ := h.2 i t e
    exact ⟨s, g, by rw [List.getElem?_append_left (by rw [← h.1]; exact il)]; exact e1, w⟩
  · rw [List.getElem?_append_right (by omega)] at e
    obtain ⟨s, g, e1, w⟩ := j.2 _ t e
    exact ⟨s, g, by rw [List.getElem?_append_right (by rw [← h.1]; omega), ← h.1]; exact e1, w⟩
theorem TmE.one {t u : Addr} {s : Int × (Int × Int)} (h1 : H t = some (.tup [.ref u, .int s.1])) (h2 : H u = some (.tup [.int s.2.1, .int s.2.2])) : TmE H [t] [s] := ⟨rfl, fun i q e => by
  cases i with
  | zero =>
    cases e
    exact ⟨s, u, rfl, h1, h2⟩
  | succ i => cases e⟩
end
def spTerms : Sp := fun vs H Q _ => ∃ (R : Addr) (ts : List Addr) (pr : Addr → Int × Int), vs = [.ref R] ∧ RowsAt H R ts pr ∧ ts.length ≤ 6 ∧
  ∀ D us S H', H D = none → Same H H' → H' D = some (.lst (us.map V.ref)) → TmE H' us S → (∀ x, ssum S x = gapI (ts.map pr) x) → OkS 6 S → S.length ≤ 64 → Q (.ref D) H'
def spCount1 : Sp := fun vs H Q _ => ∃ (u : Addr) (a b lo hi : Int), vs = [.ref u, .int lo, .int hi] ∧ H u = some (.tup [.int a, .int b]) ∧ 1 ≤ a ∧ a ≤ big ∧ 0 ≤ b ∧ b < a ∧ Q (.int (bw a b lo hi)) H
def spCountL : Sp := fun vs H Q _ => ∃ (D : Addr) (ts : List Addr) (S : Sgn) (ps : List (Int × Int)) (lo hi : Int), vs = [.ref D, .int lo, .int hi] ∧ H D = some (.lst (ts.map V.ref)) ∧ TmE H ts S ∧ (∀ x, ssum S x = gapI ps x) ∧ OkS 6 S ∧ S.length ≤ 64 ∧ (hi - lo).natAbs < 2 ^ 1400 ∧ ∀ H', Same H H' → Q (.int (gapsB ps lo hi)) H'
theorem sum_ones (c : Nat) : (List.replicate c (1 : Int)).sum = c := by
  induction c with
  | zero => rfl
  | succ c ih =>
    rw [List.replicate_succ, List.sum_cons, ih]
    omega
section
variable {P : Program} {w : World} {K : PySem.W.Frag} {mg : Str → Option Value} {base : Heap} {C : Addr}
theorem ok_meet {f : Addr} {fd : FuncData} (F : Fun K "_law_meet" "_law_meet" s_law_meet f fd) (T : Txt mg) : FnOk P w K mg base CX0 1 f fd P_law_meet spMeet := by
  refine F.ok sc_law_meet (fun vs H Q E h => ?_) (fun cdv A outer s H vs Q E hr h => ?_)
  · obtain ⟨t1, t2, a1, o1, a2, o2, rfl, _⟩ := h
    rfl
  · obtain ⟨t1, t2, a1, o1, a2, o2, rfl, h1, h2, cm, k0, k1⟩ := h
    have s1 : a1.natAbs < 2 ^ 1400 := Nat.lt_of_lt_of_le cm.a1s (Nat.pow_le_pow_right (by decide) (by decide))
    have s2 : a2.natAbs < 2 ^ 1400 := Nat.lt_of_lt_of_le cm.a2s (Nat.pow_le_pow_right (by decide) (by decide))
    have a1l := cm.a1l
    have a2l := cm.a2l
    have m0 := Int.emod_nonneg a1 (show a2 ≠ 0 by omega)
    have m1 := Int.emod_lt_of_pos a1 (show 0 < a2 by omega)
    have pot0 : a2 * (a1 % a2) < 2 ^ 2700 := by
      have q1 : a2 * (a1 % a2) ≤ a2 * a2 := Int.mul_le_mul_of_nonneg_left (by omega) (by omega)
      have q2 : (a2 * a2).natAbs < 2 ^ (1326 + 1326) := wide_lt cm.a2s cm.a2s
      have q3 : (2 : Nat) ^ (1326 + 1326) ≤ 2 ^ 2700 := Nat.pow_le_pow_right (by decide) (by decide)
      have q4 : a2 * a2 < ((2 ^ 2700 : Nat) : Int) := by
        generalize (2 : Nat) ^ 2700 = B at *
        generalize (2 : Nat) ^ (1326 + 1326) = B' at *
        omega
      have e : ((2 ^ 2700 : Nat) : Int) = 2 ^ 2700 := by rw [Int.natCast_pow]; rfl
      rw [e] at q4
      exact Int.lt_of_le_of_lt q1 q4
    refine ⟨_, (pss_cons (ps_set (i := 2) sc_law_meet.nd rfl (Or.inl rfl) (pe_ix ix_tup (pv 0) pe_int (fun _ _ => rfl)))
    (pss_cons (ps_set (i := 3) sc_law_meet.nd rfl (Or.inl rfl) (pe_ix ix_tup (pv 1) pe_int (fun _ _ => rfl)))
    (pss_cons (ps_set (i := 4) sc_law_meet.nd rfl (Or.inl rfl) pe_int)
    (pss_cons (ps_set (i := 5) sc_law_meet.nd rfl (Or.inl rfl) pe_int)
    (pss_mid (ps_for PassesOwn.never rfl  (pi_range1 rfl T.b_range (pa_cons pe_int pa_nil)) (pg_name (i := 6) sc_law_meet.nd rfl (Or.inl rfl)) (pss_cons (ps_if (pt_cmpR op_eq (pv 3) pe_int (nomark _)) (pss_one ps_break) pss_nil)
    (pss_cons (ps_set (i := 7) sc_law_meet.nd rfl (Or.inl rfl) (pe_op op_fdivW (pv 2) (pv 3)))
    (pss_cons (ps_set (i := 8) sc_law_meet.nd rfl (Or.inl rfl) (pe_op op_sub (pv 2) (pe_op op_mulW (pv 7) (pv 3))))
    (pss_cons (ps_set (i := 2) sc_law_meet.nd rfl (Or.inl rfl) (pv 3))
    (pss_cons (ps_set (i := 3) sc_law_meet.nd rfl (Or.inl rfl) (pv 8))
    (pss_cons (ps_set (i := 8) sc_law_meet.nd rfl (Or.inl rfl) (pe_op op_sub (pv 4) (pe_op op_mulW (pv 7) (pv 5))))
    (pss_cons (ps_set (i := 4) sc_law_meet.nd rfl (Or.inl rfl) (pv 5))
    (pss_one (ps_set (i := 5) sc_law_meet.nd rfl (Or.inl rfl) (pv 8)))))))))))
    (pss_cons (ps_set (i := 9) sc_law_meet.nd rfl (Or.inl rfl) (pe_op op_sub (pe_ix ix_tup (pv 1) pe_int (fun _ _ => rfl)) (pe_ix ix_tup (pv 0) pe_int (fun _ _ => rfl))))
    (pss_cons (ps_if (pt_cmpR op_ne (pe_op op_mod (pe_callTy c_int rfl T.b_int (by decide +kernel) (pa_cons (pv 9) pa_nil)) (pv 2)) pe_int (nomark _)) (pss_one (ps_ret pe_non)) pss_nil)
    (pss_cons (ps_set (i := 10) sc_law_meet.nd rfl (Or.inl rfl) (pe_op op_fdivW (pe_ix ix_tup (pv 1) pe_int (fun _ _ => rfl)) (pv 2)))
    (pss_cons (ps_set (i := 11) sc_law_meet.nd rfl (Or.inl rfl) (pe_op op_mod (pe_callTy c_int rfl T.b_int (by decide +kernel) (pa_cons (pe_op op_mulW (pe_op op_fdivW (pv 9) (pv 2)) (pv 4)) pa_nil)) (pv 10)))
    (pss_cons (ps_set (i := 12) sc_law_meet.nd rfl (Or.inl rfl) (pe_op op_mulW (pe_ix ix_tup (pv 0) pe_int (fun _ _ => rfl)) (pv 10)))
    (pss_one (ps_ret (pe_tup (pa_cons (pv 12) (pa_cons (pe_op op_mod (pe_callTy c_int rfl T.b_int (by decide +kernel) (pa_cons (pe_op op_add (pe_ix ix_tup (pv 0) pe_int (fun _ _ => rfl)) (pe_op op_mulW (pe_ix ix_tup (pv 0) pe_int (fun _ _ => rfl)) (pv 11))) pa_nil)) (pv 12)) pa_nil))))))))))))))), ?_⟩
    refine Bar.rStart (σ := [some (.ref t1), some (.ref t2), none, none, none, none, none, none, none, none, none, none, none]) rfl ?_
    walk_at "rd"
    refine ⟨fun σ H' => H' = H ∧ ∃ (lt : Int) (x3 x5 x6 x7 x8 : Option V), (∃ q, a1 * lt = gd a1 a2 + a2 * q) ∧ lt.natAbs < 2 ^ 1400 ∧ σ = [some (.ref t1), some (.ref t2), some (.int (gd a1 a2)), x3, some (.int lt), x5, x6, x7, x8, none, none, none, none], ?_, ?_⟩
    · walk_at "rd"
      refine Bar.forR 5000 rfl (fun i σ H' => H' = H ∧ ∃ (x y p q : Int) (u v z : Option V), ((i = 0 ∧ x = a1 ∧ y = a2 ∧ p = 1 ∧ q = 0) ∨ (1 ≤ i ∧ Eu a1 a2 x y p q ∧ x * y * 2 ^ (i - 1) < 2 ^ 2700)) ∧ σ = [some (.ref t1), some (.ref t2), some (.int x), some (.int y), some (.int p), some (.int q), u, v, z, none, none, none, none]) (by decide) ⟨rfl, a1, a2, 1, 0, _, _, _, .inl ⟨rfl, rfl, rfl, rfl, rfl⟩, rfl⟩ ?_ ?_
      · rintro i σ H' hi ⟨rfl, x, y, p, q, u, v, z, inv, rfl⟩
        rcases inv with ⟨rfl, rfl, rfl, rfl, rfl⟩ | ⟨i1, eu, pot⟩
        · have cd : CDivW x y := divW_ok (by omega) s2
          have sq : (x / y).natAbs < 2 ^ 1400 := Nat.lt_of_le_of_lt (Int.natAbs_ediv_le_natAbs _ _) s1
          have c1 : CMulW (x / y) y := mulW_ok sq s2
          have c2 : CMulW (x / y) 0 := mulW_ok sq (by decide)
          walk_at "rd"
          refine ite2 (fun h => absurd (of_decide_eq_true h) (by omega)) (fun h => ?_)
          walk_at "rd"
          refine ⟨rfl, _, _, _, _, _, _, _, .inr ⟨Nat.le_refl 1, ?_, ?_⟩, rfl⟩
          · have e1 : x - x / y * y = x % y := by
              have := Int.emod_add_mul_ediv x y
              rw [Int.mul_comm] at this
              omega
            rw [e1, Int.mul_zero, Int.sub_zero]
            exact Eu.start a2l
          · have e1 : x - x / y * y = x % y := by
              have := Int.emod_add_mul_ediv x y
              rw [Int.mul_comm] at this
              omega
            rw [e1]
            simpa using pot0
        · obtain ⟨zl, zr, zq, zt⟩ := eu.size s2
          have y0 := eu.r0
          by_cases yz : y = 0
          · subst yz
            obtain ⟨el, hq, hs⟩ := eu_end eu a1l
            walk_at "rd"
            refine ite2 (fun h => ?_) (fun h => absurd (decide_eq_true rfl) h)
            walk_at "rd"
            rw [el]
            exact ⟨rfl, _, _, _, _, _, _, hq, Nat.lt_of_le_of_lt hs s2, rfl⟩
          · have yp : 0 < y := by omega
            have cd : CDivW x y := divW_ok yp zr
            have c1 : CMulW (x / y) y := mulW_ok zq zr
            have c2 : CMulW (x / y) q := mulW_ok zq zt
            walk_at "rd"
            refine ite2 (fun h => absurd (of_decide_eq_true h) yz) (fun h => ?_)
            walk_at "rd"
            refine ⟨rfl, _, _, _, _, _, _, _, .inr ⟨by omega, eu.step yp, ?_⟩, rfl⟩
            have e1 : x - x / y * y = x % y := by
              have := Int.emod_add_mul_ediv x y
              rw [Int.mul_comm] at this
              omega
            rw [e1]
            have hs := half_step (a := x) (b := y) (by omega) (by have := eu.rl; omega)
            have e2 : (2 : Int) ^ (i + 1 - 1) = 2 * 2 ^ (i - 1) := by
              rw [show i + 1 - 1 = (i - 1) + 1 by omega, Int.pow_succ, Int.mul_comm]
            rw [e2]
            have p0 : (0 : Int) ≤ 2 ^ (i - 1) := Int.pow_nonneg (by decide)
            have hs2 := Int.mul_le_mul_of_nonneg_right hs p0
            have e3 : y * (x % y) * (2 * 2 ^ (i - 1)) = y * (x % y) * 2 * 2 ^ (i - 1) := by grind
            rw [e3]
            exact Int.lt_of_le_of_lt hs2 pot
      · rintro σ H' ⟨rfl, x, y, p, q, u, v, z, inv, rfl⟩
        rcases inv with ⟨z5, _⟩ | ⟨i1, eu, pot⟩
        · exact absurd z5 (by decide)
        · have y00 : y = 0 := by
            have y0 := eu.r0
            have x1 := eu.l1
            by_cases z : y = 0
            · exact z
            · exfalso
              have l1 : (1 : Int) ≤ x * y := by
                have := Int.mul_le_mul_of_nonneg_right x1 y0
                omega
              have p0 : (0 : Int) ≤ 2 ^ (5000 - 1) := Int.pow_nonneg (by decide)
              have l2 := Int.mul_le_mul_of_nonneg_right l1 p0
              rw [Int.one_mul] at l2
              have l3 : ¬ (2 : Int) ^ (5000 - 1) < 2 ^ 2700 := by decide +kernel
              exact l3 (Int.lt_of_le_of_lt l2 pot)
          subst y00
          obtain ⟨el, hq, hs⟩ := eu_end eu a1l
          rw [el]
          exact ⟨rfl, _, _, _, _, _, _, hq, Nat.lt_of_le_of_lt hs s2, rfl⟩
    · rintro σ H' ⟨rfl, lt, x3, x5, x6, x7, x8, ⟨q, hq⟩, ls, rfl⟩
      have gp := gd_pos (b := a2) a1l
      have gs : (gd a1 a2).natAbs < 2 ^ 1400 := by
        refine Nat.lt_of_le_of_lt ?_ s1
        show (((Nat.gcd a1.natAbs a2.natAbs : Nat) : Int)).natAbs ≤ _
        rw [Int.natAbs_natCast]
        exact Nat.gcd_le_left _ (by omega)
      have g0 : 0 < gd a1 a2 := by omega
      walk_at "rd"
      refine ite2 (fun h => ?_) (fun h => ?_)
      · walk_at "rd"
        refine k0 fun z => ?_
        rw [decide_eq_true z] at h
        cases h
      · have hd : (o2 - o1) % gd a1 a2 = 0 := by
          by_cases z : (o2 - o1) % gd a1 a2 = 0
          · exact z
          · rw [decide_eq_false z] at h
            exact absurd rfl h
        have q2 := quot_pos a2l gp (gd_dr a1 a2)
        have z2 := quot_size (d := gd a1 a2) a2l cm.a2s
        have d1 : CDivW a2 (gd a1 a2) := divW_ok g0 gs
        have d2 : CDivW (o2 - o1) (gd a1 a2) := divW_ok g0 gs
        have z3 : ((o2 - o1) / gd a1 a2).natAbs < 2 ^ 1400 := by
          refine Nat.lt_of_le_of_lt (Int.natAbs_ediv_le_natAbs _ _) ?_
          by_cases z : (o2 - o1).natAbs ≤ a1.natAbs
          · exact Nat.lt_of_le_of_lt z s1
          · exact Nat.lt_of_le_of_lt (by have := cm.o1l; have := cm.o1u; have := cm.o2l; have := cm.o2u; omega) s2
        have c1 : CMulW ((o2 - o1) / gd a1 a2) lt := mulW_ok z3 ls
        have c2 : CMulW a1 (a2 / gd a1 a2) := mulW_ok s1 z2
        have n0 := Int.emod_nonneg ((o2 - o1) / gd a1 a2 * lt) (show a2 / gd a1 a2 ≠ 0 by omega)
        have n1 := Int.emod_lt_of_pos ((o2 - o1) / gd a1 a2 * lt) (show 0 < a2 / gd a1 a2 by omega)
        have c3 : CMulW a1 ((o2 - o1) / gd a1 a2 * lt % (a2 / gd a1 a2)) := mulW_ok s1 (Nat.lt_of_le_of_lt (by omega) z2)
        have hi : ∃ q, a1 / gd a1 a2 * lt = 1 + a2 / gd a1 a2 * q := by
          obtain ⟨x, hx⟩ := gd_dl a1 a2
          obtain ⟨y, hy⟩ := gd_dr a1 a2
          have ex : a1 / gd a1 a2 = x := Int.ediv_eq_of_eq_mul_right (by omega) hx
          have ey : a2 / gd a1 a2 = y := Int.ediv_eq_of_eq_mul_right (by omega) hy
          rw [ex, ey]
          refine ⟨q, ?_⟩
          have e : gd a1 a2 * (x * lt) = gd a1 a2 * (1 + y * q) := by
            have e1 : gd a1 a2 * (x * lt) = a1 * lt := by rw [← Int.mul_assoc, ← hx]
            have e2 : gd a1 a2 * (1 + y * q) = gd a1 a2 + a2 * q := by rw [Int.mul_add, Int.mul_one, ← Int.mul_assoc, ← hy]
            rw [e1, e2, hq]
          exact Int.eq_of_mul_eq_mul_left (by omega) e
        obtain ⟨t0, tl, tm1, tm2⟩ := cm_tick cm hd hi _ rfl
        have lp : 0 < a1 * (a2 / gd a1 a2) := by
          have := Int.mul_le_mul_of_nonneg_left q2 (show 0 ≤ a1 by omega)
          omega
        walk_at "rd"
        rw [Int.emod_eq_of_lt t0 tl]
        intro u hu
        exact k1 hd u _ _ hu (fun _ _ y => Bar.lkNew hu y) upd_same t0 tl tm1 tm2
theorem ok_terms {f : Addr} {fd : FuncData} (F : Fun K "_law_terms" "_law_terms" s_law_terms f fd) (T : Txt mg) (f_law_meet : Fn P w K mg base "_law_meet" P_law_meet [] 1 spMeet) : FnOk P w K mg base CX0 2 f fd P_law_terms spTerms := by
  refine F.ok sc_law_terms (fun vs H Q E h => ?_) (fun cdv A outer s H vs Q E hr h => ?_)
  · obtain ⟨R, ts, pr, rfl, _⟩ := h
    rfl
  · obtain ⟨R, ts, pr, rfl, RA, l6, k⟩ := h
    have hR := RA.1
    refine ⟨_, (pss_cons (ps_set (i := 1) sc_law_terms.nd rfl (Or.inl rfl) (pe_lst (pa_cons (pe_tup (pa_cons (pe_tup (pa_cons pe_int (pa_cons pe_int pa_nil))) (pa_cons pe_int pa_nil))) pa_nil)))
    (pss_cons (ps_for PassesOwn.never rfl  (pi_list (pv 0)) (pg_name (i := 2) sc_law_terms.nd rfl (Or.inl rfl)) (pss_cons (ps_set (i := 3) sc_law_terms.nd rfl (Or.inl rfl) (pe_lst pa_nil))
    (pss_cons (ps_for PassesOwn.never rfl  (pi_list (pv 1)) (pg_name (i := 4) sc_law_terms.nd rfl (Or.inl rfl)) (pss_cons (ps_set (i := 5) sc_law_terms.nd rfl (Or.inl rfl) (pe_fn f_law_meet (hr.mono (by omega)) rfl (pa_cons (pe_ix ix_tup (pv 4) pe_int (fun _ _ => rfl)) (pa_cons (pv 2) pa_nil))))
    (pss_one (ps_if (pt_cmpR o_notN (pv 5) pe_non (nomark _)) (pss_one (ps_expr (pe_bm PySem.F.plainAttrs_list PySem.F.slot_list_append PySem.F.type_list_append mt_append (pv 3) (pa_cons (pe_tup (pa_cons (pv 5) (pa_cons (pe_un un_neg (pe_ix ix_tup (pv 4) pe_int (fun _ _ => rfl))) pa_nil))) pa_nil)))) pss_nil))))
    (pss_one (ps_set (i := 1) sc_law_terms.nd rfl (Or.inl rfl) (pe_op op_cat (pv 1) (pv 3)))))))
    (pss_one (ps_ret (pv 1))))), ?_⟩
    refine Bar.rStart (σ := [some (.ref R), none, none, none, none, none]) rfl ?_
    walk_at "rd"
    intro u0 hu0
    walk_at "rd"
    intro t0 ht0
    walk_at "rd"
    intro D0 hD0
    walk_at "rd"
    have S0 : Same H (upd (upd (upd H u0 (.tup [.int 1, .int 0])) t0 (.tup [.ref u0, .int 1])) D0 (.lst [.ref t0])) := fun _ _ y => Bar.lkNew hD0 (Bar.lkNew ht0 (Bar.lkNew hu0 y))
    refine Bar.forL (xs := ts.map V.ref) (fun i σ H' => Same H H' ∧ ∃ (D : Addr) (us : List Addr) (S : Sgn) (x2 x3 x4 x5 : Option V), H D = none ∧ H' D = some (.lst (us.map V.ref)) ∧ TmE H' us S ∧ (∀ x, ssum S x = gapI ((ts.take i).map pr) x) ∧ OkS i S ∧ S.length ≤ 2 ^ i ∧ σ = [some (.ref R), some (.ref D), x2, x3, x4, x5]) (SqL.of (S0 _ _ hR))
      ⟨S0, D0, [t0], [(1, (1, 0))], _, _, _, _, freeNew (freeNew hD0), upd_same, TmE.one (Bar.lkNew hD0 upd_same) (Bar.lkNew hD0 (Bar.lkNew ht0 upd_same)), fun x => gap_start x, fun s hs => ?_, Nat.le_refl 1, rfl⟩ (fun i σ H2 _ ⟨S, _⟩ => SqL.of (S _ _ hR)) ?_ ?_
    · rw [List.mem_singleton.mp hs]
      exact ⟨.inl rfl, by decide, by decide, by decide, by decide⟩
    · rintro i v σ H2 hv ⟨S2, D, us, S, x2, x3, x4, x5, _, hD, TE, gp, ok, l2, rfl⟩
      rw [List.getElem?_map] at hv
      obtain ⟨r, er, rfl⟩ := Option.map_eq_some_iff.mp hv
      have i6 : i < 6 := by
        have := (List.getElem?_eq_some_iff.mp er).1
        omega
      obtain ⟨hr', p1, p2, p3, p4⟩ := RA.2 r (List.mem_of_getElem? er)
      have hr2 := S2 _ _ hr'
      have l64 : S.length ≤ 64 := Nat.le_trans l2 (pow_six (by omega))
      have lt := TE.1
      walk_at "rd"
      intro D1 hD1
      walk_at "rd"
      refine Bar.forL (xs := us.map V.ref) (fun j σ H' => Same H2 H' ∧ ∃ (ws : List Addr) (J : Sgn) (x4 x5 : Option V), H' D1 = some (.lst (ws.map V.ref)) ∧ TmE H' ws J ∧ ws.length ≤ j ∧ JoinS (S.take j) (pr r) J ∧ OkS (i + 1) J ∧ σ = [some (.ref R), some (.ref D), some (.ref r), some (.ref D1), x4, x5]) (SqL.of (Bar.lkNew hD1 hD))
        ⟨fun _ _ y => Bar.lkNew hD1 y, [], [], _, _, upd_same, ⟨rfl, fun i t e => by cases e⟩, Nat.le_refl _, join_nil _, (fun s hs => by cases hs), rfl⟩ (fun j σ H3 _ ⟨K, _⟩ => SqL.of (K _ _ hD)) ?_ ?_
      · rintro j v σ H3 hv ⟨K3, ws, J, x4, x5, hw, WE, lw, jn, oj, rfl⟩
        rw [List.getElem?_map] at hv
        obtain ⟨t, et, rfl⟩ := Option.map_eq_some_iff.mp hv
        obtain ⟨s, u, es, ht, hu⟩ := TE.2 j t et
        have jl := (List.getElem?_eq_some_iff.mp es).1
        obtain ⟨cm, sb⟩ := ok.cm (by omega) (List.mem_of_getElem? es) p1 p2 p3 p4
        obtain ⟨sg, a1, a2, a3, a4⟩ := ok s (List.mem_of_getElem? es)
        have ej : S.take (j + 1) = S.take j ++ [s] := by rw [List.take_add_one, es]; rfl
        have ht3 := K3 _ _ ht
        have hu3 := K3 _ _ hu
        have hr3 := K3 _ _ hr2
        walk_at "rd"
        refine ⟨u, r, s.2.1, s.2.2, (pr r).1, (pr r).2, rfl, hu3, hr3, cm, fun no => ?_, fun yes q o H4 hq K4 hq4 o0 o1 m1 m2 => ?_⟩
        · walk_at "rd"
          refine ⟨K3, ws, J, _, _, hw, WE, by omega, ?_, oj, rfl⟩
          rw [ej]
          exact join_no jn fun x => inC_no cm no
        · have ht4 := K4 _ _ ht3
          have hw4 := K4 _ _ hw
          obtain ⟨c1, c2⟩ := lcm_lim a1 a2 p1 p2
          walk_at "rd"
          intro t2 ht2
          walk_at "rd"
          refine Bar.rAppend_ (Bar.lkNew ht2 hw4) (Bar.szLt (by rw [List.length_map]; omega)) ?_
          walk_at "rd"
          refine ⟨fun p o z => ?_, ws ++ [t2], J ++ [(-s.1, (s.2.1 * ((pr r).1 / gd s.2.1 (pr r).1), o))], _, _, by rw [upd_same, List.map_append]; rfl, (((WE.same K4).same fun _ _ y => Bar.lkNew ht2 y).put (Bar.lkNew ht2 hw4)).app (TmE.one (tup_put (Bar.lkNew ht2 hw4) upd_same) (tup_put (Bar.lkNew ht2 hw4) (Bar.lkNew ht2 hq4))), by rw [List.length_append]; show ws.length + 1 ≤ j + 1; omega, ?_, oj.snoc ⟨by rcases sg with e | e <;> (rw [e]; first | exact .inl rfl | exact .inr rfl), c1, c2, o0, o1⟩, rfl⟩
          · have nD : p ≠ D1 := ne_of_none z hD1
            rw [upd_ne nD]
            exact Bar.lkNew ht2 (K4 _ _ (K3 _ _ z))
          · rw [ej]
            exact join_yes jn fun x => inC_yes cm o0 o1 m1 m2
      · rintro σ H3 ⟨K3, ws, J, x4, x5, hw, WE, lw, jn, oj, rfl⟩
        rw [List.length_map] at lw jn
        rw [lt, List.take_length] at jn
        walk_at "rd"
        refine rCat_ (K3 _ _ hD) hw (Nat.le_trans (show _ ≤ 1000 by rw [List.length_map, List.length_map]; omega) (by decide)) fun M hM => ?_
        rw [← List.map_append]
        walk_at "rd"
        have lw2 := WE.1
        have hMH : H M = none := by
          cases q : H M with
          | none => rfl
          | some o =>
            rw [K3 _ _ (S2 _ _ q)] at hM
            cases hM
        refine ⟨fun _ _ y => Bar.lkNew hM (K3 _ _ (S2 _ _ y)), M, us ++ ws, S ++ J, _, _, _, _, hMH, upd_same, ((TE.same K3).same fun _ _ y => Bar.lkNew hM y).app (WE.same fun _ _ y => Bar.lkNew hM y), fun x => ?_, ok.app oj, ?_, rfl⟩
        · rw [List.take_add_one, er, List.map_append]
          exact gap_next gp jn x
        · rw [List.length_append, Nat.pow_succ]
          omega
    · rintro σ H2 ⟨S2, D, us, S, x2, x3, x4, x5, hD0, hD, TE, gp, ok, l2, rfl⟩
      rw [List.length_map] at gp ok l2
      rw [List.take_length] at gp
      walk_at "rd"
      refine k D us S H2 hD0 S2 hD TE gp (fun s hs => ?_) (Nat.le_trans l2 (pow_six l6))
      obtain ⟨h0, h1, h2, h3⟩ := ok s hs
      refine ⟨h0, h1, ?_, h3⟩
      have up : ∀ m : Nat, lim ^ ts.length ≤ lim ^ (ts.length + m) := fun m => by
        induction m with
        | zero => exact Int.le_refl _
        | succ m ih =>
          have p0 : (0 : Int) ≤ lim ^ (ts.length + m) := Int.pow_nonneg (by decide)
          have := Int.mul_le_mul_of_nonneg_left (show (1 : Int) ≤ lim by decide) p0
          rw [Int.mul_one, ← Int.pow_succ] at this
          exact Int.le_trans ih this
      have := up (6 - ts.length)
      rw [show ts.length + (6 - ts.length) = 6 by omega] at this
      exact Int.le_trans h2 this
theorem ok_count1 {f : Addr} {fd : FuncData} (F : Fun K "_law_count_one" "_law_count_one" s_law_count_one f fd) (T : Txt mg) : FnOk P w K mg base CX0 1 f fd P_law_count_one spCount1 := by
  refine F.ok sc_law_count_one (fun vs H Q E h => ?_) (fun cdv A outer s H vs Q E hr h => ?_)
  · obtain ⟨u, a, b, lo, hi, rfl, _⟩ := h
    rfl
  · obtain ⟨u, a, b, lo, hi, rfl, hu, a1, a2, b0, b1, k⟩ := h
    have e := bw_one (b := b) (lo := lo) (hi := hi) (show 0 < a by omega)
    rw [Int.emod_eq_of_lt b0 b1] at e
    rw [e] at k
    have d1 : CDivW (b - lo) a := wide_div (by omega) (log_big (by omega) a2) (by decide) (by decide)
    have d2 : CDivW (b - hi) a := wide_div (by omega) (log_big (by omega) a2) (by decide) (by decide)
    refine ⟨_, (pss_cons (ps_if (pt_cmpR op_le (pv 2) (pv 1) (nomark _)) (pss_one (ps_ret pe_int)) pss_nil)
    (pss_one (ps_ret (pe_op op_sub (pe_op op_fdivW (pe_op op_sub (pe_ix ix_tup (pv 0) pe_int (fun _ _ => rfl)) (pv 1)) (pe_ix ix_tup (pv 0) pe_int (fun _ _ => rfl))) (pe_op op_fdivW (pe_op op_sub (pe_ix ix_tup (pv 0) pe_int (fun _ _ => rfl)) (pv 2)) (pe_ix ix_tup (pv 0) pe_int (fun _ _ => rfl))))))), ?_⟩
    refine Bar.rStart (σ := [some (.ref u), some (.int lo), some (.int hi)]) rfl ?_
    walk_at "rd"
    refine ite2 (fun h => ?_) (fun h => ?_)
    · walk_at "rd"
      rw [if_pos (of_decide_eq_true h)] at k
      exact k
    · walk_at "rd"
      rw [if_neg fun q => h (decide_eq_true q)] at k
      exact k
theorem ok_countL {f : Addr} {fd : FuncData} (F : Fun K "_law_count" "_law_count" s_law_count f fd) (T : Txt mg) (f_law_count_one : Fn P w K mg base "_law_count_one" P_law_count_one [] 1 spCount1) : FnOk P w K mg base CX0 2 f fd P_law_count spCountL := by
  refine F.ok sc_law_count (fun vs H Q E h => ?_) (fun cdv A outer s H vs Q E hr h => ?_)
  · obtain ⟨D, ts, S, ps, lo, hi, rfl, _⟩ := h
    rfl
  · obtain ⟨D, ts, S, ps, lo, hi, rfl, hD, TE, gp, ok, l64, hw, k⟩ := h
    have lt := TE.1
    refine ⟨_, (pss_one (ps_ret (pe_callB (cr_sum rfl) rfl T.b_sum (by decide +kernel) (pa_cons (pe_lc (own := [("_law_term", 3)]) (g := gName 3) rfl sc_law_count.nd (pi_list (pv 0)) (blkOk_by (own := [("_law_term", 3)]) (N := N_law_count) (sc := defScope s_law_count) (by decide +kernel)) (fun _ _ _ _ _ => pg_name (i := 3) sc_law_count.nd rfl (Or.inl rfl)) (fun _ _ _ _ _ => pts_nil) (fun _ _ _ _ _ => (pe_op op_mulW (pe_ix (r := rIxT K) ix_tup (pv 3) pe_int (fun _ _ => rfl)) (pe_fn f_law_count_one (hr.mono (by omega)) rfl (pa_cons (pe_ix (r := rIxT K) ix_tup (pv 3) pe_int (fun _ _ => rfl)) (pa_cons (pv 1) (pa_cons (pv 2) pa_nil))))))) pa_nil)))), ?_⟩
    refine Bar.rStart (σ := [some (.ref D), some (.int lo), some (.int hi), none]) rfl ?_
    walk_at "rd"
    refine Bar.lcL (xs := ts.map V.ref) (τ := [some (.ref D), some (.int lo), some (.int hi), none]) rfl (SqL.of hD) (fun D2 hD2 => ⟨fun i H' => Same H H' ∧ H' D2 = some (.lst (((S.take i).map fun s => s.1 * bw s.2.1 s.2.2 lo hi).map V.int)),
      ⟨fun _ _ z => Bar.lkNew hD2 z, upd_same⟩, fun i H' _ ⟨K, _⟩ => SqL.of (K _ _ hD), ?_, ?_⟩)
    · rintro i v H' hv ⟨K, hd⟩
      rw [List.getElem?_map] at hv
      obtain ⟨t, et, rfl⟩ := Option.map_eq_some_iff.mp hv
      have il := (List.getElem?_eq_some_iff.mp et).1
      obtain ⟨s, u, es, ht, hu⟩ := TE.2 i t et
      obtain ⟨sg, a1, a2, a3, a4⟩ := ok s (List.mem_of_getElem? es)
      have ht' := K _ _ ht
      have hu' := K _ _ hu
      obtain ⟨b0, b1⟩ := bw_size (a := s.2.1) (lo := lo) (hi := hi) a3 a4
      have cw : CMulW s.1 (bw s.2.1 s.2.2 lo hi) := wide_mul (show s.1.natAbs < 2 ^ 2 by rcases sg with e | e <;> (rw [e]; decide)) (Nat.lt_of_le_of_lt (show (bw s.2.1 s.2.2 lo hi).natAbs ≤ (hi - lo).natAbs by omega) hw) (by decide) (by decide) (by decide)
      walk_at "rd"
      refine ⟨rfl, ?_⟩
      walk_at "rd"
      refine ⟨u, s.2.1, s.2.2, lo, hi, rfl, hu', a1, Int.le_trans a2 (lim_pow (Nat.le_refl 6)), a3, a4, ?_⟩
      walk_at "rd"
      refine ⟨_, hd, Bar.szLt (by rw [List.length_map, List.length_map, List.length_take]; omega), fun q o z => ?_, ?_⟩
      · rw [upd_ne (ne_of_none z hD2)]
        exact K _ _ z
      · rw [upd_same, List.take_add_one, es, List.map_append, List.map_append]
        rfl
    · rintro H3 ⟨K3, hd⟩
      rw [List.length_map, lt, List.take_length] at hd
      walk_at "rd"
      refine rSum_ (SqL.of hd) ?_
      rw [count_bw gp fun s hs => ⟨(ok s hs).2.2.2.1, (ok s hs).2.2.2.2⟩]
      walk_at "rd"
      exact k _ K3
end


/-! ### lists as they were made -/
def spKept (C : Addr) : Sp := fun vs H Q _ => ∃ (L R : Addr) (gs ts : List Addr) (pr : Addr → Int × Int), vs = [.ref L, .ref R] ∧ GridsAt C H L gs (ts.map pr) ∧ RowsAt H R ts pr ∧ ts.length ≤ 6 ∧ ∀ H', Same H H' → Q (.bl true) H'
theorem samePair {H : Hp} {u t : Addr} {x y : Int} (h : H u = some (.tup [.int x, .int y])) (h' : H t = some (.tup [.int x, .int y])) : SameAt H 2 (.ref u) (.ref t) := by
  refine .inr ⟨u, t, _, _, rfl, rfl, .inr ⟨h, h'⟩, by simp, rfl, fun i a b hu hv => ?_⟩
  cases hu.symm.trans hv
  have hm := List.mem_of_getElem? hu
  simp only [List.mem_cons, List.not_mem_nil, or_false] at hm
  rcases hm with e | e <;> subst e <;> exact .inl ⟨rfl, trivial⟩
theorem sameRef {H : Hp} {r r' : Addr} (h : RefAt H r) (h' : RefAt H r') : SameAt H 3 (.ref r) (.ref r') := by
  obtain ⟨t, h1, h2⟩ := h
  obtain ⟨t', h1', h2'⟩ := h'
  refine .inr ⟨r, r', _, _, rfl, rfl, .inl ⟨h1, h1'⟩, by simp, rfl, fun i u v hu hv => ?_⟩
  match i, hu, hv with
  | 0, hu, hv =>
    cases hu
    cases hv
    exact .inl ⟨rfl, trivial⟩
  | 1, hu, hv =>
    cases hu
    cases hv
    refine .inr ⟨t, t', _, _, rfl, rfl, .inl ⟨h2, h2'⟩, by simp, rfl, fun i u v hu hv => ?_⟩
    cases hu.symm.trans hv
    have hm := List.mem_of_getElem? hu
    simp only [List.mem_cons, List.not_mem_nil, or_false] at hm
    rcases hm with e | e | e | e | e <;> subst e <;> exact .inl ⟨rfl, trivial⟩
theorem RefAt.same {H H' : Hp} {r : Addr} (S : Same H H') (h : RefAt H r) : RefAt H' r := by
  obtain ⟨t, h1, h2⟩ := h
  exact ⟨t, S _ _ h1, S _ _ h2⟩
section
variable {P : Program} {w : World} {K : PySem.W.Frag} {mg : Str → Option Value} {base : Heap} {C : Addr}
theorem ok_kept {f : Addr} {fd : FuncData} (F : Fun K "_law_kept" "_law_kept" s_law_kept f fd) (T : Txt mg) (G : GTxt K C) (f_law_same : Fn P w K mg base "_law_same" P_law_same [] 4 (spSame 3)) : FnOk P w K mg base CX0 5 f fd P_law_kept (spKept C) := by
  refine F.ok sc_law_kept (fun vs H Q E h => ?_) (fun cdv A outer s H vs Q E hr h => ?_)
  · obtain ⟨L, R, gs, ts, pr, rfl, _⟩ := h
    rfl
  · obtain ⟨L, R, gs, ts, pr, rfl, GA, RA, l6, k⟩ := h
    have hL := GA.1
    obtain ⟨_, lg, gg⟩ := GA
    rw [List.length_map] at lg
    refine ⟨_, (pss_one (ps_ret (pe_fn f_law_same (hr.mono (by omega)) rfl (pa_cons (pe_lc (own := [("_law_one", 2)]) (g := gName 2) rfl sc_law_kept.nd (pi_list (pv 0)) (blkOk_by (own := [("_law_one", 2)]) (N := N_law_kept) (sc := defScope s_law_kept) (by decide +kernel)) (fun _ _ _ _ _ => pg_name (i := 2) sc_law_kept.nd rfl (Or.inl rfl)) (fun _ _ _ _ _ => pts_nil) (fun _ _ _ _ _ => (pe_tup (pa_cons (pe_fldK (K := K) (pv 2) rfl rfl) (pa_cons (pe_fldK (K := K) (pv 2) rfl rfl) pa_nil))))) (pa_cons (pv 1) pa_nil))))), ?_⟩
    refine Bar.rStart (σ := [some (.ref L), some (.ref R), none]) rfl ?_
    walk_at "rd"
    refine Bar.lcL (xs := gs.map V.ref) (τ := [some (.ref L), some (.ref R), none]) rfl (SqL.of hL) (fun D hD => ⟨fun i H' => Same H H' ∧ ∃ us : List Addr, H' D = some (.lst (us.map V.ref)) ∧ us.length = i ∧ ∀ (j : Nat) u, us[j]? = some u → ∃ t, ts[j]? = some t ∧ H' u = some (.tup [.int (pr t).1, .int (pr t).2]),
      ⟨fun _ _ z => Bar.lkNew hD z, [], upd_same, rfl, fun j g e => by cases e⟩, fun i H' _ ⟨S, _⟩ => SqL.of (S _ _ hL), ?_, ?_⟩)
    · rintro i v H' hv ⟨S, us, hd, lu, uu⟩
      have il : i < gs.length := by
        have := (List.getElem?_eq_some_iff.mp hv).1
        rwa [List.length_map] at this
      rw [List.getElem?_map] at hv
      obtain ⟨g, eg, rfl⟩ := Option.map_eq_some_iff.mp hv
      obtain ⟨p, ep, Gp, _⟩ := gg i g eg
      rw [List.getElem?_map] at ep
      obtain ⟨t, et, rfl⟩ := Option.map_eq_some_iff.mp ep
      have Gp' := Gp.same S
      walk_at "rd"
      refine ⟨rfl, ?_⟩
      walk_at "rd"
      refine rFS G Gp' ?_
      walk_at "rd"
      refine rFO G Gp' ?_
      walk_at "rd"
      intro q hq
      have kT : ∀ {u : Addr} {xs : List V}, upd H' q (.tup [.int (pr t).1, .int (pr t).2]) u = some (.tup xs) → upd (upd H' q (.tup [.int (pr t).1, .int (pr t).2])) D (.lst (us.map V.ref ++ [.ref q])) u = some (.tup xs) := fun z => by
        rw [upd_ne (ne_of z (Bar.lkNew hq hd) (by intro w; cases w))]
        exact z
      refine ⟨_, Bar.lkNew hq hd, Bar.szLt (by rw [List.length_map]; omega), fun p o z => ?_, us ++ [q], by rw [upd_same, List.map_append]; rfl, by rw [List.length_append, lu]; rfl, fun j u e => ?_⟩
      · rw [upd_ne (ne_of_none z hD)]
        exact Bar.lkNew hq (S _ _ z)
      · by_cases jl : j < us.length
        · rw [List.getElem?_append_left jl] at e
          obtain ⟨t', et', hu⟩ := uu j u e
          exact ⟨t', et', kT (Bar.lkNew hq hu)⟩
        · have ji : j = i := by
            have := (List.getElem?_eq_some_iff.mp e).1
            rw [List.length_append] at this
            have : j < us.length + 1 := this
            omega
          subst ji
          rw [List.getElem?_append_right (by omega), lu, Nat.sub_self] at e
          cases e
          exact ⟨t, et, kT upd_same⟩
    · rintro H3 ⟨S3, us, hd, lu, uu⟩
      rw [List.length_map] at lu
      have RA3 := RA.same S3
      walk_at "rd"
      refine ⟨_, _, rfl, .inr ⟨D, R, _, _, rfl, rfl, .inl ⟨hd, RA3.1⟩, by rw [List.length_map]; omega, by rw [List.length_map, List.length_map]; omega, fun i x y hx hy => ?_⟩, ?_⟩
      · rw [List.getElem?_map] at hx hy
        obtain ⟨u, eu, rfl⟩ := Option.map_eq_some_iff.mp hx
        obtain ⟨t, et, rfl⟩ := Option.map_eq_some_iff.mp hy
        obtain ⟨t', et', hu⟩ := uu i u eu
        cases et.symm.trans et'
        exact samePair hu (RA3.2 t (List.mem_of_getElem? et)).1
      · exact k _ S3
end

end Lw
namespace Lw
open PySem L2 Bar

/-! ### math.lcm of numbers that are not large -/
def rLcm : List V → Hp → VK → Prop := fun vs H Q => ∃ a b : Int, vs = [.int a, .int b] ∧ a.natAbs < 2 ^ 1400 ∧ b.natAbs < 2 ^ 1400 ∧ Q (.int ((Nat.lcm a.natAbs b.natAbs : Nat) : Int)) H
theorem log_of {n k : Nat} (h : n < 2 ^ (k + 1)) : n.log2 ≤ k := PySem.W.mg_log h
theorem cr_lcm {X : Cx} : CallR X (.builtin "math.lcm") rLcm := by
  intro pins s σ H vs us Q I r h
  obtain ⟨a, b, rfl, ha, hb, q⟩ := h
  obtain ⟨t, u, rfl⟩ := Vals.int2 r
  have l1 : Nat.lcm 1 a.natAbs = a.natAbs := Nat.lcm_one_left _
  have h1 : (max 1 a.natAbs).log2 ≤ 1399 := log_of (show max 1 a.natAbs < 2 ^ 1400 from Nat.max_lt.mpr ⟨by decide, ha⟩)
  have h2 : (max a.natAbs b.natAbs).log2 ≤ 1399 := log_of (show max a.natAbs b.natAbs < 2 ^ 1400 from Nat.max_lt.mpr ⟨ha, hb⟩)
  have hl : Nat.lcm a.natAbs b.natAbs < 2 ^ (2799 + 1) := by
    refine Nat.lt_of_le_of_lt (PySem.W.mc_lcm_le _ _) ?_
    exact Nat.lt_of_lt_of_le (Nat.mul_lt_mul'' ha hb) (by rw [← Nat.pow_add]; exact Nat.pow_le_pow_right (by decide) (by decide))
  have hs : ((((Nat.lcm 1 a.natAbs).lcm b.natAbs : Nat) : Int)).natAbs.log2 < bitsLine := by
    rw [l1, Int.natAbs_natCast]
    exact Nat.lt_of_le_of_lt (log_of hl) (by decide +kernel)
  refine call_function_meets PySem.W.MGF.kind_lcm PySem.W.MGF.plain_lcm PySem.W.MGF.entry_lcm (PySem.W.MGF.args_lcm _ _) (PySem.W.mg_run_lcm a t b u (by omega) (by omega) hs).meets ?_
  rw [l1]
  exact ⟨.int _, H, I.tok _, ⟨_, rfl⟩, q⟩
/-! ### shares -/
/-- n of d are gaps, in lowest terms -/
def Share (ps : List (Int × Int)) (n d : Int) : Prop := ∃ c : Nat, 1 ≤ c ∧ (∀ x, gapI ps (x + (c : Int)) = gapI ps x) ∧ n = gapsN ps 0 c / gd (gapsN ps 0 c) c ∧ d = (c : Int) / gd (gapsN ps 0 c) c
theorem gapsN_add (ps : List (Int × Int)) (lo : Int) (m : Nat) : ∀ n : Nat, gapsN ps lo (m + n) = gapsN ps lo m + gapsN ps (lo + m) n := by
  intro n
  induction n with
  | zero => show gapsN ps lo m = gapsN ps lo m + 0; omega
  | succ n ih =>
    show gapsN ps lo (m + n) + gapI ps (lo + ((m + n : Nat) : Int)) = gapsN ps lo m + (gapsN ps (lo + m) n + gapI ps (lo + m + (n : Int)))
    rw [ih, show lo + ((m + n : Nat) : Int) = lo + m + (n : Int) by omega]
    omega
theorem gapsN_move {ps : List (Int × Int)} {c : Nat} (h : ∀ x, gapI ps (x + (c : Int)) = gapI ps x) (lo : Int) : ∀ n : Nat, gapsN ps (lo + c) n = gapsN ps lo n := by
  intro n
  induction n with
  | zero => rfl
  | succ n ih =>
    show gapsN ps (lo + c) n + gapI ps (lo + c + (n : Int)) = gapsN ps lo n + gapI ps (lo + (n : Int))
    rw [ih, show lo + c + (n : Int) = (lo + (n : Int)) + c by omega, h]
theorem gapsN_mul {ps : List (Int × Int)} {c : Nat} (h : ∀ x, gapI ps (x + (c : Int)) = gapI ps x) : ∀ k : Nat, gapsN ps 0 (c * k) = (k : Int) * gapsN ps 0 c := by
  intro k
  induction k with
  | zero =>
    rw [Nat.mul_zero]
    show (0 : Int) = ((0 : Nat) : Int) * _
    simp
  | succ k ih =>
    have per : ∀ x, gapI ps (x + ((c * k : Nat) : Int)) = gapI ps x := by
      clear ih
      induction k with
      | zero => intro x; rw [Nat.mul_zero]; show gapI ps (x + 0) = _; rw [Int.add_zero]
      | succ k ih =>
        intro x
        rw [Nat.mul_succ, show x + ((c * k + c : Nat) : Int) = (x + ((c * k : Nat) : Int)) + c by omega, h, ih]
    rw [Nat.mul_succ, gapsN_add, ih]
    have := gapsN_move per 0 c
    rw [this, show ((k + 1 : Nat) : Int) = (k : Int) + 1 by omega, Int.add_mul, Int.one_mul]
theorem gapI_01 (ps : List (Int × Int)) (x : Int) : 0 ≤ gapI ps x ∧ gapI ps x ≤ 1 := by
  unfold gapI
  split <;> omega
theorem gapsN_le (ps : List (Int × Int)) (lo : Int) : ∀ n : Nat, 0 ≤ gapsN ps lo n ∧ gapsN ps lo n ≤ n := by
  intro n
  induction n with
  | zero => exact ⟨Int.le_refl _, Int.le_refl _⟩
  | succ n ih =>
    have := gapI_01 ps (lo + (n : Int))
    show 0 ≤ gapsN ps lo n + _ ∧ gapsN ps lo n + _ ≤ ((n + 1 : Nat) : Int)
    omega
/-- lowest terms are one -/
theorem low_terms {a b c d : Nat} (hb : 1 ≤ b) (hd : 1 ≤ d) (h : a * d = c * b) : a / Nat.gcd a b = c / Nat.gcd c d ∧ b / Nat.gcd a b = d / Nat.gcd c d := by
  have g1 : 0 < Nat.gcd a b := Nat.gcd_pos_of_pos_right _ (by omega)
  have g2 : 0 < Nat.gcd c d := Nat.gcd_pos_of_pos_right _ (by omega)
  have co1 : Nat.Coprime (a / Nat.gcd a b) (b / Nat.gcd a b) := Nat.coprime_div_gcd_div_gcd g1
  have co2 : Nat.Coprime (c / Nat.gcd c d) (d / Nat.gcd c d) := Nat.coprime_div_gcd_div_gcd g2
  obtain ⟨a', ea⟩ := Nat.gcd_dvd_left a b
  obtain ⟨b', eb⟩ := Nat.gcd_dvd_right a b
  obtain ⟨c', ec⟩ := Nat.gcd_dvd_left c d
  obtain ⟨d', ed⟩ := Nat.gcd_dvd_right c d
  have e1 : a / Nat.gcd a b = a' := Nat.div_eq_of_eq_mul_right g1 ea
  have e2 : b / Nat.gcd a b = b' := Nat.div_eq_of_eq_mul_right g1 eb
  have e3 : c / Nat.gcd c d = c' := Nat.div_eq_of_eq_mul_right g2 ec
  have e4 : d / Nat.gcd c d = d' := Nat.div_eq_of_eq_mul_right g2 ed
  rw [e1, e2] at co1
  rw [e3, e4] at co2
  rw [e1, e2, e3, e4]
  generalize Nat.gcd a b = g at *
  generalize Nat.gcd c d = k at *
  subst ea eb ec ed
  have cross : a' * d' = c' * b' := by
    have q : (g * k) * (a' * d') = (g * k) * (c' * b') := by
      have e5 : (g * k) * (a' * d') = g * a' * (k * d') := by ac_rfl
      have e6 : (g * k) * (c' * b') = k * c' * (g * b') := by ac_rfl
      rw [e5, e6]
      exact h
    exact Nat.eq_of_mul_eq_mul_left (Nat.mul_pos g1 g2) q
  have b1 : b' ∣ d' := co1.symm.dvd_of_dvd_mul_left (show b' ∣ a' * d' from ⟨c', by rw [cross, Nat.mul_comm]⟩)
  have b2 : d' ∣ b' := co2.symm.dvd_of_dvd_mul_left (show d' ∣ c' * b' from ⟨a', by rw [← cross, Nat.mul_comm]⟩)
  have eb : b' = d' := Nat.dvd_antisymm b1 b2
  subst eb
  have bp : 0 < b' := by
    by_cases z : 0 < b'
    · exact z
    · have : b' = 0 := by omega
      rw [this, Nat.mul_zero] at hb
      omega
  exact ⟨Nat.eq_of_mul_eq_mul_right bp cross, rfl⟩
theorem Share.uniq {ps : List (Int × Int)} {n d n' d' : Int} (h : Share ps n d) (k : Share ps n' d') : n = n' ∧ d = d' := by
  obtain ⟨c, c1, per, e1, e2⟩ := h
  obtain ⟨c', c1', per', e1', e2'⟩ := k
  have m1 := gapsN_mul per c'
  have m2 := gapsN_mul per' c
  rw [Nat.mul_comm] at m2
  obtain ⟨g0, _⟩ := gapsN_le ps 0 c
  obtain ⟨g0', _⟩ := gapsN_le ps 0 c'
  obtain ⟨a, ea⟩ : ∃ a : Nat, gapsN ps 0 c = a := ⟨(gapsN ps 0 c).toNat, by omega⟩
  obtain ⟨a', ea'⟩ : ∃ a : Nat, gapsN ps 0 c' = a := ⟨(gapsN ps 0 c').toNat, by omega⟩
  rw [ea] at m1 e1 e2
  rw [ea'] at m2 e1' e2'
  have cr : a * c' = a' * c := by
    have : (c' : Int) * (a : Int) = (c : Int) * (a' : Int) := m1.symm.trans m2
    have q : ((c' * a : Nat) : Int) = ((c * a' : Nat) : Int) := by rw [Int.natCast_mul, Int.natCast_mul]; exact this
    have := Int.ofNat_inj.mp q
    rw [Nat.mul_comm a, Nat.mul_comm a']
    exact this
  obtain ⟨r1, r2⟩ := low_terms c1 c1' cr
  have gg : ∀ x y : Nat, gd (x : Int) (y : Int) = ((Nat.gcd x y : Nat) : Int) := fun x y => by
    show ((Nat.gcd (x : Int).natAbs (y : Int).natAbs : Nat) : Int) = _
    rw [Int.natAbs_natCast, Int.natAbs_natCast]
  rw [gg] at e1 e2 e1' e2'
  rw [e1, e2, e1', e2']
  rw [← Int.natCast_ediv, ← Int.natCast_ediv, ← Int.natCast_ediv, ← Int.natCast_ediv, r1, r2]
  exact ⟨rfl, rfl⟩
/-- a class whose step divides the cycle has as many ticks in it -/
theorem cnt_cycle {a b : Int} (h0 : 0 ≤ b) (h1 : b < a) {c : Nat} (h : a ∣ (c : Int)) : (cnt a b 0 c : Int) = (c : Int) / a := by
  obtain ⟨q, hq⟩ := h
  have e := cnt_bw (b := b) (lo := 0) (show 0 < a by omega) c
  rw [Int.emod_eq_of_lt h0 h1, Int.zero_add] at e
  have ec : (c : Int) / a = q := Int.ediv_eq_of_eq_mul_right (by omega) hq
  rw [e, ec]
  unfold bw
  by_cases z : (c : Int) ≤ 0
  · rw [if_pos z]
    have c0 : (c : Int) = 0 := by omega
    rw [c0] at hq
    rcases Int.mul_eq_zero.mp hq.symm with z | z
    · omega
    · exact z.symm
  · rw [if_neg z]
    have e1 : (c : Int) - 1 - b = (0 - 1 - b) + a * q := by omega
    rw [e1, Int.add_mul_ediv_left _ _ (show a ≠ 0 by omega)]
    omega
theorem share_gaps {S : Sgn} {ps : List (Int × Int)} {c : Nat} (h : ∀ x, ssum S x = gapI ps x) (ok : ∀ s ∈ S, 0 ≤ s.2.2 ∧ s.2.2 < s.2.1) (dv : ∀ s ∈ S, s.2.1 ∣ (c : Int)) : (S.map fun s => s.1 * ((c : Int) / s.2.1)).sum = gapsN ps 0 c := by
  rw [← count_eq h]
  congr 1
  refine List.map_congr_left fun s hs => ?_
  rw [cnt_cycle (ok s hs).1 (ok s hs).2 (dv s hs)]
theorem inC_per {p : Int × Int} {c x : Int} (h : p.1 ∣ c) : inC p (x + c) = inC p x := by
  obtain ⟨q, hq⟩ := h
  unfold inC
  rw [hq, show x + p.1 * q - p.2 = (x - p.2) + p.1 * q by omega, Int.add_mul_emod_self_left]
theorem gap_per_S {S : Sgn} {ps : List (Int × Int)} {c : Int} (h : ∀ x, ssum S x = gapI ps x) (dv : ∀ s ∈ S, s.2.1 ∣ c) (x : Int) : gapI ps (x + c) = gapI ps x := by
  rw [← h, ← h]
  unfold ssum
  congr 1
  refine List.map_congr_left fun s hs => ?_
  rw [inC_per (dv s hs)]
theorem gap_per_P {ps : List (Int × Int)} {c : Int} (dv : ∀ p ∈ ps, p.1 ∣ c) (x : Int) : gapI ps (x + c) = gapI ps x := by
  have e : hits ps (x + c) = hits ps x := by
    have h : ∀ p ∈ ps, inC p (x + c) = inC p x := fun p hp => inC_per (dv p hp)
    show ps.any (fun p => inC p (x + c)) = ps.any fun p => inC p x
    rw [Bool.eq_iff_iff, List.any_eq_true, List.any_eq_true]
    exact ⟨fun ⟨p, hp, z⟩ => ⟨p, hp, by rw [← h p hp]; exact z⟩, fun ⟨p, hp, z⟩ => ⟨p, hp, by rw [h p hp]; exact z⟩⟩
  unfold gapI
  rw [e]
theorem gap_rev (ps : List (Int × Int)) (x : Int) : gapI ps.reverse x = gapI ps x := by
  unfold gapI hits
  rw [List.any_reverse]
theorem Share.rev {ps : List (Int × Int)} {n d : Int} (h : Share ps n d) : Share ps.reverse n d := by
  have e : ∀ (lo : Int) (w : Nat), gapsN ps.reverse lo w = gapsN ps lo w := fun lo w => by
    induction w with
    | zero => rfl
    | succ w ih =>
      show gapsN ps.reverse lo w + gapI ps.reverse _ = gapsN ps lo w + gapI ps _
      rw [ih, gap_rev]
  obtain ⟨c, c1, per, e1, e2⟩ := h
  exact ⟨c, c1, fun x => by rw [gap_rev, gap_rev]; exact per x, by rw [e]; exact e1, by rw [e]; exact e2⟩
theorem Share.of {ps : List (Int × Int)} {c : Nat} (c1 : 1 ≤ c) (per : ∀ x, gapI ps (x + (c : Int)) = gapI ps x) : Share ps (gapsN ps 0 c / gd (gapsN ps 0 c) c) ((c : Int) / gd (gapsN ps 0 c) c) := ⟨c, c1, per, rfl, rfl⟩
theorem share_nil : Share [] 1 1 := by
  refine ⟨1, Nat.le_refl 1, fun x => rfl, ?_, ?_⟩ <;> decide
theorem gapsN_one {a b : Int} (lo : Int) : ∀ w : Nat, gapsN [(a, b)] lo w = (w : Int) - cnt a b lo w := by
  intro w
  induction w with
  | zero => rfl
  | succ w ih =>
    show gapsN [(a, b)] lo w + gapI [(a, b)] (lo + (w : Int)) = _
    rw [ih]
    have e : gapI [(a, b)] (lo + (w : Int)) = if (lo + (w : Int) - b) % a = 0 then 0 else 1 := by
      unfold gapI
      show (if ((((lo + (w : Int) - b) % a == 0) || false) = true) then (0 : Int) else 1) = _
      rw [Bool.or_false]
      by_cases z : (lo + (w : Int) - b) % a = 0
      · rw [if_pos (beq_iff_eq.mpr z), if_pos z]
      · rw [if_neg (by rw [beq_iff_eq]; exact z), if_neg z]
    rw [e]
    by_cases z : (lo + (w : Int) - b) % a = 0
    · rw [cnt_yes z, if_pos z]
      omega
    · rw [cnt_no z, if_neg z]
      omega
theorem share_one {a b : Int} (h0 : 0 ≤ b) (h1 : b < a) : Share [(a, b)] (a - 1) a := by
  obtain ⟨c, rfl⟩ : ∃ c : Nat, a = c := ⟨a.toNat, by omega⟩
  have c1 : 1 ≤ c := by omega
  have e := cnt_cycle (a := (c : Int)) (b := b) h0 h1 (c := c) (Int.dvd_refl _)
  rw [Int.ediv_self (by omega)] at e
  have g : gapsN [((c : Int), b)] 0 c = (c : Int) - 1 := by rw [gapsN_one, e]
  have k : gd ((c : Int) - 1) c = 1 := by
    have q : Nat.gcd ((c : Int) - 1).natAbs (c : Int).natAbs = 1 := by
      rw [Int.natAbs_natCast, show ((c : Int) - 1).natAbs = c - 1 by omega]
      have d1 : Nat.gcd (c - 1) c ∣ c - (c - 1) := Nat.dvd_sub (Nat.gcd_dvd_right ..) (Nat.gcd_dvd_left ..)
      rw [show c - (c - 1) = 1 by omega] at d1
      exact Nat.dvd_one.mp d1
    show ((Nat.gcd ((c : Int) - 1).natAbs (c : Int).natAbs : Nat) : Int) = 1
    rw [q]
    rfl
  refine ⟨c, c1, gap_per_P fun p hp => by rw [List.mem_singleton.mp hp]; exact Int.dvd_refl _, ?_, ?_⟩
  · rw [g, k, Int.ediv_one]
  · rw [g, k, Int.ediv_one]

end Lw
namespace Lw
open PySem L2 Bar

/-! ### the program's share -/
def spShareOf (C : Addr) : Sp := fun vs H Q _ => ∃ (D : Addr) (ts : List Addr) (S : Sgn) (ps : List (Int × Int)), vs = [.ref D] ∧ H D = some (.lst (ts.map V.ref)) ∧ SgE C H ts S ∧ (∀ x, ssum S x = gapI ps x) ∧ OkS 6 S ∧ DvS S ∧ S.length ≤ 64 ∧
  ∀ t n d H', Same H H' → H' t = some (.tup [.int n, .int d]) → Share ps n d → Q (.ref t) H'
theorem gd_right {a b : Int} (h : 1 ≤ b) : 1 ≤ gd a b ∧ gd a b ≤ b := by
  have h1 : 0 < Nat.gcd a.natAbs b.natAbs := Nat.gcd_pos_of_pos_right _ (by omega)
  have h2 : Nat.gcd a.natAbs b.natAbs ≤ b.natAbs := Nat.gcd_le_right _ (by omega)
  show 1 ≤ ((Nat.gcd a.natAbs b.natAbs : Nat) : Int) ∧ ((Nat.gcd a.natAbs b.natAbs : Nat) : Int) ≤ b
  omega
section
variable {P : Program} {w : World} {K : PySem.W.Frag} {mg : Str → Option Value} {base : Heap} {C : Addr}
theorem ok_shareOf {f : Addr} {fd : FuncData} (F : Fun K "share_of" "share_of" s_share_of f fd) (T : Txt mg) (G : GTxt K C) (g_gcd : mg "gcd" = some (.builtin "math.gcd")) (g_lcm : mg "lcm" = some (.builtin "math.lcm")) : FnOk P w K mg base CX0 1 f fd P_share_of (spShareOf C) := by
  refine F.ok sc_share_of (fun vs H Q E h => ?_) (fun cdv A outer s H vs Q E hr h => ?_)
  · obtain ⟨D, ts, S, ps, rfl, _⟩ := h
    rfl
  · obtain ⟨D, ts, S, ps, rfl, hD, SE, gp, ok, ⟨B, B1, B2, dv⟩, l64, k⟩ := h
    have lt := SE.1
    have bs : ∀ {x : Int}, 1 ≤ x → x ≤ big → x.natAbs < 2 ^ 1400 := fun h1 h2 => Nat.lt_of_lt_of_le (big_size h1 h2) (Nat.pow_le_pow_right (by decide) (by decide))
    refine ⟨_, (pss_cons (ps_set (i := 1) sc_share_of.nd rfl (Or.inr rfl) pe_int)
    (pss_cons (ps_for PassesOwn.never rfl  (pi_list (pv 0)) (pg_tup rfl (pgs_cons (pg_name (i := 2) sc_share_of.nd rfl (Or.inl rfl)) (pgs_cons (pg_name (i := 3) sc_share_of.nd rfl (Or.inl rfl)) pgs_nil))) (pss_one (ps_set (i := 1) sc_share_of.nd rfl (Or.inr rfl) (pe_callBfun cr_lcm rfl g_lcm (pa_cons (pv 1) (pa_cons (pe_fld (pv 3) rfl) pa_nil))))))
    (pss_cons (ps_set (i := 4) sc_share_of.nd rfl (Or.inl rfl) (pe_callB (cr_sum rfl) rfl T.b_sum (by decide +kernel) (pa_cons (pe_lc (own := [("sign", 6), ("grid", 3)]) rfl sc_share_of.nd (pi_list (pv 0)) (blkOk_by (own := [("sign", 6), ("grid", 3)]) (N := N_share_of) (sc := defScope s_share_of) (by decide +kernel)) (fun _ _ _ _ _ => pg_tupK (K := K) (n := 2) rfl rfl (pgs_cons (pg_name (i := 6) sc_share_of.nd rfl (Or.inl rfl)) (pgs_cons (pg_name (i := 3) sc_share_of.nd rfl (Or.inl rfl)) pgs_nil))) (fun _ _ _ _ _ => pts_nil) (fun _ _ _ _ _ => (pe_op op_mulW (pv 6) (pe_op op_fdivW (pv 1) (pe_fldK (K := K) (pv 3) rfl rfl))))) pa_nil)))
    (pss_cons (ps_set (i := 5) sc_share_of.nd rfl (Or.inl rfl) (pe_callBfun cr_gcd rfl g_gcd (pa_cons (pv 4) (pa_cons (pv 1) pa_nil))))
    (pss_one (ps_ret (pe_tup (pa_cons (pe_op op_fdivW (pv 4) (pv 5)) (pa_cons (pe_op op_fdivW (pv 1) (pv 5)) pa_nil))))))))), ?_⟩
    refine Bar.rStart (σ := [some (.ref D), none, none, none, none, none, none]) rfl ?_
    walk_at "rd"
    refine Bar.forL (xs := ts.map V.ref) (fun i σ H' => H' = H ∧ ∃ (c : Nat) (x y : Option V), 1 ≤ c ∧ (c : Int) ∣ B ∧ (∀ s ∈ S.take i, s.2.1 ∣ (c : Int)) ∧ σ = [some (.ref D), some (.int (c : Nat)), x, y, none, none, none]) (SqL.of hD) ⟨rfl, 1, _, _, Nat.le_refl 1, Int.one_dvd B, (fun s hs => by cases hs), rfl⟩ (fun i σ H2 _ ⟨e, _⟩ => by rw [e]; exact SqL.of hD) ?_ ?_
    · rintro i v σ H' hv ⟨rfl, c, x, y, c1, cB, cd, rfl⟩
      rw [List.getElem?_map] at hv
      obtain ⟨t, et, rfl⟩ := Option.map_eq_some_iff.mp hv
      obtain ⟨s, g, es, ht, Gg⟩ := SE.2 i t et
      have sm := List.mem_of_getElem? es
      obtain ⟨sg, a1, a2, a3, a4⟩ := ok s sm
      have cb : (c : Int) ≤ big := Int.le_trans (Int.le_of_dvd (by omega) cB) (Int.le_trans B2 (lim_pow (Nat.le_refl 6)))
      refine rTupU (SqT.of ht) rfl ?_
      walk_at "rd"
      refine rFS G Gg ?_
      walk_at "rd"
      refine ⟨(c : Int), s.2.1, rfl, bs (by omega) cb, bs a1 (Int.le_trans a2 (lim_pow (Nat.le_refl 6))), ?_⟩
      walk_at "rd"
      have d1 : ((Nat.lcm c s.2.1.natAbs : Nat) : Int) ∣ B := by
        have q1 : c ∣ B.natAbs := Int.ofNat_dvd_left.mp cB
        have q2 : s.2.1.natAbs ∣ B.natAbs := Int.natAbs_dvd_natAbs.mpr (dv s sm)
        exact Int.ofNat_dvd_left.mpr (Nat.lcm_dvd q1 q2)
      refine ⟨rfl, Nat.lcm c s.2.1.natAbs, _, _, ?_, d1, fun s' hs' => ?_, by rw [Int.natAbs_natCast]⟩
      · have : Nat.lcm c s.2.1.natAbs ≠ 0 := fun z => by
          rw [z] at d1
          have := Int.zero_dvd.mp d1
          omega
        omega
      · rw [List.take_add_one, es] at hs'
        rcases List.mem_append.mp hs' with hs' | hs'
        · exact Int.dvd_trans (cd s' hs') (Int.ofNat_dvd.mpr (Nat.dvd_lcm_left ..))
        · rw [List.mem_singleton.mp (show s' ∈ [s] from hs')]
          exact Int.natAbs_dvd.mp (Int.ofNat_dvd.mpr (Nat.dvd_lcm_right c s.2.1.natAbs))
    · rintro σ H' ⟨rfl, c, x, y, c1, cB, cd, rfl⟩
      rw [List.length_map, lt, List.take_length] at cd
      have cb : (c : Int) ≤ big := Int.le_trans (Int.le_of_dvd (by omega) cB) (Int.le_trans B2 (lim_pow (Nat.le_refl 6)))
      have cs := bs (x := (c : Int)) (by omega) cb
      walk_at "rd"
      refine Bar.lcL (xs := ts.map V.ref) (τ := [some (.ref D), some (.int (c : Nat)), x, none, none, none, none]) rfl (SqL.of hD) (fun D2 hD2 => ⟨fun i H2 => Same H' H2 ∧ H2 D2 = some (.lst (((S.take i).map fun s => s.1 * ((c : Int) / s.2.1)).map V.int)),
        ⟨fun _ _ z => Bar.lkNew hD2 z, upd_same⟩, fun i H' _ ⟨Q, _⟩ => SqL.of (Q _ _ hD), ?_, ?_⟩)
      · rintro i v H2 hv ⟨Ks, hd⟩
        rw [List.getElem?_map] at hv
        obtain ⟨t, et, rfl⟩ := Option.map_eq_some_iff.mp hv
        have il := (List.getElem?_eq_some_iff.mp et).1
        obtain ⟨s, g, es, ht, Gg⟩ := SE.2 i t et
        obtain ⟨sg, a1, a2, a3, a4⟩ := ok s (List.mem_of_getElem? es)
        have G' := Gg.same Ks
        have d1 : CDivW (c : Int) s.2.1 := divW_ok (by omega) (bs a1 (Int.le_trans a2 (lim_pow (Nat.le_refl 6))))
        have m1 : CMulW s.1 ((c : Int) / s.2.1) := wide_mul (show s.1.natAbs < 2 ^ 2 by rcases sg with e | e <;> (rw [e]; decide)) (Nat.lt_of_le_of_lt (Int.natAbs_ediv_le_natAbs _ _) cs) (by decide) (by decide) (by decide)
        refine rTupU (SqT.of (Ks _ _ ht)) rfl ?_
        walk_at "rd"
        refine ⟨rfl, ?_⟩
        walk_at "rd"
        refine rFS G G' ?_
        walk_at "rd"
        refine ⟨_, hd, Bar.szLt (by rw [List.length_map, List.length_map, List.length_take]; omega), fun q o z => ?_, ?_⟩
        · rw [upd_ne (ne_of_none z hD2)]
          exact Ks _ _ z
        · rw [upd_same, List.take_add_one, es, List.map_append, List.map_append]
          rfl
      · rintro H3 ⟨K3, hd⟩
        rw [List.length_map, lt, List.take_length] at hd
        have sh := Share.of c1 (gap_per_S gp cd)
        rw [← share_gaps gp (fun s hs => ⟨(ok s hs).2.2.2.1, (ok s hs).2.2.2.2⟩) cd] at sh
        walk_at "rd"
        refine rSum_ (SqL.of hd) ?_
        generalize (S.map fun s => s.1 * ((c : Int) / s.2.1)).sum = gn at *
        walk_at "rd"
        refine ⟨gn, (c : Int), rfl, ?_⟩
        have eD : ((Nat.gcd gn.natAbs (c : Int).natAbs : Nat) : Int) = gd gn c := rfl
        rw [eD]
        obtain ⟨g1, g2⟩ := gd_right (a := gn) (b := (c : Int)) (by omega)
        have gs : (gd gn c).natAbs < 2 ^ 1400 := bs g1 (Int.le_trans g2 cb)
        have e1 : CDivW gn (gd gn c) := divW_ok (by omega) gs
        have e2 : CDivW (c : Int) (gd gn c) := divW_ok (by omega) gs
        walk_at "rd"
        intro t ht
        exact k t _ _ _ (fun _ _ z => Bar.lkNew ht (K3 _ _ z)) upd_same sh
end


/-! ### the bounds of the gap with so many gaps before it -/
theorem cnt_near {a b lo : Int} (h0 : 0 ≤ b) (h1 : b < a) (n : Nat) : (n : Int) - a < a * (cnt a b lo n : Int) ∧ a * (cnt a b lo n : Int) < (n : Int) + a := by
  have e := cnt_bw (b := b) (lo := lo) (show 0 < a by omega) n
  rw [Int.emod_eq_of_lt h0 h1] at e
  rw [e]
  unfold bw
  by_cases z : lo + (n : Int) ≤ lo
  · rw [if_pos z, Int.mul_zero]
    omega
  · rw [if_neg z, Int.mul_sub]
    have q1 := Int.mul_ediv_add_emod (lo + (n : Int) - 1 - b) a
    have q2 := Int.mul_ediv_add_emod (lo - 1 - b) a
    have m1 := Int.emod_nonneg (lo + (n : Int) - 1 - b) (show a ≠ 0 by omega)
    have m2 := Int.emod_lt_of_pos (lo + (n : Int) - 1 - b) (show 0 < a by omega)
    have m3 := Int.emod_nonneg (lo - 1 - b) (show a ≠ 0 by omega)
    have m4 := Int.emod_lt_of_pos (lo - 1 - b) (show 0 < a by omega)
    omega
theorem sum_mul (c : Int) {α : Type} : ∀ (l : List α) (f : α → Int), c * (l.map f).sum = (l.map fun a => c * f a).sum
  | [], _ => by simp
  | a :: l, f => by
    rw [List.map_cons, List.map_cons, List.sum_cons, List.sum_cons, Int.mul_add, sum_mul c l f]
theorem sum_sub' {α : Type} : ∀ (l : List α) (f g : α → Int), (l.map f).sum - (l.map g).sum = (l.map fun a => f a - g a).sum
  | [], _, _ => rfl
  | a :: l, f, g => by
    rw [List.map_cons, List.map_cons, List.map_cons, List.sum_cons, List.sum_cons, List.sum_cons, ← sum_sub' l f g]
    omega
theorem sum_abs {α : Type} (c : Int) : ∀ (l : List α) (f : α → Int), (∀ a ∈ l, -c < f a ∧ f a < c) → -(c * l.length) ≤ (l.map f).sum ∧ (l.map f).sum ≤ c * l.length ∧ (l ≠ [] → -(c * l.length) < (l.map f).sum ∧ (l.map f).sum < c * l.length)
  | [], _, _ => ⟨by simp, by simp, fun h => absurd rfl h⟩
  | a :: l, f, h => by
    obtain ⟨i1, i2, _⟩ := sum_abs c l f fun b hb => h b (List.mem_cons_of_mem _ hb)
    obtain ⟨h1, h2⟩ := h a (List.mem_cons_self ..)
    have e : c * ((a :: l).length : Int) = c * l.length + c := by
      rw [List.length_cons, Int.natCast_add, Int.mul_add]
      simp
    rw [List.map_cons, List.sum_cons, e]
    exact ⟨by omega, by omega, fun _ => ⟨by omega, by omega⟩⟩
/-- among n integers in a row: the gaps, times the cycle, are near n times the gaps of a cycle -/
theorem gaps_near {S : Sgn} {ps : List (Int × Int)} {c : Nat} (c1 : 1 ≤ c) (h : ∀ x, ssum S x = gapI ps x) (sg : ∀ s ∈ S, s.1 = 1 ∨ s.1 = -1) (ok : ∀ s ∈ S, 0 ≤ s.2.2 ∧ s.2.2 < s.2.1) (dv : ∀ s ∈ S, s.2.1 ∣ (c : Int)) (ne : S ≠ []) (lo : Int) (n : Nat) :
    -((c : Int) * S.length) < (c : Int) * gapsN ps lo n - (n : Int) * gapsN ps 0 c ∧ (c : Int) * gapsN ps lo n - (n : Int) * gapsN ps 0 c < (c : Int) * S.length := by
  rw [← count_eq h, ← share_gaps h ok dv, sum_mul, sum_mul, sum_sub']
  refine (sum_abs (c : Int) S _ fun s hs => ?_).2.2 ne
  obtain ⟨o0, o1⟩ := ok s hs
  obtain ⟨q, hq⟩ := dv s hs
  have eq : (c : Int) / s.2.1 = q := Int.ediv_eq_of_eq_mul_right (by omega) hq
  obtain ⟨n1, n2⟩ := cnt_near (lo := lo) o0 o1 n
  have q1 : 1 ≤ q := by
    by_cases z : 1 ≤ q
    · exact z
    · have : s.2.1 * q ≤ 0 := Int.mul_nonpos_of_nonneg_of_nonpos (by omega) (by omega)
      omega
  have e : (c : Int) * (s.1 * (cnt s.2.1 s.2.2 lo n : Int)) - (n : Int) * (s.1 * ((c : Int) / s.2.1)) = s.1 * (q * (s.2.1 * (cnt s.2.1 s.2.2 lo n : Int) - n)) := by
    rw [eq, hq]
    grind
  rw [e]
  have d1 : -s.2.1 < s.2.1 * (cnt s.2.1 s.2.2 lo n : Int) - (n : Int) := by omega
  have d2 : s.2.1 * (cnt s.2.1 s.2.2 lo n : Int) - (n : Int) < s.2.1 := by omega
  generalize s.2.1 * (cnt s.2.1 s.2.2 lo n : Int) - (n : Int) = d at *
  have m1 : q * d < q * s.2.1 := Int.mul_lt_mul_of_pos_left d2 (by omega)
  have m2 : q * (-s.2.1) < q * d := Int.mul_lt_mul_of_pos_left d1 (by omega)
  have ec : q * s.2.1 = c := by rw [Int.mul_comm]; exact hq.symm
  rw [Int.mul_neg, ec] at m2
  rw [ec] at m1
  rcases sg s hs with e | e
  · rw [e, Int.one_mul]
    exact ⟨by omega, by omega⟩
  · rw [e, Int.neg_mul, Int.one_mul]
    exact ⟨by omega, by omega⟩

end Lw
namespace Lw
open PySem L2 Bar

/-! ### the gap with so many gaps before it -/
theorem gapsN_full {ps : List (Int × Int)} (h : ∀ x, hits ps x = true) (lo : Int) : ∀ m : Nat, gapsN ps lo m = 0
  | 0 => rfl
  | m + 1 => by
    show gapsN ps lo m + gapI ps (lo + (m : Int)) = 0
    rw [gapsN_full h lo m]
    unfold gapI
    rw [h]
    rfl
theorem gapsN_none {ps : List (Int × Int)} (lo : Int) : ∀ m : Nat, gapsN ps lo m = 0 → ∀ i : Nat, i < m → hits ps (lo + i) = true
  | 0, _, i, hi => absurd hi (by omega)
  | m + 1, h, i, hi => by
    have e : gapsN ps lo (m + 1) = gapsN ps lo m + gapI ps (lo + (m : Int)) := rfl
    obtain ⟨g0, _⟩ := gapsN_le ps lo m
    obtain ⟨i0, _⟩ := gapI_01 ps (lo + (m : Int))
    by_cases z : i = m
    · subst z
      have q : gapI ps (lo + (i : Int)) = 0 := by omega
      unfold gapI at q
      by_cases w : hits ps (lo + (i : Int)) = true
      · exact w
      · rw [if_neg w] at q
        cases q
    · exact gapsN_none lo m (by omega) i (by omega)
theorem gapsN_mono (ps : List (Int × Int)) (lo : Int) {a b : Nat} (h : a ≤ b) : gapsN ps lo a ≤ gapsN ps lo b := by
  obtain ⟨k, rfl⟩ := Nat.exists_eq_add_of_le h
  rw [gapsN_add]
  have := (gapsN_le ps (lo + (a : Int)) k).1
  omega
/-- the share, and how near so many integers in a row come to it -/
theorem share_near {S : Sgn} {ps : List (Int × Int)} {n d : Int} (l6 : ps.length ≤ 6) (sh : Share ps n d) (h : ∀ x, ssum S x = gapI ps x) (ok : OkS 6 S) (dv : DvS S) :
    1 ≤ d ∧ d ≤ lim ^ 6 ∧ 0 ≤ n ∧ ((∀ x, hits ps x = true) → n = 0) ∧ (n = 0 → ∀ x, hits ps x = true) ∧
      (n ≠ 0 → ∀ (lo : Int) (m : Nat), -(d * S.length) < d * gapsN ps lo m - m * n ∧ d * gapsN ps lo m - m * n < d * S.length) := by
  obtain ⟨B, B1, B2, dv⟩ := dv
  obtain ⟨c, rfl⟩ : ∃ c : Nat, B = c := ⟨B.toNat, by omega⟩
  have c1 : 1 ≤ c := by omega
  have per := gap_per_S h dv
  obtain ⟨rfl, rfl⟩ := sh.uniq (Share.of c1 per)
  obtain ⟨G0, G1⟩ := gapsN_le ps 0 c
  obtain ⟨g1, g2⟩ := gd_right (a := gapsN ps 0 c) (b := (c : Int)) (by omega)
  obtain ⟨a, ea⟩ := gd_dl (gapsN ps 0 c) (c : Int)
  obtain ⟨b, eb⟩ := gd_dr (gapsN ps 0 c) (c : Int)
  have near := fun ne lo m => gaps_near c1 h (fun s hs => (ok s hs).1) (fun s hs => ⟨(ok s hs).2.2.2.1, (ok s hs).2.2.2.2⟩) dv ne lo m
  have full : gapsN ps 0 c = 0 → ∀ x, hits ps x = true := fun z => by
    have m64 := gapsN_mul per 64
    rw [z, Int.mul_zero] at m64
    refine hits_all (a := 0) fun i hi => gapsN_none 0 _ m64 i ?_
    have := pow_six l6
    omega
  have none' : (∀ x, hits ps x = true) → gapsN ps 0 c = 0 := fun z => gapsN_full z 0 c
  generalize gd (gapsN ps 0 c) (c : Int) = g at *
  generalize gapsN ps 0 c = G at *
  have e1 : G / g = a := Int.ediv_eq_of_eq_mul_right (by omega) ea
  have e2 : (c : Int) / g = b := Int.ediv_eq_of_eq_mul_right (by omega) eb
  rw [e1, e2]
  have b1 : 1 ≤ b := by
    by_cases z : 1 ≤ b
    · exact z
    · have : g * b ≤ 0 := Int.mul_nonpos_of_nonneg_of_nonpos (by omega) (by omega)
      omega
  have a0 : 0 ≤ a := by
    by_cases z : 0 ≤ a
    · exact z
    · have : g * a < 0 := Int.mul_neg_of_pos_of_neg (by omega) (by omega)
      omega
  have bc : b ≤ c := by
    have : 1 * b ≤ g * b := Int.mul_le_mul_of_nonneg_right g1 (by omega)
    omega
  have za : a = 0 ↔ G = 0 := by
    constructor
    · intro z
      rw [ea, z, Int.mul_zero]
    · intro z
      rw [z] at ea
      rcases Int.mul_eq_zero.mp ea.symm with z | z
      · omega
      · exact z
  refine ⟨b1, Int.le_trans bc B2, a0, fun z => za.mpr (none' z), fun z => full (za.mp z), fun nz lo m => ?_⟩
  have ne : S ≠ [] := fun z => nz (za.mpr (none' fun x => by
    have hx := h x
    rw [z] at hx
    unfold gapI at hx
    by_cases w : hits ps x = true
    · exact w
    · rw [if_neg w] at hx
      cases hx))
  obtain ⟨n1, n2⟩ := near ne lo m
  rw [ea, eb] at n1 n2
  generalize gapsN ps lo m = q at *
  generalize (S.length : Int) = l at *
  generalize (m : Int) = k at *
  have f1 : g * b * q - k * (g * a) = g * (b * q - k * a) := by grind
  have f2 : g * b * l = g * (b * l) := by grind
  rw [f1, f2] at n1 n2
  rw [← Int.mul_neg] at n1
  exact ⟨Int.lt_of_mul_lt_mul_left n1 (by omega), Int.lt_of_mul_lt_mul_left n2 (by omega)⟩
abbrev Top : Int := 10 ^ 300
/-- where the search begins -/
theorem nth_start {ps : List (Int × Int)} {n d s c l : Int} (near : ∀ (lo : Int) (m : Nat), -(d * l) < d * gapsN ps lo m - m * n ∧ d * gapsN ps lo m - m * n < d * l) (d1 : 1 ≤ d) (d2 : d ≤ lim ^ 6) (n1 : 1 ≤ n) (c0 : 0 ≤ c) (c1 : c ≤ 10 ^ 31) (l0 : 0 ≤ l) (l1 : l ≤ 64) {M : Int} (hM : M = if c - l > 0 then c - l else 0) :
    ∃ a b : Nat, M * d / n = a ∧ (c + l) * d / n + 1 = b ∧ a < b ∧ (b : Int) < Top ∧ gapsN ps s a ≤ c ∧ c < gapsN ps s b := by
  have M0 : 0 ≤ M := by rw [hM]; split <;> omega
  have q0 : 0 ≤ M * d / n := Int.ediv_nonneg (Int.mul_nonneg M0 (by omega)) (by omega)
  have q1 : 0 ≤ (c + l) * d / n := Int.ediv_nonneg (Int.mul_nonneg (by omega) (by omega)) (by omega)
  obtain ⟨a, ha⟩ : ∃ a : Nat, M * d / n = a := ⟨(M * d / n).toNat, by omega⟩
  obtain ⟨b, hb⟩ : ∃ b : Nat, (c + l) * d / n + 1 = b := ⟨((c + l) * d / n + 1).toNat, by omega⟩
  have ca : gapsN ps s a ≤ c := by
    by_cases z : c - l > 0
    · rw [if_pos z] at hM
      have e := Int.mul_ediv_add_emod (M * d) n
      have e0 := Int.emod_nonneg (M * d) (show n ≠ 0 by omega)
      have nr := (near s a).2
      rw [← ha] at nr
      have nq : M * d / n * n ≤ M * d := by rw [Int.mul_comm (M * d / n)]; omega
      have lt : d * gapsN ps s (M * d / n).toNat < d * c := by
        have e3 : M * d = d * c - d * l := by rw [hM]; grind
        have e4 : (M * d / n).toNat = a := by omega
        rw [e4]
        omega
      have e4 : (M * d / n).toNat = a := by omega
      rw [e4] at lt
      exact Int.le_of_lt (Int.lt_of_mul_lt_mul_left lt (by omega))
    · rw [if_neg z] at hM
      rw [hM, Int.zero_mul, Int.zero_ediv] at ha
      have : a = 0 := by omega
      rw [this]
      exact c0
  have cb : c < gapsN ps s b := by
    have e := Int.mul_ediv_add_emod ((c + l) * d) n
    have e1 := Int.emod_lt_of_pos ((c + l) * d) (show 0 < n by omega)
    have nr := (near s b).1
    rw [← hb] at nr
    have nqX : ∀ X : Int, X % n < n → n * (X / n) + X % n = X → X < (X / n + 1) * n := fun X h1 h2 => by
      rw [Int.add_mul, Int.one_mul, Int.mul_comm (X / n)]
      omega
    have nq := nqX _ e1 e
    have e3 : (c + l) * d = d * c + d * l := by grind
    have lt : d * c < d * gapsN ps s b := by omega
    exact Int.lt_of_mul_lt_mul_left lt (by omega)
  refine ⟨a, b, ha, hb, ?_, ?_, ca, cb⟩
  · by_cases z : a < b
    · exact z
    · have := gapsN_mono ps s (show b ≤ a by omega)
      omega
  · have h1 : (c + l) * d / n ≤ (c + l) * d := Int.ediv_le_self _ (Int.mul_nonneg (by omega) (by omega))
    have h2 : (c + l) * d ≤ (c + l) * lim ^ 6 := Int.mul_le_mul_of_nonneg_left d2 (by omega)
    have h3 : (c + l) * lim ^ 6 ≤ (10 ^ 31 + 64) * lim ^ 6 := Int.mul_le_mul_of_nonneg_right (by omega) (by decide)
    have h4 : ((10 : Int) ^ 31 + 64) * lim ^ 6 + 1 < Top := by decide
    omega
def spNthX (C CT CN : Addr) : Sp := fun vs H Q E => ∃ (L : Addr) (s c : Int), vs = [.ref L, .int s, .int c] ∧
  ((∃ gs ps, GridsS C H L gs ps ∧ Lim ps ∧ ps.length ≤ 6 ∧ c ≤ 10 ^ 31 ∧
      ((c < 0 ∧ ∀ d H', H d = none → Same H H' → H' d = some (.xd [("value", .int c)]) → E (.ref CN) (some d) H') ∨
       (0 ≤ c ∧ (∀ H', Same H H' → (∀ x, hits ps x = true) → Q .non H') ∧ ∀ x H', Same H H' → s ≤ x → x - s < Top → hits ps x = false → gapsB ps s x = c → Q (.int x) H'))) ∨
   ∃ xs, SeqH H L xs ∧ 6 < xs.length ∧ ∀ d H', H d = none → Same H H' → H' d = some (.xd [("most", .int 6), ("kind", .str "grids")]) → E (.ref CT) (some d) H')
theorem rMax2 {i j : Int} {H : Hp} {Q : VK} (h : Q (.int (if j > i then j else i)) H) : ∃ i' j', [V.int i, V.int j] = [V.int i', V.int j'] ∧ Q (.int (if j' > i' then j' else i')) H := ⟨i, j, rfl, h⟩
section
variable {P : Program} {w : World} {K : PySem.W.Frag} {mg : Str → Option Value} {base : Heap} {C : Addr}
theorem ok_eBadNumber {f C CB : Addr} {fd : FuncData} (F : Fun K "__init__" "BadNumber.__init__" s_BadNumber___init__ f fd) (eb : EBase K mg "BarclipsError" CB) (O : OexC K C) (no : PySem.W.findIn K (.ref C) "value" = some none) : FnOk P w K mg base CX0 1 f fd P_BadNumber___init__ (spErr1 C "value" (fun _ => True)) := by
  refine F.ok sc_BadNumber___init__ (fun vs H Q E h => ?_) (fun cdv A outer s H vs Q E hr h => ?_)
  · obtain ⟨a, v, rfl, _⟩ := h
    rfl
  · obtain ⟨a, v, rfl, ha, _, k⟩ := h
    refine ⟨_, (pss_cons (ps_expr (pe_baseInit eb rfl (pa_cons (pv 0) (pa_cons pe_str pa_nil))))
    (pss_one (ps_ost (pv 0) (pv 1) rfl))), ?_⟩
    refine Bar.rStart (σ := [some (.ref a), some v]) rfl ?_
    walk_at "rd"
    refine ⟨a, C, _, rfl, by decide, O, ha, ?_⟩
    walk_at "rd"
    refine ⟨a, C, rfl, O, no, .inl ⟨ha, fun d hd ne => ?_⟩⟩
    walk_at "rd"
    exact k d hd ne

theorem ok_nthX {f CT CN : Addr} {fd : FuncData} (F : Fun K "nth_gap" "nth_gap" s_nth_gap f fd) (T : Txt mg) (fxcheck_grids : FnX P w K mg base "check_grids" P_check_grids [] 3 (spCheckX CT)) (er_BadNumber : Err P w K mg base "BadNumber" CN P_BadNumber___init__ 1 (spErr1 CN "value" (fun _ => True)))
    (fsigned_commons : Fn P w K mg base "signed_commons" P_signed_commons [] 4 (spSigned C)) (fshare_of : Fn P w K mg base "share_of" P_share_of [] 1 (spShareOf C)) (fcount_between : Fn P w K mg base "count_between" P_count_between [] 3 (spCountB C)) : FnOk P w K mg base (L2.CX P w) 5 f fd P_nth_gap (spNthX C CT CN) := by
  refine F.okX sc_nth_gap (fun vs H Q E h => ?_) (fun cdv A outer st H vs Q E hr h => ?_)
  · obtain ⟨L, s, c, rfl, _⟩ := h
    rfl
  · obtain ⟨L, s, c, rfl, h⟩ := h
    refine ⟨_, (pss_cons (ps_expr (pe_fnX fxcheck_grids (takes_of rfl rfl rfl rfl) (hr.mono (by omega)) rfl (pa_cons (pv 0) pa_nil)))
    (pss_cons (ps_if (pt_cmpR op_lt (pv 2) pe_int (nomark _)) (pss_one (ps_raise rfl (takes_of rfl rfl rfl rfl) (pmk_err er_BadNumber (hr.mono (by omega)) rfl (pa_cons (pv 2) pa_nil)))) pss_nil)
    (pss_cons (ps_set (i := 3) sc_nth_gap.nd rfl (Or.inl rfl) (pe_fn fsigned_commons (hr.mono (by omega)) rfl (pa_cons (pv 0) pa_nil)))
    (pss_cons (ps_asg (pe_fn fshare_of (hr.mono (by omega)) rfl (pa_cons (pv 3) pa_nil)) (pg_tup rfl (pgs_cons (pg_name (i := 4) sc_nth_gap.nd rfl (Or.inl rfl)) (pgs_cons (pg_name (i := 5) sc_nth_gap.nd rfl (Or.inl rfl)) pgs_nil))))
    (pss_cons (ps_if (pt_cmpR op_eq (pv 4) pe_int (nomark _)) (pss_one (ps_ret pe_non)) pss_nil)
    (pss_cons (ps_set (i := 6) sc_nth_gap.nd rfl (Or.inl rfl) (pe_callB c_len rfl T.b_len PySem.boot_len (pa_cons (pv 3) pa_nil)))
    (pss_cons (ps_set (i := 7) sc_nth_gap.nd rfl (Or.inl rfl) (pe_op op_add (pv 1) (pe_op op_fdivW (pe_op op_mulW (pe_callB (call_max2 rfl) rfl T.b_max (by decide +kernel) (pa_cons pe_int (pa_cons (pe_op op_sub (pv 2) (pv 6)) pa_nil))) (pv 5)) (pv 4))))
    (pss_cons (ps_set (i := 8) sc_nth_gap.nd rfl (Or.inl rfl) (pe_op op_add (pe_op op_add (pv 1) (pe_op op_fdivW (pe_op op_mulW (pe_op op_add (pv 2) (pv 6)) (pv 5)) (pv 4))) pe_int))
    (pss_cons (ps_while PassesOwn.leaving (pt_cmpR op_gt (pe_op op_sub (pv 8) (pv 7)) pe_int (nomark _)) (pss_cons (ps_set (i := 9) sc_nth_gap.nd rfl (Or.inl rfl) (pe_op op_fdiv (pe_op op_add (pv 7) (pv 8)) pe_int))
    (pss_one (ps_if (pt_cmpR op_gt (pe_fn fcount_between (hr.mono (by omega)) rfl (pa_cons (pv 3) (pa_cons (pv 1) (pa_cons (pv 9) pa_nil)))) (pv 2) (nomark _)) (pss_one (ps_set (i := 8) sc_nth_gap.nd rfl (Or.inl rfl) (pv 9))) (pss_one (ps_set (i := 7) sc_nth_gap.nd rfl (Or.inl rfl) (pv 9)))))))
    (pss_one (ps_ret (pv 7)))))))))))), ?_⟩
    refine Bar.rStart (σ := [some (.ref L), some (.int s), some (.int c), none, none, none, none, none, none, none]) rfl ?_
    rcases h with ⟨gs, ps, GA, lm, l6, c31, h⟩ | ⟨xs, hL, l7, k⟩
    · have lg := GA.2.1
      walk_at "rd"
      refine ⟨L, _, rfl, GA.1, fun _ => ?_, fun z => absurd z (by rw [List.length_map]; omega)⟩
      walk_at "rd"
      rcases h with ⟨c0, k⟩ | ⟨c0, k1, k2⟩
      · refine ite2 (fun h => ?_) (fun h => absurd (decide_eq_true c0) h)
        walk_at "rd"
        exact rErr1 trivial k
      · refine ite2 (fun h => absurd (of_decide_eq_true h) (by omega)) (fun h => ?_)
        walk_at "rd"
        refine ⟨L, gs, ps, rfl, GA, lm, l6, fun D ts S H1 S1 hD SE gp ok dv l64 => ?_⟩
        walk_at "rd"
        refine ⟨D, ts, S, ps, rfl, hD, SE, gp, ok, dv, l64, fun t n d H2 S2 ht sh => ?_⟩
        obtain ⟨d1, d2, n0, _, nfull, near⟩ := share_near l6 sh gp ok dv
        have hD2 := S2 _ _ hD
        have SE2 := SE.same S2
        have S02 : Same H H2 := fun _ _ z => S2 _ _ (S1 _ _ z)
        refine rTupU (SqT.of ht) rfl ?_
        walk_at "rd"
        refine ite2 (fun h => ?_) (fun h => ?_)
        · walk_at "rd"
          exact k1 _ S02 (nfull (of_decide_eq_true h))
        · have nz : n ≠ 0 := fun z => h (decide_eq_true z)
          have lt := SE.1
          walk_at "rd"
          refine ⟨_, _, rfl, ?_⟩
          dsimp only
          have eL : ((ts.map V.ref).length : Int) = (S.length : Int) := by rw [List.length_map, lt]
          rw [eL]
          obtain ⟨a0, b0, ea, eb, ab, bT, ga, gb⟩ := nth_start (s := s) (near nz) d1 d2 (show 1 ≤ n by omega) c0 c31 (show (0 : Int) ≤ S.length by omega) (show (S.length : Int) ≤ 64 by omega) rfl
          have w64 : (S.length : Int) ≤ 64 := by omega
          have dS : d.natAbs < 2 ^ 1400 := by
            have : d.natAbs ≤ (10 ^ 34) ^ 6 := by
              have e : (lim : Int) ^ 6 = (((10 ^ 34) ^ 6 : Nat) : Int) := by decide
              omega
            exact Nat.lt_of_le_of_lt this (by decide)
          have m1 : CMulW (if c - (S.length : Int) > 0 then c - (S.length : Int) else 0) d := mulW_ok (by
            have : (if c - (S.length : Int) > 0 then c - (S.length : Int) else 0).natAbs ≤ 10 ^ 31 := by split <;> omega
            exact Nat.lt_of_le_of_lt this (by decide)) dS
          have m2 : CMulW (c + (S.length : Int)) d := mulW_ok (by
            have : (c + (S.length : Int)).natAbs ≤ 10 ^ 31 + 64 := by omega
            exact Nat.lt_of_le_of_lt this (by decide)) dS
          have nS : n.natAbs < 2 ^ 1400 := by
            have nd : n ≤ d := by
              obtain ⟨cc, cc1, _, e1, e2⟩ := sh
              obtain ⟨_, g1⟩ := gapsN_le ps 0 cc
              rw [e1, e2]
              exact Int.ediv_le_ediv (by have := (gd_right (a := gapsN ps 0 cc) (b := (cc : Int)) (by omega)).1; omega) g1
            omega
          have q1 : CDivW ((if c - (S.length : Int) > 0 then c - (S.length : Int) else 0) * d) n := divW_ok (by omega) nS
          have q2 : CDivW ((c + (S.length : Int)) * d) n := divW_ok (by omega) nS
          walk_at "rd"
          rw [ea]
          walk_at "rd"
          rw [show s + (c + (S.length : Int)) * d / n + 1 = s + (b0 : Int) by omega]
          walk_at "rd"
          refine ⟨fun z σ H' => Same H2 H' ∧ ∃ (a b : Nat) (mid : Option V), z = b - a ∧ a < b ∧ b ≤ b0 ∧ gapsN ps s a ≤ c ∧ c < gapsN ps s b ∧ σ = [some (.ref L), some (.int s), some (.int c), some (.ref D), some (.int n), some (.int d), some (.int (S.length : Int)), some (.int (s + (a : Int))), some (.int (s + (b : Int))), mid], ⟨_, fun _ _ z => z, a0, b0, _, rfl, ab, Nat.le_refl _, ga, gb, rfl⟩, ?_⟩
          rintro z σ H' ⟨SH, a, b, mid, rfl, lab, lb0, ha, hb, rfl⟩
          walk_at "rd"
          refine ite2 (fun h => ?_) (fun h => ?_)
          · have big1 := of_decide_eq_true h
            refine ⟨fun σ' H'' => ∃ m', m' < b - a ∧ Same H2 H'' ∧ ∃ (a b : Nat) (mid : Option V), m' = b - a ∧ a < b ∧ b ≤ b0 ∧ gapsN ps s a ≤ c ∧ c < gapsN ps s b ∧ σ' = [some (.ref L), some (.int s), some (.int c), some (.ref D), some (.int n), some (.int d), some (.int (S.length : Int)), some (.int (s + (a : Int))), some (.int (s + (b : Int))), mid], fun _ _ h => h, ?_⟩
            walk_at "rd"
            have em : (s + (a : Int) + (s + (b : Int))) / 2 = s + (((a + b) / 2 : Nat) : Int) := by omega
            rw [em]
            have m3 : a < (a + b) / 2 := by omega
            have m4 : (a + b) / 2 < b := by omega
            generalize (a + b) / 2 = m at *
            have wd : (s + (m : Int) - s).natAbs < 2 ^ 1400 := by
              have : (s + (m : Int) - s).natAbs ≤ 10 ^ 300 := by
                have e : (Top : Int) = ((10 ^ 300 : Nat) : Int) := by decide
                omega
              exact Nat.lt_of_le_of_lt this (by decide)
            refine ⟨D, ts, S, ps, s, s + (m : Int), rfl, SH _ _ hD2, SE2.same SH, gp, ok, l64, wd, fun H3 S3 => ?_⟩
            have eB : gapsB ps s (s + (m : Int)) = gapsN ps s m := by
              unfold gapsB
              rw [if_neg (by omega), show s + (m : Int) - s = (m : Int) by omega, Int.toNat_natCast]
            rw [eB]
            have SH3 : Same H2 H3 := fun _ _ z => S3 _ _ (SH _ _ z)
            walk_at "rd"
            refine ite2 (fun h => ?_) (fun h => ?_)
            · have gt := of_decide_eq_true h
              walk_at "rd"
              exact ⟨_, by omega, SH3, a, m, _, rfl, m3, by omega, ha, gt, rfl⟩
            · have le : ¬ gapsN ps s m > c := fun z => h (decide_eq_true z)
              walk_at "rd"
              exact ⟨_, by omega, SH3, m, b, _, rfl, m4, lb0, by omega, hb, rfl⟩
          · have small : ¬ s + (b : Int) - (s + (a : Int)) > 1 := fun z => h (decide_eq_true z)
            have eb1 : b = a + 1 := by omega
            subst eb1
            have e1 : gapsN ps s (a + 1) = gapsN ps s a + gapI ps (s + (a : Int)) := rfl
            obtain ⟨i0, i1⟩ := gapI_01 ps (s + (a : Int))
            have eI : gapI ps (s + (a : Int)) = 1 := by omega
            have eh : hits ps (s + (a : Int)) = false := by
              unfold gapI at eI
              cases q : hits ps (s + (a : Int)) with
              | false => rfl
              | true => rw [q] at eI; cases eI
            have eB : gapsB ps s (s + (a : Int)) = c := by
              unfold gapsB
              by_cases z : s + (a : Int) ≤ s
              · rw [if_pos z]
                have : a = 0 := by omega
                subst this
                have e0 : gapsN ps s 0 = 0 := rfl
                omega
              · rw [if_neg z, show s + (a : Int) - s = (a : Int) by omega, Int.toNat_natCast]
                omega
            walk_at "rd"
            exact k2 _ _ (fun _ _ z => SH _ _ (S02 _ _ z)) (by omega) (by omega) eh eB
    · walk_at "rd"
      exact ⟨L, _, rfl, hL, fun z => absurd z (by omega), fun _ d H' hd S e => k d H' hd S e⟩
end

end Lw
namespace Lw
open PySem L2 Bar

def spLaw (K : PySem.W.Frag) : Sp := fun vs H Q _ => ∃ (a : Addr) (ns : List Int), vs = [.ref a] ∧ SqL K H a (ns.map V.int) ∧ ns.length ≤ 63 ∧ ∀ H', Q (.bl true) H'
/-- what stands for a gap with c gaps before it -/
def Nth (ps : List (Int × Int)) (s c : Int) : Option Int → Prop
  | none => ∀ x, hits ps x = true
  | some x => s ≤ x ∧ x - s < Top ∧ hits ps x = false ∧ gapsB ps s x = c
def NegAt (c : Int) (H : Hp) (r : Addr) : Prop := ∃ t, H r = some (.lst [.non, .ref t]) ∧ H t = some (.lst [.int c, .bl true, .bl true, .bl false])
def spAskN (C : Addr) : Sp := fun vs H Q _ => ∃ (L : Addr) (s c : Int), vs = [.ref L, .int s, .int c] ∧
  ((∃ gs ps, GridsS C H L gs ps ∧ Lim ps ∧ ps.length ≤ 6 ∧ c ≤ 10 ^ 31 ∧
      ((c < 0 ∧ ∀ r H', Same H H' → NegAt c H' r → Q (.ref r) H') ∨ (0 ≤ c ∧ ∀ o r H', Same H H' → H' r = some (.lst [oV o, .non]) → Nth ps s c o → Q (.ref r) H'))) ∨
   ∃ xs, SeqH H L xs ∧ 6 < xs.length ∧ ∀ r H', Same H H' → RefAt H' r → Q (.ref r) H')
def spHeld : Sp := fun vs H Q _ => ∃ (R : Addr) (ts : List Addr) (pr : Addr → Int × Int), vs = [.ref R] ∧ RowsAt H R ts pr ∧ ts.length ≤ 6 ∧ ∀ b : Bool, (b = true → ∀ x, hits (ts.map pr) x = true) → (b = false → ∃ x, hits (ts.map pr) x = false) → Q (.bl b) H
def spRight : Sp := fun vs H Q _ => ∃ (R D r : Addr) (ts us : List Addr) (pr : Addr → Int × Int) (S : Sgn) (s c : Int) (o : Option Int), vs = [.ref R, .ref D, .int s, .int c, .ref r] ∧ RowsAt H R ts pr ∧ ts.length ≤ 6 ∧ H D = some (.lst (us.map V.ref)) ∧ TmE H us S ∧ (∀ x, ssum S x = gapI (ts.map pr) x) ∧ OkS 6 S ∧ S.length ≤ 64 ∧
  H r = some (.lst [oV o, .non]) ∧ Nth (ts.map pr) s c o ∧ ∀ H', Same H H' → Q (.bl true) H'
theorem sameNeg {c : Int} {H : Hp} {r r' : Addr} (h : NegAt c H r) (h' : NegAt c H r') : SameAt H 3 (.ref r) (.ref r') := by
  obtain ⟨t, h1, h2⟩ := h
  obtain ⟨t', h1', h2'⟩ := h'
  refine .inr ⟨r, r', _, _, rfl, rfl, .inl ⟨h1, h1'⟩, by simp, rfl, fun i u v hu hv => ?_⟩
  match i, hu, hv with
  | 0, hu, hv =>
    cases hu
    cases hv
    exact .inl ⟨rfl, trivial⟩
  | 1, hu, hv =>
    cases hu
    cases hv
    refine .inr ⟨t, t', _, _, rfl, rfl, .inl ⟨h2, h2'⟩, by simp, rfl, fun i u v hu hv => ?_⟩
    cases hu.symm.trans hv
    have hm := List.mem_of_getElem? hu
    simp only [List.mem_cons, List.not_mem_nil, or_false] at hm
    rcases hm with e | e | e | e <;> subst e <;> exact .inl ⟨rfl, trivial⟩
theorem NegAt.same {c : Int} {H H' : Hp} {r : Addr} (S : Same H H') (h : NegAt c H r) : NegAt c H' r := by
  obtain ⟨t, h1, h2⟩ := h
  exact ⟨t, S _ _ h1, S _ _ h2⟩
theorem top_wide {x : Int} (h0 : 0 ≤ x) (h : x < Top) : x.natAbs < 2 ^ 1400 := by
  have e : (Top : Int) = ((10 ^ 300 : Nat) : Int) := by decide
  have : x.natAbs ≤ 10 ^ 300 := by omega
  exact Nat.lt_of_le_of_lt this (by decide)
theorem size_big {x : Int} (h0 : 0 ≤ x) (h : x < big) : x.natAbs < 2 ^ 1400 := by
  have e : big = ((10 ^ 399 : Nat) : Int) := by decide
  have : x.natAbs ≤ 10 ^ 399 := by omega
  exact Nat.lt_of_le_of_lt this (by decide)
/-- what the law keeps all through -/
structure St17 (C : Addr) (H : Hp) (R L M D : Addr) (ts : List Addr) (pr : Addr → Int × Int) (gs : List Addr) (ms : List V) (us : List Addr) (S : Sgn) : Prop where
  r : RowsAt H R ts pr
  g : GridsAt C H L gs (ts.map pr)
  m : H M = some (.lst ms)
  d : H D = some (.lst (us.map V.ref))
  t : TmE H us S
section
variable {C : Addr} {H H' : Hp} {R L M D : Addr} {ts : List Addr} {pr : Addr → Int × Int} {gs : List Addr} {ms : List V} {us : List Addr} {S : Sgn}
theorem St17.same (K : Same H H') (h : St17 C H R L M D ts pr gs ms us S) : St17 C H' R L M D ts pr gs ms us S := ⟨h.r.same K, h.g.same K, K _ _ h.m, K _ _ h.d, h.t.same K⟩
theorem St17.kp {b : Addr} {c z n : Int} (k : Kp b H H') (hb : H b = some (box c z n)) (l : 7 ≤ ms.length) (h : St17 C H R L M D ts pr gs ms us S) : St17 C H' R L M D ts pr gs ms us S :=
  ⟨h.r.kp k hb (ne_of h.r.1 hb fun e => box_ne _ (HO.lst.inj e).symm), h.g.kp k hb (ne_of h.g.1 hb fun e => box_ne _ (HO.lst.inj e).symm), k _ _ (ne_of h.m hb fun e => by
    have := congrArg List.length (HO.lst.inj e)
    simp only [List.length_cons, List.length_nil] at this
    omega) h.m, k _ _ (ne_of h.d hb fun e => box_ne _ (HO.lst.inj e).symm) h.d, h.t.kp k hb⟩
end
theorem three_at {r : Int} (h0 : 0 ≤ r) (h1 : r < 3) : ∃ v : Int, atI [V.int (10 ^ Int.toNat 30), V.int (10 ^ Int.toNat 6), V.int 10] r = some (.int v) ∧ 10 ≤ v ∧ v ≤ 10 ^ 30 := by
  have h : r = 0 ∨ r = 1 ∨ r = 2 := by omega
  rcases h with h | h | h <;> (subst h; exact ⟨_, rfl, by decide, by decide⟩)
section
variable {P : Program} {w : World} {K : PySem.W.Frag} {mg : Str → Option Value} {base : Heap} {C : Addr}
theorem ok_askN {f C_TooMany C_BarclipsError C_BadNumber : Addr} {fd : FuncData} (F : Fun K "_law_ask" "_law_ask" s_law_ask f fd) (T : Txt mg) (fxnth_gap : FnX P w K mg base "nth_gap" P_nth_gap [] 5 (spNthX C C_TooMany C_BadNumber)) (ee_TooMany : ETxt K mg "TooMany" C_TooMany) (eb : EBase K mg "BarclipsError" C_BarclipsError) (ee_BadNumber : ETxt K mg "BadNumber" C_BadNumber)
    (no_TooMany_kind : PySem.W.findIn K (.ref C_TooMany) "kind" = some none) (no_TooMany_most : PySem.W.findIn K (.ref C_TooMany) "most" = some none) (no_BadNumber_value : PySem.W.findIn K (.ref C_BadNumber) "value" = some none) (be_ValueError : mg "ValueError" = none)
    (k1 : PySem.W.kitOne K (.ref C_TooMany) (.ref C_BarclipsError) = some true) (k2 : PySem.W.kitOne K (.ref C_TooMany) (.type "ValueError") = some true) (k3 : PySem.W.kitOne K (.ref C_TooMany) (.ref C_BadNumber) = some false)
    (j1 : PySem.W.kitOne K (.ref C_BadNumber) (.ref C_BarclipsError) = some true) (j2 : PySem.W.kitOne K (.ref C_BadNumber) (.type "ValueError") = some true) (j3 : PySem.W.kitOne K (.ref C_BadNumber) (.ref C_TooMany) = some false) (pass : PySem.W.exmOne K (.ref C_BadNumber) (.ref C_TooMany) = some false) :
    FnOk P w K mg base CX0 6 f fd P_law_ask (spAskN C) := by
  refine F.ok sc_law_ask (fun vs H Q E h => ?_) (fun cdv A outer s H vs Q E hr h => ?_)
  · obtain ⟨L, s, c, rfl, _⟩ := h
    rfl
  · obtain ⟨L, s, c, rfl, h⟩ := h
    refine ⟨_, (pss_cons (ps_set (i := 3) sc_law_ask.nd rfl (Or.inl rfl) pe_non)
    (pss_cons (ps_set (i := 4) sc_law_ask.nd rfl (Or.inl rfl) pe_non)
    (pss_cons (ps_try_all (i := 5) rfl rfl sc_law_ask.nd rfl rfl takes0 (fun W pn xe tk _ => (pss_one (ps_set (i := 3) sc_law_ask.nd rfl (Or.inl rfl) (pe_fnX fxnth_gap tk (hr.mono (by omega)) rfl (pa_cons (pv 0) (pa_cons (pv 1) (pa_cons (pv 2) pa_nil)))))))
    (Clauses.cons ⟨rfl, by decide, .inl ee_TooMany.g⟩ (fun a oe cls d pn hz hf => (pss_one (ps_set (i := 4) sc_law_ask.nd rfl (Or.inl rfl) (pe_lst (pa_cons (pe_xf ee_TooMany.is.x no_TooMany_kind hz hf (pv 5)) (pa_cons (pe_xf ee_TooMany.is.x no_TooMany_most hz hf (pv 5)) (pa_cons (pe_callB (call_isX ee_TooMany.is hz hf) rfl T.b_isinstance (by decide +kernel) (pa_cons (pv 5) (pa_cons (pe_glob (v := .ref C_BarclipsError) rfl eb.g rfl) pa_nil))) (pa_cons (pe_callB (call_isX ee_TooMany.is hz hf) rfl T.b_isinstance (by decide +kernel) (pa_cons (pv 5) (pa_cons (pe_bltn (v := .ty "ValueError") (u := .type "ValueError") rfl be_ValueError (by decide +kernel) rfl) pa_nil))) (pa_cons (pe_callB (call_isX ee_TooMany.is hz hf) rfl T.b_isinstance (by decide +kernel) (pa_cons (pv 5) (pa_cons (pe_glob (v := .ref C_BadNumber) rfl ee_BadNumber.g rfl) pa_nil))) pa_nil)))))))))
    (Clauses.cons ⟨rfl, by decide, .inl ee_BadNumber.g⟩ (fun a oe cls d pn hz hf => (pss_one (ps_set (i := 4) sc_law_ask.nd rfl (Or.inl rfl) (pe_lst (pa_cons (pe_xf ee_BadNumber.is.x no_BadNumber_value hz hf (pv 5)) (pa_cons (pe_callB (call_isX ee_BadNumber.is hz hf) rfl T.b_isinstance (by decide +kernel) (pa_cons (pv 5) (pa_cons (pe_glob (v := .ref C_BarclipsError) rfl eb.g rfl) pa_nil))) (pa_cons (pe_callB (call_isX ee_BadNumber.is hz hf) rfl T.b_isinstance (by decide +kernel) (pa_cons (pv 5) (pa_cons (pe_bltn (v := .ty "ValueError") (u := .type "ValueError") rfl be_ValueError (by decide +kernel) rfl) pa_nil))) (pa_cons (pe_callB (call_isX ee_BadNumber.is hz hf) rfl T.b_isinstance (by decide +kernel) (pa_cons (pv 5) (pa_cons (pe_glob (v := .ref C_TooMany) rfl ee_TooMany.g rfl) pa_nil))) pa_nil))))))))
    Clauses.nil)))
    (pss_one (ps_ret (pe_lst (pa_cons (pv 3) (pa_cons (pv 4) pa_nil)))))))), ?_⟩
    refine Bar.rStart (σ := [some (.ref L), some (.int s), some (.int c), none, none, none]) rfl ?_
    walk_at "rd"
    rcases h with ⟨gs, ps, GA, lm, l6, c31, h⟩ | ⟨xs, hL, l7, k⟩
    · refine ⟨L, s, c, rfl, .inl ⟨gs, ps, GA, lm, l6, c31, ?_⟩⟩
      rcases h with ⟨c0, k⟩ | ⟨c0, k⟩
      · refine .inl ⟨c0, fun d H' hd S hx => ?_⟩
        walk_at "rd"
        refine rPass pass ?_
        walk_at "rd"
        refine rTake ee_BadNumber.te fun q hq => ?_
        simp only [List.set_cons_succ, List.set_cons_zero]
        walk_at "rd"
        refine rXf hx lk_hd ?_
        walk_at "rd"
        refine rIsXC hx j1 ?_
        walk_at "rd"
        refine rIsXT hx j2 ?_
        walk_at "rd"
        refine rIsXC hx j3 ?_
        walk_at "rd"
        intro t ht
        walk_at "rd"
        simp only [List.set_cons_succ, List.set_cons_zero]
        walk_at "rd"
        intro r hr
        exact k r _ (fun b u z => Bar.lkNew hr (Bar.lkNew ht (S b u z))) ⟨t, upd_same, Bar.lkNew hr upd_same⟩
      · refine .inr ⟨c0, fun H' S full => ?_, fun x H' S x0 xT hx gx => ?_⟩
        · walk_at "rd"
          intro r hr
          exact k none r _ (fun b u z => Bar.lkNew hr (S b u z)) upd_same full
        · walk_at "rd"
          intro r hr
          exact k (some x) r _ (fun b u z => Bar.lkNew hr (S b u z)) upd_same ⟨x0, xT, hx, gx⟩
    · refine ⟨L, s, c, rfl, .inr ⟨xs, hL, l7, fun d H' hd S hx => ?_⟩⟩
      walk_at "rd"
      refine rTake ee_TooMany.te fun q hq => ?_
      simp only [List.set_cons_succ, List.set_cons_zero]
      walk_at "rd"
      refine rXf hx (lk_tl (by decide +kernel) lk_hd) ?_
      walk_at "rd"
      refine rXf hx lk_hd ?_
      walk_at "rd"
      refine rIsXC hx k1 ?_
      walk_at "rd"
      refine rIsXT hx k2 ?_
      walk_at "rd"
      refine rIsXC hx k3 ?_
      walk_at "rd"
      intro t ht
      walk_at "rd"
      simp only [List.set_cons_succ, List.set_cons_zero]
      walk_at "rd"
      intro r hr
      exact k r _ (fun b u z => Bar.lkNew hr (Bar.lkNew ht (S b u z))) ⟨t, upd_same, Bar.lkNew hr upd_same⟩
theorem ok_held {f : Addr} {fd : FuncData} (F : Fun K "_law_held" "_law_held" s_law_held f fd) (T : Txt mg) (f_law_hit : Fn P w K mg base "_law_hit" P_law_hit [] 2 spHit) : FnOk P w K mg base CX0 3 f fd P_law_held spHeld := by
  refine F.ok sc_law_held (fun vs H Q E h => ?_) (fun cdv A outer s H vs Q E hr h => ?_)
  · obtain ⟨R, ts, pr, rfl, _⟩ := h
    rfl
  · obtain ⟨R, ts, pr, rfl, RA, l6, k⟩ := h
    refine ⟨_, (pss_cons (ps_for PassesOwn.never rfl  (pi_range1 rfl T.b_range (pa_cons pe_int pa_nil)) (pg_name (i := 1) sc_law_held.nd rfl (Or.inl rfl)) (pss_one (ps_if (pt_not (pt_val (pe_fn f_law_hit (hr.mono (by omega)) rfl (pa_cons (pv 0) (pa_cons (pv 1) pa_nil))))) (pss_one (ps_ret pe_bl)) pss_nil)))
    (pss_one (ps_ret pe_bl))), ?_⟩
    refine Bar.rStart (σ := [some (.ref R), none]) rfl ?_
    walk_at "rd"
    refine Bar.forR 64 rfl (fun i σ H' => H' = H ∧ (∀ j : Nat, j < i → hits (ts.map pr) (0 + (j : Int)) = true) ∧ ∃ x : Option V, σ = [some (.ref R), x]) (by decide) ⟨rfl, fun j hj => absurd hj (by omega), _, rfl⟩ ?_ ?_
    · rintro i σ H' hi ⟨rfl, hh, x, rfl⟩
      walk_at "rd"
      refine ⟨R, ts, pr, (i : Int), rfl, RA, ?_⟩
      cases q : hits (ts.map pr) (i : Int) with
      | true =>
        walk_at "rd"
        refine ⟨rfl, fun j hj => ?_, _, rfl⟩
        by_cases ji : j = i
        · subst ji
          rw [Int.zero_add]
          exact q
        · exact hh j (by omega)
      | false =>
        walk_at "rd"
        exact k false (fun z => nomatch z) fun _ => ⟨_, q⟩
    · rintro σ H' ⟨rfl, hh, x, rfl⟩
      walk_at "rd"
      refine k true (fun _ => hits_all (a := 0) fun i hi => hh i ?_) fun z => nomatch z
      have := pow_six (show (ts.map pr).length ≤ 6 by rw [List.length_map]; exact l6)
      omega
theorem ok_right {f : Addr} {fd : FuncData} (F : Fun K "_law_right" "_law_right" s_law_right f fd) (T : Txt mg) (f_law_held : Fn P w K mg base "_law_held" P_law_held [] 3 spHeld) (f_law_int : Fn P w K mg base "_law_int" P_law_int [] 1 spInt) (f_law_hit : Fn P w K mg base "_law_hit" P_law_hit [] 2 spHit) (f_law_count : Fn P w K mg base "_law_count" P_law_count [] 2 spCountL) : FnOk P w K mg base CX0 4 f fd P_law_right spRight := by
  refine F.ok sc_law_right (fun vs H Q E h => ?_) (fun cdv A outer s H vs Q E hr h => ?_)
  · obtain ⟨R, D, r, ts, us, pr, S, s, c, o, rfl, _⟩ := h
    rfl
  · obtain ⟨R, D, r, ts, us, pr, S, s, c, o, rfl, RA, l6, hD, TE, gp, ok, l64, hr', nth, k⟩ := h
    refine ⟨_, (pss_cons (ps_if (pt_cmpR o_notN (pe_ix ix_list (pv 4) pe_int (fun _ _ => rfl)) pe_non (nomark _)) (pss_one (ps_ret pe_bl)) pss_nil)
    (pss_cons (ps_if (pt_val (pe_fn f_law_held (hr.mono (by omega)) rfl (pa_cons (pv 0) pa_nil))) (pss_one (ps_ret (pe_cmpR o_isN (pe_ix ix_list (pv 4) pe_int (fun _ _ => rfl)) pe_non (nomark _)))) pss_nil)
    (pss_cons (ps_set (i := 5) sc_law_right.nd rfl (Or.inl rfl) (pe_ix ix_list (pv 4) pe_int (fun _ _ => rfl)))
    (pss_cons (ps_if (PW.pt (pw_or (pt_not (pt_val (pe_fn f_law_int (hr.mono (by omega)) rfl (pa_cons (pv 5) pa_nil)))) (pw_or (pt_cmpR op_lt (pv 5) (pv 2) (nomark _)) (pw_or1 (pt_val (pe_fn f_law_hit (hr.mono (by omega)) rfl (pa_cons (pv 0) (pa_cons (pv 5) pa_nil)))))))) (pss_one (ps_ret pe_bl)) pss_nil)
    (pss_one (ps_ret (pe_cmpR op_eq (pe_fn f_law_count (hr.mono (by omega)) rfl (pa_cons (pv 1) (pa_cons (pv 2) (pa_cons (pv 5) pa_nil)))) (pv 3) (nomark _)))))))), ?_⟩
    refine Bar.rStart (σ := [some (.ref R), some (.ref D), some (.int s), some (.int c), some (.ref r), none]) rfl ?_
    cases o with
    | none =>
      replace hr' : H r = some (.lst [.non, .non]) := hr'
      walk_at "rd"
      refine ⟨R, ts, pr, rfl, RA, l6, fun b bt bf => ?_⟩
      cases b with
      | true =>
        walk_at "rd"
        exact k _ fun _ _ z => z
      | false =>
        obtain ⟨x, hx⟩ := bf rfl
        rw [nth x] at hx
        cases hx
    | some x =>
      replace hr' : H r = some (.lst [.int x, .non]) := hr'
      obtain ⟨x0, xT, hx, gx⟩ := nth
      walk_at "rd"
      refine ⟨R, ts, pr, rfl, RA, l6, fun b bt bf => ?_⟩
      cases b with
      | true =>
        rw [bt rfl x] at hx
        cases hx
      | false =>
        walk_at "rd"
        rw [decide_eq_false (show ¬ x < s by omega)]
        walk_at "rd"
        refine ⟨R, ts, pr, x, rfl, RA, ?_⟩
        rw [hx]
        walk_at "rd"
        refine ⟨D, us, S, ts.map pr, s, x, rfl, hD, TE, gp, ok, l64, top_wide (by omega) xT, fun H' SH => ?_⟩
        rw [gx]
        walk_at "rd"
        rw [decide_eq_true rfl]
        exact k _ SH
end
section
variable {P : Program} {w : World} {K : PySem.W.Frag} {mg : Str → Option Value} {base : Heap} {C : Addr}
theorem ok_law {CT f : Addr} {fd : FuncData} (F : Fun K "law" "law" s_law f fd) (T : Txt mg) (f_law_box : Fn P w K mg base "_law_box" P_law_box [] 1 (spBox K)) (f_law_draw : Fn P w K mg base "_law_draw" P_law_draw [] 1 spDrawA) (f_law_size : Fn P w K mg base "_law_size" P_law_size [] 2 spSize) (f_law_number : Fn P w K mg base "_law_number" P_law_number [] 3 spNum)
    (f_law_grids : Fn P w K mg base "_law_grids" P_law_grids [] 3 (spRows Gm 0)) (f_law_made : Fn P w K mg base "_law_made" P_law_made [] 3 (spMade C)) (mk_Grid2 : Made P w K mg base "Grid" C P_Grid___init__ [] 1 (spInit C)) (f_law_terms : Fn P w K mg base "_law_terms" P_law_terms [] 2 spTerms)
    (f_law_same : Fn P w K mg base "_law_same" P_law_same [] 4 (spSame 3)) (f_law_ask : Fn P w K mg base "_law_ask" P_law_ask [] 6 (spAskN C)) (f_law_right : Fn P w K mg base "_law_right" P_law_right [] 4 spRight) (fgaps_between : Fn P w K mg base "gaps_between" P_gaps_between [] 5 (fun vs H Q _ => spGapsX C CT vs H Q E0)) (f_law_kept : Fn P w K mg base "_law_kept" P_law_kept [] 5 (spKept C)) : FnOk P w K mg base CX0 7 f fd P_law (spLaw K) := by
  refine F.ok sc_law (fun vs H Q E h => ?_) (fun cdv A outer s H vs Q E hr h => ?_)
  · obtain ⟨a, ns, rfl, _⟩ := h
    rfl
  · obtain ⟨a, ns, rfl, ha, hl, k⟩ := h
    refine ⟨_, (pss_cons (ps_set (i := 1) sc_law.nd rfl (Or.inl rfl) (pe_fn f_law_box (hr.mono (by omega)) rfl (pa_cons (pv 0) (pa_cons pe_int pa_nil))))
    (pss_cons (ps_set (i := 2) sc_law.nd rfl (Or.inl rfl) (pe_fn f_law_grids (hr.mono (by omega)) rfl (pa_cons (pv 1) (pa_cons pe_int pa_nil))))
    (pss_cons (ps_set (i := 3) sc_law.nd rfl (Or.inl rfl) (pe_fn f_law_made (hr.mono (by omega)) rfl (pa_cons (pv 2) pa_nil)))
    (pss_cons (ps_set (i := 5) sc_law.nd rfl (Or.inl rfl) (pe_op op_cat (pv 3) (pe_lc (own := [("_law_k", 4)]) (g := gName 4) rfl sc_law.nd (pi_range1 rfl T.b_range (pa_cons (pe_op op_add (pe_op op_sub pe_int (pe_callB c_len rfl T.b_len PySem.boot_len (pa_cons (pv 3) pa_nil))) (pe_fn f_law_draw (hr.mono (by omega)) rfl (pa_cons (pv 1) (pa_cons pe_int pa_nil)))) pa_nil)) (blkOk_by (own := [("_law_k", 4)]) (N := N_law) (sc := defScope s_law) (by decide +kernel)) (fun _ _ _ _ _ => pg_name (i := 4) sc_law.nd rfl (Or.inl rfl)) (fun _ _ _ _ _ => pts_nil) (fun _ _ _ _ _ => (pe_mk mk_Grid2 (hr.mono (by omega)) rfl (pa_cons (pe_op op_add (pv 4) pe_int) (pa_cons pe_int pa_nil)))))))
    (pss_cons (ps_set (i := 6) sc_law.nd rfl (Or.inl rfl) (pe_fn f_law_terms (hr.mono (by omega)) rfl (pa_cons (pv 2) pa_nil)))
    (pss_cons (ps_set (i := 1) sc_law.nd rfl (Or.inl rfl) (pe_fn f_law_box (hr.mono (by omega)) rfl (pa_cons (pv 0) (pa_cons pe_int pa_nil))))
    (pss_cons (ps_set (i := 7) sc_law.nd rfl (Or.inl rfl) (pe_fn f_law_number (hr.mono (by omega)) rfl (pa_cons (pv 1) pa_nil)))
    (pss_cons (ps_set (i := 8) sc_law.nd rfl (Or.inl rfl) (pe_op op_sub (pe_fn f_law_draw (hr.mono (by omega)) rfl (pa_cons (pv 1) (pa_cons pe_int pa_nil))) pe_int))
    (pss_cons (ps_set (i := 9) sc_law.nd rfl (Or.inl rfl) (pe_fn f_law_draw (hr.mono (by omega)) rfl (pa_cons (pv 1) (pa_cons (pe_ix ix_tup (pe_tup (pa_cons (pe_op op_powW pe_int pe_int) (pa_cons (pe_op op_powW pe_int pe_int) (pa_cons pe_int pa_nil)))) (pe_fn f_law_draw (hr.mono (by omega)) rfl (pa_cons (pv 1) (pa_cons pe_int pa_nil))) (fun _ _ => rfl)) pa_nil))))
    (pss_cons (ps_set (i := 10) sc_law.nd rfl (Or.inl rfl) (pe_op op_sub (pe_un un_neg pe_int) (pe_op op_mulW (pe_fn f_law_size (hr.mono (by omega)) rfl (pa_cons (pv 1) pa_nil)) (pe_fn f_law_draw (hr.mono (by omega)) rfl (pa_cons (pv 1) (pa_cons pe_int pa_nil))))))
    (pss_cons (ps_if (pt_not (pt_val (pe_fn f_law_same (hr.mono (by omega)) rfl (pa_cons (pe_fn f_law_ask (hr.mono (by omega)) rfl (pa_cons (pv 5) (pa_cons (pv 7) (pa_cons (pv 10) pa_nil)))) (pa_cons (pe_lst (pa_cons pe_non (pa_cons (pe_lst (pa_cons pe_str (pa_cons pe_int (pa_cons pe_bl (pa_cons pe_bl (pa_cons pe_bl pa_nil)))))) pa_nil))) pa_nil))))) (pss_one (ps_ret pe_bl)) pss_nil)
    (pss_cons (ps_if (pt_not (pt_val (pe_fn f_law_same (hr.mono (by omega)) rfl (pa_cons (pe_fn f_law_ask (hr.mono (by omega)) rfl (pa_cons (pv 3) (pa_cons (pv 7) (pa_cons (pv 10) pa_nil)))) (pa_cons (pe_lst (pa_cons pe_non (pa_cons (pe_lst (pa_cons (pv 10) (pa_cons pe_bl (pa_cons pe_bl (pa_cons pe_bl pa_nil))))) pa_nil))) pa_nil))))) (pss_one (ps_ret pe_bl)) pss_nil)
    (pss_cons (ps_set (i := 11) sc_law.nd rfl (Or.inl rfl) (pe_fn f_law_ask (hr.mono (by omega)) rfl (pa_cons (pv 3) (pa_cons (pv 7) (pa_cons (pv 9) pa_nil)))))
    (pss_cons (ps_if (pt_not (pt_val (pe_fn f_law_right (hr.mono (by omega)) rfl (pa_cons (pv 2) (pa_cons (pv 6) (pa_cons (pv 7) (pa_cons (pv 9) (pa_cons (pv 11) pa_nil)))))))) (pss_one (ps_ret pe_bl)) pss_nil)
    (pss_mid (ps_if (PW.pt (pw_and (pt_cmpR o_notN (pe_ix ix_list (pv 11) pe_int (fun _ _ => rfl)) pe_non (nomark _)) (pw_and1 (pt_not (pt_val (pe_fn f_law_same (hr.mono (by omega)) rfl (pa_cons (pe_fn fgaps_between (hr.mono (by omega)) rfl (pa_cons (pv 3) (pa_cons (pv 7) (pa_cons (pe_ix ix_list (pv 11) pe_int (fun _ _ => rfl)) pa_nil)))) (pa_cons (pv 9) pa_nil)))))))) (pss_one (ps_ret pe_bl)) pss_nil)
    (pss_cons (ps_if (pt_not (pt_val (pe_fn f_law_right (hr.mono (by omega)) rfl (pa_cons (pv 2) (pa_cons (pv 6) (pa_cons (pv 8) (pa_cons pe_int (pa_cons (pe_fn f_law_ask (hr.mono (by omega)) rfl (pa_cons (pe_callTy call_tuple_of rfl T.b_tuple (by decide +kernel) (pa_cons (pv 3) pa_nil)) (pa_cons (pv 8) (pa_cons pe_int pa_nil)))) pa_nil)))))))) (pss_one (ps_ret pe_bl)) pss_nil)
    (pss_cons (ps_for PassesOwn.never rfl  (pi_range1 rfl T.b_range (pa_cons pe_int pa_nil)) (pg_name (i := 4) sc_law.nd rfl (Or.inl rfl)) (pss_one (ps_if (pt_cmpR op_gt (pe_callB c_len rfl T.b_len PySem.boot_len (pa_cons (pv 5) pa_nil)) (pe_callB c_len rfl T.b_len PySem.boot_len (pa_cons (pv 3) pa_nil)) (nomark _)) (pss_one (ps_expr (pe_bm0 PySem.F.plainAttrs_list PySem.F.slot_list_pop PySem.F.type_list_pop mt_pop (pv 5)))) pss_nil)))
    (pss_cons (ps_set (i := 9) sc_law.nd rfl (Or.inl rfl) (pe_op op_mod (pe_callTy c_int rfl T.b_int (by decide +kernel) (pa_cons (pv 9) pa_nil)) pe_int))
    (pss_cons (ps_if (pt_not (pt_val (pe_fn f_law_right (hr.mono (by omega)) rfl (pa_cons (pv 2) (pa_cons (pv 6) (pa_cons (pv 8) (pa_cons (pv 9) (pa_cons (pe_fn f_law_ask (hr.mono (by omega)) rfl (pa_cons (pv 5) (pa_cons (pv 8) (pa_cons (pv 9) pa_nil)))) pa_nil)))))))) (pss_one (ps_ret pe_bl)) pss_nil)
    (pss_one (ps_ret (pe_and (pe_fn f_law_kept (hr.mono (by omega)) rfl (pa_cons (pv 3) (pa_cons (pv 2) pa_nil))) (pe_one (pe_fn f_law_kept (hr.mono (by omega)) rfl (pa_cons (pv 5) (pa_cons (pv 2) pa_nil)))))))))))))))))))))))))), ?_⟩
    refine Bar.rStart (σ := [some (.ref a), none, none, none, none, none, none, none, none, none, none, none]) rfl ?_
    walk_at "rd"
    refine ⟨a, ns, 0, rfl, ha, fun b H1 c z S1 hb hb1 => ?_⟩
    walk_at "rd"
    refine ⟨b, c, z, 0, 6, rfl, hb1, by decide, by decide, fun R q H2 hR ⟨K2, c2, n2, hb2⟩ _ q6 RP => ?_⟩
    obtain ⟨ts, pr, RA, lt⟩ := RP.at
    have l6 : ts.length ≤ 6 := by omega
    walk_at "rd"
    refine ⟨R, ts, pr, rfl, RA, l6, fun L gs H3 hL S3 GA => ?_⟩
    have lp : (ts.map pr).length ≤ 6 := by rw [List.length_map]; exact l6
    have lg : gs.length = ts.length := by
      have := GA.2.1
      rwa [List.length_map] at this
    have RA3 := RA.same S3
    have hb3 := S3 _ _ hb2
    have K13 : Kp b H H3 := ((Kp.of_same S1).trans K2).trans (Kp.of_same S3)
    have nRb : R ≠ b := ne_of RA3.1 hb3 fun e => box_ne ts (HO.lst.inj e).symm
    have nLb : L ≠ b := ne_of GA.1 hb3 fun e => box_ne gs (HO.lst.inj e).symm
    clear S1 K2 hb1 hb2 hR RP RA S3 lt q6 hL
    have hL3 := GA.1
    walk_at "rd"
    refine ⟨b, c2, z, n2, 3, rfl, hb3, by decide, by decide, fun r H4 r0 r3 ⟨K4, c4, n4, hb4⟩ => ?_⟩
    have RA4 := RA3.kp K4 hb3 nRb
    have GA4 := GA.kp K4 hb3 nLb
    have K14 := K13.trans K4
    clear RA3 GA K4 K13 hb3 hL3
    walk_at "rd"
    obtain ⟨m, em⟩ : ∃ m : Nat, 7 - ((gs.map V.ref).length : Int) + r = m := ⟨(7 - ((gs.map V.ref).length : Int) + r).toNat, by rw [List.length_map]; omega⟩
    rw [em]
    rw [List.length_map, lg] at em
    refine Bar.lcR (τ := [some (.ref a), some (.ref b), some (.ref R), some (.ref L), none, none, none, none, none, none, none, none]) m rfl rfl (by omega) (fun D hD => ⟨fun i H' => Same H4 H' ∧ ∃ zs : List V, zs.length = i ∧ H' D = some (.lst zs),
      ⟨fun _ _ y => Bar.lkNew hD y, [], rfl, upd_same⟩, ?_, ?_⟩)
    · rintro i H' hi ⟨S, zs, lz, hd⟩
      walk_at "rd"
      refine ⟨rfl, ?_⟩
      walk_at "rd"
      refine mkG (show (1 : Int) ≤ (i : Int) + 2 by omega) fun g H6 hg S6 G6 => ?_
      refine ⟨_, S6 _ _ hd, Bar.szLt (by omega), fun p o y => ?_, zs ++ [.ref g], by rw [List.length_append, lz]; rfl, upd_same⟩
      rw [upd_ne (ne_of_none y hD)]
      exact S6 _ _ (S _ _ y)
    · rintro H5 ⟨S5, zs, lz, hZ⟩
      have RA5 := RA4.same S5
      have GA5 := GA4.same S5
      have K15 := K14.trans (Kp.of_same S5)
      clear RA4 GA4 S5 hb4 K14
      walk_at "rd"
      refine rCat_ GA5.1 hZ (Nat.le_trans (show _ ≤ 1000 by rw [List.length_map]; omega) (by decide)) fun M hM => ?_
      walk_at "rd"
      have SM : Same H5 (upd H5 M (.lst (gs.map V.ref ++ zs))) := fun _ _ y => Bar.lkNew hM y
      have RA6 := RA5.same SM
      have GA6 := GA5.same SM
      have hM6 : upd H5 M (.lst (gs.map V.ref ++ zs)) M = some (.lst (gs.map V.ref ++ zs)) := upd_same
      have K16 := K15.trans (Kp.of_same SM)
      generalize upd H5 M (.lst (gs.map V.ref ++ zs)) = H6 at *
      clear RA5 GA5 hM hZ SM K15
      have lM : (gs.map V.ref ++ zs).length = ts.length + m := by rw [List.length_append, List.length_map, lg, lz]
      have l7 : 7 ≤ (gs.map V.ref ++ zs).length := by omega
      have lim' : Lim (ts.map pr) := fun p hp => by
        obtain ⟨t, ht, rfl⟩ := List.mem_map.mp hp
        exact (RA6.2 t ht).2.2.1
      refine ⟨R, ts, pr, rfl, RA6, l6, fun Dt us St H7 fDt S7 hDt TE gp ok l64 => ?_⟩
      have nD : Dt ≠ M := (ne_of_none hM6 fDt).symm
      have X7 : St17 C H7 R L M Dt ts pr gs (gs.map V.ref ++ zs) us St := ⟨RA6.same S7, GA6.same S7, S7 _ _ hM6, hDt, TE⟩
      have ha7 : SqL K H7 a (ns.map V.int) := Bar.sqKf (K16.trans (Kp.of_same S7)) hb ha
      clear RA6 GA6 hM6 K16 S7 hDt TE ha hb fDt
      walk_at "rd"
      refine ⟨a, ns, 1, rfl, ha7, fun b1 H8 c8 z8 S8 hbn hb8 => ?_⟩
      replace X7 := X7.same S8
      clear S8 hbn ha7
      walk_at "rd"
      refine ⟨b1, c8, z8, 0, rfl, hb8, fun lo H9 lo1 lo2 ⟨K9, c9, n9, hb9⟩ => ?_⟩
      replace X7 := X7.kp K9 hb8 l7
      clear K9 hb8
      walk_at "rd"
      refine ⟨b1, c9, z8, n9, 161, rfl, hb9, by decide, by decide, fun nr H10 nr0 nr1 ⟨K10, c10, n10, hb10⟩ => ?_⟩
      replace X7 := X7.kp K10 hb9 l7
      clear K10 hb9
      walk_at "rd"
      intro tq htq
      walk_at "rd"
      have nqb : tq ≠ b1 := fun e => by
        rw [e, hb10] at htq
        cases htq
      refine ⟨b1, c10, z8, n10, 3, rfl, Bar.lkNew htq hb10, by decide, by decide, fun r3 H11 l3 u3 ⟨K11, c11, n11, hb11⟩ => ?_⟩
      obtain ⟨v, hv, v1, v2⟩ := three_at l3 u3
      refine Bar.rIxT_ (SqT.of (K11 _ _ nqb upd_same)) hv ?_
      replace X7 := (X7.same (H' := upd H10 tq (.tup [.int (10 ^ Int.toNat 30), .int (10 ^ Int.toNat 6), .int 10])) fun _ _ y => Bar.lkNew htq y).kp K11 (Bar.lkNew htq hb10) l7
      clear K11 hb10 htq
      walk_at "rd"
      refine ⟨b1, c11, z8, n11, v, rfl, hb11, by omega, Int.le_trans v2 (by decide), fun ct H12 ct0 ct1 ⟨K12, c12, n12, hb12⟩ => ?_⟩
      replace X7 := X7.kp K12 hb11 l7
      clear K12 hb11
      walk_at "rd"
      refine ⟨b1, c12, z8, n12, rfl, hb12, fun sz H13 sz0 sz1 ⟨K13, c13, n13, hb13⟩ => ?_⟩
      replace X7 := X7.kp K13 hb12 l7
      clear K13 hb12
      walk_at "rd"
      refine ⟨b1, c13, z8, n13, 2, rfl, hb13, by decide, by decide, fun bt H14 bt0 bt1 ⟨K14, c14, n14, hb14⟩ => ?_⟩
      replace X7 := X7.kp K14 hb13 l7
      clear K14 hb13
      have wlow : CMulW sz bt := wide_mul (size_big sz0 sz1) (show bt.natAbs < 2 ^ 2 by omega) (by decide) (by decide) (by decide)
      have sb : 0 ≤ sz * bt := Int.mul_nonneg sz0 bt0
      walk_at "rd"
      obtain ⟨lw, elw⟩ : ∃ lw : Int, -1 - sz * bt = lw := ⟨_, rfl⟩
      have lw0 : lw < 0 := by omega
      rw [elw]
      have ct31 : ct ≤ 10 ^ 31 := Int.le_trans (show ct ≤ 10 ^ 30 by omega) (by decide)
      clear wlow sb elw
      walk_at "rd"
      refine ⟨M, lo, lw, rfl, .inr ⟨_, .inl X7.m, by omega, fun r1 H15 S15 R15 => ?_⟩⟩
      replace X7 := X7.same S15
      clear S15
      walk_at "rd"
      intro t0 ht0
      walk_at "rd"
      intro Rf hRf
      walk_at "rd"
      have SR : Same H15 (upd (upd H15 t0 (.lst [.str "grids", .int 6, .bl true, .bl true, .bl false])) Rf (.lst [.non, .ref t0])) := fun p o y => Bar.lkNew hRf (Bar.lkNew ht0 y)
      refine ⟨_, _, rfl, sameRef (R15.same SR) ⟨t0, upd_same, Bar.lkNew hRf upd_same⟩, ?_⟩
      replace X7 := X7.same SR
      generalize upd (upd H15 t0 (.lst [.str "grids", .int 6, .bl true, .bl true, .bl false])) Rf (.lst [.non, .ref t0]) = HA at *
      clear SR R15 ht0 hRf
      walk_at "rd"
      refine ⟨L, lo, lw, rfl, .inl ⟨gs, _, X7.g.s, lim', lp, Int.le_trans (Int.le_of_lt lw0) (by decide), .inl ⟨lw0, fun r2 H16 S16 R16 => ?_⟩⟩⟩
      replace X7 := X7.same S16
      clear S16
      walk_at "rd"
      intro t1 ht1
      walk_at "rd"
      intro Rg hRg
      walk_at "rd"
      have SG : Same H16 (upd (upd H16 t1 (.lst [.int lw, .bl true, .bl true, .bl false])) Rg (.lst [.non, .ref t1])) := fun p o y => Bar.lkNew hRg (Bar.lkNew ht1 y)
      refine ⟨_, _, rfl, sameNeg (R16.same SG) ⟨t1, upd_same, Bar.lkNew hRg upd_same⟩, ?_⟩
      replace X7 := X7.same SG
      generalize upd (upd H16 t1 (.lst [.int lw, .bl true, .bl true, .bl false])) Rg (.lst [.non, .ref t1]) = HB at *
      clear SG R16 ht1 hRg
      walk_at "rd"
      refine ⟨L, lo, ct, rfl, .inl ⟨gs, _, X7.g.s, lim', lp, ct31, .inr ⟨ct0, fun o r4 H17 S17 e17 nth => ?_⟩⟩⟩
      replace X7 := X7.same S17
      clear S17
      walk_at "rd"
      refine ⟨R, Dt, r4, ts, us, pr, St, lo, ct, o, rfl, X7.r, l6, X7.d, X7.t, gp, ok, l64, e17, nth, fun H18 S18 => ?_⟩
      replace X7 := X7.same S18
      have e18 := S18 _ _ e17
      clear S18 e17
      walk_at "rd"
      refine ⟨fun σ H' => St17 C H' R L M Dt ts pr gs (gs.map V.ref ++ zs) us St ∧ ∃ x4 : Option V, σ = [some (.ref a), some (.ref b1), some (.ref R), some (.ref L), x4, some (.ref M), some (.ref Dt), some (.int lo), some (.int (nr - 80)), some (.int ct), some (.int lw), some (.ref r4)], ?_, ?_⟩
      · cases o with
        | none =>
          replace e18 : H18 r4 = some (.lst [.non, .non]) := e18
          walk_at "rd"
          exact ⟨X7, _, rfl⟩
        | some x =>
          replace e18 : H18 r4 = some (.lst [.int x, .non]) := e18
          obtain ⟨x0, xT, hx, gx⟩ := nth
          walk_at "rd"
          refine ⟨L, lo, x, rfl, .inl ⟨gs, _, X7.g.s, lim', lp, top_wide (by omega) xT, fun H19 S19 => ?_⟩⟩
          rw [gx]
          walk_at "rd"
          refine ⟨_, _, rfl, .inl ⟨rfl, trivial⟩, ?_⟩
          walk_at "rd"
          exact ⟨X7.same S19, _, rfl⟩
      · rintro σ HS ⟨X8, x4, rfl⟩
        clear X7 e18 nth hb14
        have hL8 := X8.g.1
        walk_at "rd"
        refine ⟨_, _, rfl, .inl ⟨SqL.of hL8, fun l hl => ?_⟩⟩
        walk_at "rd"
        refine ⟨l, nr - 80, 0, rfl, .inl ⟨gs, _, X8.g.t hl, lim', lp, by decide, .inr ⟨Int.le_refl 0, fun o2 r5 H20 S20 e20 nth2 => ?_⟩⟩⟩
        have S20' : Same HS H20 := fun _ _ y => S20 _ _ (Bar.lkNew hl y)
        replace X8 := X8.same S20'
        clear S20 S20' hl hL8
        walk_at "rd"
        refine ⟨R, Dt, r5, ts, us, pr, St, nr - 80, 0, o2, rfl, X8.r, l6, X8.d, X8.t, gp, ok, l64, e20, nth2, fun HT S21 => ?_⟩
        replace X8 := X8.same S21
        clear S21 e20 nth2
        have neM : ∀ {xs : List V}, xs.length ≤ 6 → (HO.lst xs) ≠ .lst (gs.map V.ref ++ zs) := fun h e => by
          have := congrArg List.length (HO.lst.inj e)
          rw [lM] at this
          omega
        have nLM : L ≠ M := ne_of X8.g.1 X8.m (neM (by rw [List.length_map]; omega))
        have nRM : R ≠ M := ne_of X8.r.1 X8.m (neM (by rw [List.length_map]; omega))
        have Xr := X8.r
        have Xg := X8.g
        have Xm := X8.m
        have Xd := X8.d
        have Xt := X8.t
        clear X8
        walk_at "rd"
        refine Bar.forR 9 rfl (fun i σ H' => Kp M HT H' ∧ (∃ ws : List V, ws.length ≤ 9 - i ∧ H' M = some (.lst (gs.map V.ref ++ ws))) ∧ ∃ x4 : Option V, σ = [some (.ref a), some (.ref b1), some (.ref R), some (.ref L), x4, some (.ref M), some (.ref Dt), some (.int lo), some (.int (nr - 80)), some (.int ct), some (.int lw), some (.ref r4)]) (by decide) ⟨Kp.refl, ⟨zs, by omega, Xm⟩, _, rfl⟩ ?_ ?_
        · rintro i σ H' hi ⟨KK, ⟨ws, lw', hw⟩, x4, rfl⟩
          have hL' := KK _ _ nLM Xg.1
          walk_at "rd"
          refine ite2 (fun h => ?_) (fun h => ?_)
          · have pos : 0 < ws.length := by
              have := of_decide_eq_true h
              rw [List.length_append] at this
              omega
            have wn : ws ≠ [] := fun e => by
              rw [e] at pos
              cases pos
            walk_at "rd"
            refine ⟨M, _, _, rfl, rfl, hw, List.getElem?_eq_getElem (by rw [List.length_append]; omega), ?_⟩
            rw [List.dropLast_append_of_ne_nil wn]
            walk_at "rd"
            exact ⟨KK.trans Kp.upd, ⟨ws.dropLast, by rw [List.length_dropLast]; omega, upd_same⟩, _, rfl⟩
          · have pos : ws.length = 0 := by
              by_cases z : ws.length = 0
              · exact z
              · exact absurd (decide_eq_true (by rw [List.length_append]; omega)) h
            walk_at "rd"
            exact ⟨KK, ⟨ws, by omega, hw⟩, _, rfl⟩
        · rintro σ H' ⟨KK, ⟨ws, lw', hw⟩, x4, rfl⟩
          have ew : ws = [] := List.length_eq_zero_iff.mp (by omega)
          rw [ew, List.append_nil] at hw
          have RA' := Xr.kp KK Xm nRM
          have GA' := Xg.kp KK Xm nLM
          have GM' : GridsAt C H' M gs (ts.map pr) := ⟨hw, GA'.2⟩
          have hD' := KK _ _ nD Xd
          have TE' := Xt.kp KK Xm
          clear Xr Xg Xm Xd Xt KK
          have e10 : ct % 10 ≤ 10 ^ 31 := Int.le_trans (show ct % 10 ≤ 10 by omega) (by decide)
          walk_at "rd"
          refine ⟨M, nr - 80, ct % 10, rfl, .inl ⟨gs, _, GM'.s, lim', lp, e10, .inr ⟨by omega, fun o3 r6 H22 S22 e22 nth3 => ?_⟩⟩⟩
          walk_at "rd"
          refine ⟨R, Dt, r6, ts, us, pr, St, nr - 80, ct % 10, o3, rfl, RA'.same S22, l6, S22 _ _ hD', TE'.same S22, gp, ok, l64, e22, nth3, fun H23 S23 => ?_⟩
          have S02 : Same H' H23 := fun _ _ y => S23 _ _ (S22 _ _ y)
          have RA1 := RA'.same S02
          have GA1 := GA'.same S02
          have GM1 := GM'.same S02
          walk_at "rd"
          refine ⟨L, R, gs, ts, pr, rfl, GA1, RA1, l6, fun H24 S24 => ?_⟩
          walk_at "rd"
          refine ⟨M, R, gs, ts, pr, rfl, GM1.same S24, RA1.same S24, l6, fun H25 S25 => ?_⟩
          walk_at "rd"
          exact k _
end

end Lw

namespace Lw
open PySem L2 Bar

abbrev lawLevel : Nat := 7
theorem all_mk {l : PySem.W.OpenLaw} {w : World} {K : PySem.W.Frag} {h : Heap} {mg : Str → Option Value} {fa f_law f_law_box f_law_draw f_law_size f_law_number C_Grid f_Grid___init__ dT6 f_law_int f_law_same f_law_in f_law_hit f_law_cover f_law_pair f_law_grids f_law_made f_law_kept f_law_meet f_law_terms f_law_count_one f_law_count f_law_ask f_law_held f_law_right f_Grid_tick_of f_Grid_between f_Grid___rfloordiv__ f_inverse f_Grid_common p_Grid_common C_BarclipsError C_TooMany f_TooMany___init__ C_BadNumber f_BadNumber___init__ f_check_grids f_signed_commons f_count_between f_share_of f_gaps_between f_nth_gap : Addr} (X : K.In h) (G : h.Ns mainGlobals mg) (hfa : mg "law" = some (.ref fa))
    {od1 an1 : Option Addr} {sl1 : Array (Option Value)} {oc1 kV1 dc1 pm1 cd1 ct1 : Value} {od2 an2 : Option Addr} {sl2 : Array (Option Value)} {oc2 kV2 dc2 pm2 cd2 ct2 : Value} {od3 an3 : Option Addr} {sl3 : Array (Option Value)} {oc3 kV3 dc3 pm3 cd3 ct3 : Value} {od4 an4 : Option Addr} {sl4 : Array (Option Value)} {oc4 kV4 dc4 pm4 cd4 ct4 : Value} {od5 an5 : Option Addr} {sl5 : Array (Option Value)} {oc5 kV5 dc5 pm5 cd5 ct5 : Value} {od6 an6 : Option Addr} {sl6 : Array (Option Value)} {oc6 kV6 dc6 pm6 cd6 ct6 : Value} {td6 : Option Addr} {ts6 : Array (Option Value)} {tc6 : Value} {tn6 : Nat} {tk6_0 : Tok} {od7 an7 : Option Addr} {sl7 : Array (Option Value)} {oc7 kV7 dc7 pm7 cd7 ct7 : Value} {od8 an8 : Option Addr} {sl8 : Array (Option Value)} {oc8 kV8 dc8 pm8 cd8 ct8 : Value} {od9 an9 : Option Addr} {sl9 : Array (Option Value)} {oc9 kV9 dc9 pm9 cd9 ct9 : Value} {od10 an10 : Option Addr} {sl10 : Array (Option Value)} {oc10 kV10 dc10 pm10 cd10 ct10 : Value} {od11 an11 : Option Addr} {sl11 : Array (Option Value)} {oc11 kV11 dc11 pm11 cd11 ct11 : Value} {od12 an12 : Option Addr} {sl12 : Array (Option Value)} {oc12 kV12 dc12 pm12 cd12 ct12 : Value} {od13 an13 : Option Addr} {sl13 : Array (Option Value)} {oc13 kV13 dc13 pm13 cd13 ct13 : Value} {od14 an14 : Option Addr} {sl14 : Array (Option Value)} {oc14 kV14 dc14 pm14 cd14 ct14 : Value} {od15 an15 : Option Addr} {sl15 : Array (Option Value)} {oc15 kV15 dc15 pm15 cd15 ct15 : Value} {od16 an16 : Option Addr} {sl16 : Array (Option Value)} {oc16 kV16 dc16 pm16 cd16 ct16 : Value} {od17 an17 : Option Addr} {sl17 : Array (Option Value)} {oc17 kV17 dc17 pm17 cd17 ct17 : Value} {od18 an18 : Option Addr} {sl18 : Array (Option Value)} {oc18 kV18 dc18 pm18 cd18 ct18 : Value} {od19 an19 : Option Addr} {sl19 : Array (Option Value)} {oc19 kV19 dc19 pm19 cd19 ct19 : Value} {od20 an20 : Option Addr} {sl20 : Array (Option Value)} {oc20 kV20 dc20 pm20 cd20 ct20 : Value} {od21 an21 : Option Addr} {sl21 : Array (Option Value)} {oc21 kV21 dc21 pm21 cd21 ct21 : Value} {od22 an22 : Option Addr} {sl22 : Array (Option Value)} {oc22 kV22 dc22 pm22 cd22 ct22 : Value} {od23 an23 : Option Addr} {sl23 : Array (Option Value)} {oc23 kV23 dc23 pm23 cd23 ct23 : Value} {od24 an24 : Option Addr} {sl24 : Array (Option Value)} {oc24 kV24 dc24 pm24 cd24 ct24 : Value} {od25 an25 : Option Addr} {sl25 : Array (Option Value)} {oc25 kV25 dc25 pm25 cd25 ct25 : Value} {rc25 : Option Value} {od26 an26 : Option Addr} {sl26 : Array (Option Value)} {oc26 kV26 dc26 pm26 cd26 ct26 : Value} {od27 an27 : Option Addr} {sl27 : Array (Option Value)} {oc27 kV27 dc27 pm27 cd27 ct27 : Value} {rs27 : List Value} {xn28 xq28 : Str} {xN28 : Addr} {xb28 : List Value} {xs28 : List Str} {xu28 : List Value} {xa28 : Bool} {xc28 : Option Bool} {xd28 : Option Addr} {xk28a xk28b xk28c xk28d xk28e : Option Value} {od29 an29 : Option Addr} {sl29 : Array (Option Value)} {oc29 kV29 dc29 pm29 cd29 ct29 : Value} {xn30 xq30 : Str} {xN30 : Addr} {xb30 : List Value} {xs30 : List Str} {xu30 : List Value} {xa30 : Bool} {xc30 : Option Bool} {xd30 : Option Addr} {xk30a xk30b xk30c xk30d xk30e : Option Value} {od31 an31 : Option Addr} {sl31 : Array (Option Value)} {oc31 kV31 dc31 pm31 cd31 ct31 : Value} {od32 an32 : Option Addr} {sl32 : Array (Option Value)} {oc32 kV32 dc32 pm32 cd32 ct32 : Value} {od33 an33 : Option Addr} {sl33 : Array (Option Value)} {oc33 kV33 dc33 pm33 cd33 ct33 : Value} {od34 an34 : Option Addr} {sl34 : Array (Option Value)} {oc34 kV34 dc34 pm34 cd34 ct34 : Value} {od35 an35 : Option Addr} {sl35 : Array (Option Value)} {oc35 kV35 dc35 pm35 cd35 ct35 : Value} {od36 an36 : Option Addr} {sl36 : Array (Option Value)} {oc36 kV36 dc36 pm36 cd36 ct36 : Value} {od37 an37 : Option Addr} {sl37 : Array (Option Value)} {oc37 kV37 dc37 pm37 cd37 ct37 : Value} {tki38 : Tok}
    (a1 : PySem.W.nsIn K mainGlobals "law" = some (some (.ref f_law)))
    (l1 : K.lookup f_law = some ⟨oc1, od1, .func (PySem.W.fnOf "law" "law" (defArgs s_law) (defBody s_law) (defScope s_law) .none kV1 dc1 pm1 an1 cd1 ct1), sl1⟩)
    (c1 : PySem.W.codeIn K cd1 "law" = true)
    (k1 : PySem.W.keepIn K (.ref f_law) = true)
    (a2 : PySem.W.nsIn K mainGlobals "_law_box" = some (some (.ref f_law_box)))
    (l2 : K.lookup f_law_box = some ⟨oc2, od2, .func (PySem.W.fnOf "_law_box" "_law_box" (defArgs s_law_box) (defBody s_law_box) (defScope s_law_box) .none kV2 dc2 pm2 an2 cd2 ct2), sl2⟩)
    (c2 : PySem.W.codeIn K cd2 "_law_box" = true)
    (k2 : PySem.W.keepIn K (.ref f_law_box) = true)
    (a3 : PySem.W.nsIn K mainGlobals "_law_draw" = some (some (.ref f_law_draw)))
    (l3 : K.lookup f_law_draw = some ⟨oc3, od3, .func (PySem.W.fnOf "_law_draw" "_law_draw" (defArgs s_law_draw) (defBody s_law_draw) (defScope s_law_draw) .none kV3 dc3 pm3 an3 cd3 ct3), sl3⟩)
    (c3 : PySem.W.codeIn K cd3 "_law_draw" = true)
    (k3 : PySem.W.keepIn K (.ref f_law_draw) = true)
    (a4 : PySem.W.nsIn K mainGlobals "_law_size" = some (some (.ref f_law_size)))
    (l4 : K.lookup f_law_size = some ⟨oc4, od4, .func (PySem.W.fnOf "_law_size" "_law_size" (defArgs s_law_size) (defBody s_law_size) (defScope s_law_size) .none kV4 dc4 pm4 an4 cd4 ct4), sl4⟩)
    (c4 : PySem.W.codeIn K cd4 "_law_size" = true)
    (k4 : PySem.W.keepIn K (.ref f_law_size) = true)
    (a5 : PySem.W.nsIn K mainGlobals "_law_number" = some (some (.ref f_law_number)))
    (l5 : K.lookup f_law_number = some ⟨oc5, od5, .func (PySem.W.fnOf "_law_number" "_law_number" (defArgs s_law_number) (defBody s_law_number) (defScope s_law_number) .none kV5 dc5 pm5 an5 cd5 ct5), sl5⟩)
    (c5 : PySem.W.codeIn K cd5 "_law_number" = true)
    (k5 : PySem.W.keepIn K (.ref f_law_number) = true)
    (g_Grid : PySem.W.nsIn K mainGlobals "Grid" = some (some (.ref C_Grid)))
    (pg_Grid : PySem.W.plainGet K C_Grid Str.empty = true)
    (hd_Grid : PySem.W.hasDictIn K C_Grid = true)
    (po_Grid : PySem.W.plainOver K C_Grid = true)
    (sa_Grid : PySem.W.findIn K (.ref C_Grid) "__setattr__" = some (some (.builtin "object.__setattr__")))
    (mk_Grid : PySem.W.makesIn K C_Grid = true)
    (kp_Grid : PySem.W.keepIn K (.ref C_Grid) = true)
    (a6 : PySem.W.findIn K (.ref C_Grid) "__init__" = some (some (.ref f_Grid___init__)))
    (i6 : PySem.W.isFn K (.ref f_Grid___init__) = true)
    (l6 : K.lookup f_Grid___init__ = some ⟨oc6, od6, .func (PySem.W.fnOf "__init__" "Grid.__init__" (defArgs s_Grid___init__) (defBody s_Grid___init__) (defScope s_Grid___init__) (.ref dT6) kV6 dc6 pm6 an6 cd6 ct6), sl6⟩)
    (c6 : PySem.W.codeIn K cd6 "Grid.__init__" = true)
    (k6 : PySem.W.keepIn K (.ref f_Grid___init__) = true)
    (t6 : K.lookup dT6 = some ⟨tc6, td6, .seq (#[.int 0 tk6_0] : Array Value) tn6, ts6⟩)
    (no_Grid_step : PySem.W.findIn K (.ref C_Grid) "step" = some none)
    (no_Grid_offset : PySem.W.findIn K (.ref C_Grid) "offset" = some none)
    (z_len : PySem.W.nsIn K mainGlobals "len" = some none)
    (z_int : PySem.W.nsIn K mainGlobals "int" = some none)
    (z_abs : PySem.W.nsIn K mainGlobals "abs" = some none)
    (z_str : PySem.W.nsIn K mainGlobals "str" = some none)
    (z_range : PySem.W.nsIn K mainGlobals "range" = some none)
    (z_isinstance : PySem.W.nsIn K mainGlobals "isinstance" = some none)
    (z_bool : PySem.W.nsIn K mainGlobals "bool" = some none)
    (z_list : PySem.W.nsIn K mainGlobals "list" = some none)
    (z_tuple : PySem.W.nsIn K mainGlobals "tuple" = some none)
    (z_sum : PySem.W.nsIn K mainGlobals "sum" = some none)
    (z_min : PySem.W.nsIn K mainGlobals "min" = some none)
    (z_max : PySem.W.nsIn K mainGlobals "max" = some none)
    (z_any : PySem.W.nsIn K mainGlobals "any" = some none)
    (z_all : PySem.W.nsIn K mainGlobals "all" = some none)
    (z_sorted : PySem.W.nsIn K mainGlobals "sorted" = some none)
    (z_enumerate : PySem.W.nsIn K mainGlobals "enumerate" = some none)
    (z_ValueError : PySem.W.nsIn K mainGlobals "ValueError" = some none)
    (a7 : PySem.W.nsIn K mainGlobals "_law_int" = some (some (.ref f_law_int)))
    (l7 : K.lookup f_law_int = some ⟨oc7, od7, .func (PySem.W.fnOf "_law_int" "_law_int" (defArgs s_law_int) (defBody s_law_int) (defScope s_law_int) .none kV7 dc7 pm7 an7 cd7 ct7), sl7⟩)
    (c7 : PySem.W.codeIn K cd7 "_law_int" = true)
    (k7 : PySem.W.keepIn K (.ref f_law_int) = true)
    (a8 : PySem.W.nsIn K mainGlobals "_law_same" = some (some (.ref f_law_same)))
    (l8 : K.lookup f_law_same = some ⟨oc8, od8, .func (PySem.W.fnOf "_law_same" "_law_same" (defArgs s_law_same) (defBody s_law_same) (defScope s_law_same) .none kV8 dc8 pm8 an8 cd8 ct8), sl8⟩)
    (c8 : PySem.W.codeIn K cd8 "_law_same" = true)
    (k8 : PySem.W.keepIn K (.ref f_law_same) = true)
    (a9 : PySem.W.nsIn K mainGlobals "_law_in" = some (some (.ref f_law_in)))
    (l9 : K.lookup f_law_in = some ⟨oc9, od9, .func (PySem.W.fnOf "_law_in" "_law_in" (defArgs s_law_in) (defBody s_law_in) (defScope s_law_in) .none kV9 dc9 pm9 an9 cd9 ct9), sl9⟩)
    (c9 : PySem.W.codeIn K cd9 "_law_in" = true)
    (k9 : PySem.W.keepIn K (.ref f_law_in) = true)
    (a10 : PySem.W.nsIn K mainGlobals "_law_hit" = some (some (.ref f_law_hit)))
    (l10 : K.lookup f_law_hit = some ⟨oc10, od10, .func (PySem.W.fnOf "_law_hit" "_law_hit" (defArgs s_law_hit) (defBody s_law_hit) (defScope s_law_hit) .none kV10 dc10 pm10 an10 cd10 ct10), sl10⟩)
    (c10 : PySem.W.codeIn K cd10 "_law_hit" = true)
    (k10 : PySem.W.keepIn K (.ref f_law_hit) = true)
    (a11 : PySem.W.nsIn K mainGlobals "_law_cover" = some (some (.ref f_law_cover)))
    (l11 : K.lookup f_law_cover = some ⟨oc11, od11, .func (PySem.W.fnOf "_law_cover" "_law_cover" (defArgs s_law_cover) (defBody s_law_cover) (defScope s_law_cover) .none kV11 dc11 pm11 an11 cd11 ct11), sl11⟩)
    (c11 : PySem.W.codeIn K cd11 "_law_cover" = true)
    (k11 : PySem.W.keepIn K (.ref f_law_cover) = true)
    (a12 : PySem.W.nsIn K mainGlobals "_law_pair" = some (some (.ref f_law_pair)))
    (l12 : K.lookup f_law_pair = some ⟨oc12, od12, .func (PySem.W.fnOf "_law_pair" "_law_pair" (defArgs s_law_pair) (defBody s_law_pair) (defScope s_law_pair) .none kV12 dc12 pm12 an12 cd12 ct12), sl12⟩)
    (c12 : PySem.W.codeIn K cd12 "_law_pair" = true)
    (k12 : PySem.W.keepIn K (.ref f_law_pair) = true)
    (a13 : PySem.W.nsIn K mainGlobals "_law_grids" = some (some (.ref f_law_grids)))
    (l13 : K.lookup f_law_grids = some ⟨oc13, od13, .func (PySem.W.fnOf "_law_grids" "_law_grids" (defArgs s_law_grids) (defBody s_law_grids) (defScope s_law_grids) .none kV13 dc13 pm13 an13 cd13 ct13), sl13⟩)
    (c13 : PySem.W.codeIn K cd13 "_law_grids" = true)
    (k13 : PySem.W.keepIn K (.ref f_law_grids) = true)
    (a14 : PySem.W.nsIn K mainGlobals "_law_made" = some (some (.ref f_law_made)))
    (l14 : K.lookup f_law_made = some ⟨oc14, od14, .func (PySem.W.fnOf "_law_made" "_law_made" (defArgs s_law_made) (defBody s_law_made) (defScope s_law_made) .none kV14 dc14 pm14 an14 cd14 ct14), sl14⟩)
    (c14 : PySem.W.codeIn K cd14 "_law_made" = true)
    (k14 : PySem.W.keepIn K (.ref f_law_made) = true)
    (a15 : PySem.W.nsIn K mainGlobals "_law_kept" = some (some (.ref f_law_kept)))
    (l15 : K.lookup f_law_kept = some ⟨oc15, od15, .func (PySem.W.fnOf "_law_kept" "_law_kept" (defArgs s_law_kept) (defBody s_law_kept) (defScope s_law_kept) .none kV15 dc15 pm15 an15 cd15 ct15), sl15⟩)
    (c15 : PySem.W.codeIn K cd15 "_law_kept" = true)
    (k15 : PySem.W.keepIn K (.ref f_law_kept) = true)
    (a16 : PySem.W.nsIn K mainGlobals "_law_meet" = some (some (.ref f_law_meet)))
    (l16 : K.lookup f_law_meet = some ⟨oc16, od16, .func (PySem.W.fnOf "_law_meet" "_law_meet" (defArgs s_law_meet) (defBody s_law_meet) (defScope s_law_meet) .none kV16 dc16 pm16 an16 cd16 ct16), sl16⟩)
    (c16 : PySem.W.codeIn K cd16 "_law_meet" = true)
    (k16 : PySem.W.keepIn K (.ref f_law_meet) = true)
    (a17 : PySem.W.nsIn K mainGlobals "_law_terms" = some (some (.ref f_law_terms)))
    (l17 : K.lookup f_law_terms = some ⟨oc17, od17, .func (PySem.W.fnOf "_law_terms" "_law_terms" (defArgs s_law_terms) (defBody s_law_terms) (defScope s_law_terms) .none kV17 dc17 pm17 an17 cd17 ct17), sl17⟩)
    (c17 : PySem.W.codeIn K cd17 "_law_terms" = true)
    (k17 : PySem.W.keepIn K (.ref f_law_terms) = true)
    (a18 : PySem.W.nsIn K mainGlobals "_law_count_one" = some (some (.ref f_law_count_one)))
    (l18 : K.lookup f_law_count_one = some ⟨oc18, od18, .func (PySem.W.fnOf "_law_count_one" "_law_count_one" (defArgs s_law_count_one) (defBody s_law_count_one) (defScope s_law_count_one) .none kV18 dc18 pm18 an18 cd18 ct18), sl18⟩)
    (c18 : PySem.W.codeIn K cd18 "_law_count_one" = true)
    (k18 : PySem.W.keepIn K (.ref f_law_count_one) = true)
    (a19 : PySem.W.nsIn K mainGlobals "_law_count" = some (some (.ref f_law_count)))
    (l19 : K.lookup f_law_count = some ⟨oc19, od19, .func (PySem.W.fnOf "_law_count" "_law_count" (defArgs s_law_count) (defBody s_law_count) (defScope s_law_count) .none kV19 dc19 pm19 an19 cd19 ct19), sl19⟩)
    (c19 : PySem.W.codeIn K cd19 "_law_count" = true)
    (k19 : PySem.W.keepIn K (.ref f_law_count) = true)
    (a20 : PySem.W.nsIn K mainGlobals "_law_ask" = some (some (.ref f_law_ask)))
    (l20 : K.lookup f_law_ask = some ⟨oc20, od20, .func (PySem.W.fnOf "_law_ask" "_law_ask" (defArgs s_law_ask) (defBody s_law_ask) (defScope s_law_ask) .none kV20 dc20 pm20 an20 cd20 ct20), sl20⟩)
    (c20 : PySem.W.codeIn K cd20 "_law_ask" = true)
    (k20 : PySem.W.keepIn K (.ref f_law_ask) = true)
    (a21 : PySem.W.nsIn K mainGlobals "_law_held" = some (some (.ref f_law_held)))
    (l21 : K.lookup f_law_held = some ⟨oc21, od21, .func (PySem.W.fnOf "_law_held" "_law_held" (defArgs s_law_held) (defBody s_law_held) (defScope s_law_held) .none kV21 dc21 pm21 an21 cd21 ct21), sl21⟩)
    (c21 : PySem.W.codeIn K cd21 "_law_held" = true)
    (k21 : PySem.W.keepIn K (.ref f_law_held) = true)
    (a22 : PySem.W.nsIn K mainGlobals "_law_right" = some (some (.ref f_law_right)))
    (l22 : K.lookup f_law_right = some ⟨oc22, od22, .func (PySem.W.fnOf "_law_right" "_law_right" (defArgs s_law_right) (defBody s_law_right) (defScope s_law_right) .none kV22 dc22 pm22 an22 cd22 ct22), sl22⟩)
    (c22 : PySem.W.codeIn K cd22 "_law_right" = true)
    (k22 : PySem.W.keepIn K (.ref f_law_right) = true)
    (a23 : PySem.W.findIn K (.ref C_Grid) "tick_of" = some (some (.ref f_Grid_tick_of)))
    (i23 : PySem.W.isFn K (.ref f_Grid_tick_of) = true)
    (l23 : K.lookup f_Grid_tick_of = some ⟨oc23, od23, .func (PySem.W.fnOf "tick_of" "Grid.tick_of" (defArgs s_Grid_tick_of) (defBody s_Grid_tick_of) (defScope s_Grid_tick_of) .none kV23 dc23 pm23 an23 cd23 ct23), sl23⟩)
    (c23 : PySem.W.codeIn K cd23 "Grid.tick_of" = true)
    (k23 : PySem.W.keepIn K (.ref f_Grid_tick_of) = true)
    (a24 : PySem.W.findIn K (.ref C_Grid) "between" = some (some (.ref f_Grid_between)))
    (i24 : PySem.W.isFn K (.ref f_Grid_between) = true)
    (l24 : K.lookup f_Grid_between = some ⟨oc24, od24, .func (PySem.W.fnOf "between" "Grid.between" (defArgs s_Grid_between) (defBody s_Grid_between) (defScope s_Grid_between) .none kV24 dc24 pm24 an24 cd24 ct24), sl24⟩)
    (c24 : PySem.W.codeIn K cd24 "Grid.between" = true)
    (k24 : PySem.W.keepIn K (.ref f_Grid_between) = true)
    (a25 : PySem.W.findIn K (.ref C_Grid) (dunderR (Operator.info .FloorDiv).2) = some (some (.ref f_Grid___rfloordiv__)))
    (i25 : PySem.W.isFn K (.ref f_Grid___rfloordiv__) = true)
    (l25 : K.lookup f_Grid___rfloordiv__ = some ⟨oc25, od25, .func (PySem.W.fnOf "__rfloordiv__" "Grid.__rfloordiv__" (defArgs s_Grid___rfloordiv__) (defBody s_Grid___rfloordiv__) (defScope s_Grid___rfloordiv__) .none kV25 dc25 pm25 an25 cd25 ct25), sl25⟩)
    (c25 : PySem.W.codeIn K cd25 "Grid.__rfloordiv__" = true)
    (k25 : PySem.W.keepIn K (.ref f_Grid___rfloordiv__) = true)
    (sf25 : PySem.W.selfFirst K C_Grid = true)
    (r25 : PySem.W.findIn K (.ref C_Grid) (PySem.dunder (Operator.info .FloorDiv).2) = some rc25)
    (q25 : rc25 = none ∨ ∃ g : Addr, rc25 = some (.ref g))
    (s25 : PySem.W.subIn K (.ref C_Grid) (.type "int") = some false)
    (rd_Grid : PySem.W.readsIn K C_Grid (.type "type") = true)
    (sg_Grid : PySem.W.specialIn K (.ref C_Grid) "__getattribute__" = some (some (.builtin "type.__getattribute__")))
    (gm_gcd : PySem.W.nsIn K mainGlobals "gcd" = some (some (.builtin "math.gcd")))
    (gm_lcm : PySem.W.nsIn K mainGlobals "lcm" = some (some (.builtin "math.lcm")))
    (a26 : PySem.W.nsIn K mainGlobals "inverse" = some (some (.ref f_inverse)))
    (l26 : K.lookup f_inverse = some ⟨oc26, od26, .func (PySem.W.fnOf "inverse" "inverse" (defArgs s_inverse) (defBody s_inverse) (defScope s_inverse) .none kV26 dc26 pm26 an26 cd26 ct26), sl26⟩)
    (c26 : PySem.W.codeIn K cd26 "inverse" = true)
    (k26 : PySem.W.keepIn K (.ref f_inverse) = true)
    (a27 : PySem.W.findCls K (.ref C_Grid) (.type "type") "common" = some (.get (.builtin "staticmethod.__get__") (.ref p_Grid_common) .none (.ref C_Grid)))
    (b27 : PySem.W.recIn K p_Grid_common "staticmethod" = some (.ref f_Grid_common :: rs27))
    (l27 : K.lookup f_Grid_common = some ⟨oc27, od27, .func (PySem.W.fnOf "common" "Grid.common" (defArgs s_Grid_common) (defBody s_Grid_common) (defScope s_Grid_common) .none kV27 dc27 pm27 an27 cd27 ct27), sl27⟩)
    (c27 : PySem.W.codeIn K cd27 "Grid.common" = true)
    (k27 : PySem.W.keepIn K (.ref f_Grid_common) = true)
    (g_BarclipsError : PySem.W.nsIn K mainGlobals "BarclipsError" = some (some (.ref C_BarclipsError)))
    (rd_BarclipsError : PySem.W.readsIn K C_BarclipsError (.type "type") = true)
    (sg_BarclipsError : PySem.W.specialIn K (.ref C_BarclipsError) "__getattribute__" = some (some (.builtin "type.__getattribute__")))
    (vi_BarclipsError : PySem.W.findCls K (.ref C_BarclipsError) (.type "type") "__init__" = some (.val (.builtin "ValueError.__init__")))
    (ic_BarclipsError : PySem.W.isClsIn K C_BarclipsError = true)
    (ty_BarclipsError : PySem.W.typeIn K (.ref C_BarclipsError) = some (.type "type"))
    (e_hn : PySem.W.specialIn K (.builtin "object.__class__") "__get__" = some (some (.builtin "getset_descriptor.__get__")))
    (e_tk : PySem.W.takesIn K (.builtin "object.__class__") = some true)
    (g_TooMany : PySem.W.nsIn K mainGlobals "TooMany" = some (some (.ref C_TooMany)))
    (lk_TooMany : K.lookup C_TooMany = some (excClassObj xn28 xq28 C_TooMany xN28 xb28 [.ref C_BarclipsError, .type "ValueError", .type "Exception", .type "BaseException", .type "object"] true xs28 xu28 xa28 xc28 xd28 xk28a xk28b xk28c xk28d xk28e "ValueError.__new__"))
    (sa_TooMany : PySem.W.findIn K (.ref C_TooMany) "__setattr__" = some (some (.builtin "object.__setattr__")))
    (xb_TooMany : PySem.W.subIn K (.ref C_TooMany) (.type "BaseException") = some true)
    (ty_TooMany : PySem.W.typeIn K (.ref C_TooMany) = some (.type "type"))
    (kp_TooMany : PySem.W.keepIn K (.ref C_TooMany) = true)
    (ga_TooMany : PySem.W.findIn K (.ref C_TooMany) "__getattribute__" = some (some (.builtin "BaseException.__getattribute__")))
    (gg_TooMany : PySem.W.findIn K (.ref C_TooMany) "__getattr__" = some none)
    (hd_TooMany : PySem.W.hasDictIn K C_TooMany = true)
    (ic_TooMany : PySem.W.isClsIn K C_TooMany = true)
    (ac_TooMany : PySem.W.findIn K (.ref C_TooMany) "__class__" = some (some (.builtin "object.__class__")))
    (mo_TooMany : PySem.W.mroIn K C_TooMany (.type "object") = some true)
    (ss_TooMany : PySem.W.subIn K (.ref C_TooMany) (.ref C_TooMany) = some true)
    (a29 : PySem.W.findIn K (.ref C_TooMany) "__init__" = some (some (.ref f_TooMany___init__)))
    (t29 : PySem.W.typeIn K (.ref f_TooMany___init__) = some (.type "function"))
    (l29 : K.lookup f_TooMany___init__ = some ⟨oc29, od29, .func (PySem.W.fnOf "__init__" "TooMany.__init__" (defArgs s_TooMany___init__) (defBody s_TooMany___init__) (defScope s_TooMany___init__) .none kV29 dc29 pm29 an29 cd29 ct29), sl29⟩)
    (c29 : PySem.W.codeIn K cd29 "TooMany.__init__" = true)
    (k29 : PySem.W.keepIn K (.ref f_TooMany___init__) = true)
    (no_TooMany_kind : PySem.W.findIn K (.ref C_TooMany) "kind" = some none)
    (no_TooMany_most : PySem.W.findIn K (.ref C_TooMany) "most" = some none)
    (g_BadNumber : PySem.W.nsIn K mainGlobals "BadNumber" = some (some (.ref C_BadNumber)))
    (lk_BadNumber : K.lookup C_BadNumber = some (excClassObj xn30 xq30 C_BadNumber xN30 xb30 [.ref C_BarclipsError, .type "ValueError", .type "Exception", .type "BaseException", .type "object"] true xs30 xu30 xa30 xc30 xd30 xk30a xk30b xk30c xk30d xk30e "ValueError.__new__"))
    (sa_BadNumber : PySem.W.findIn K (.ref C_BadNumber) "__setattr__" = some (some (.builtin "object.__setattr__")))
    (xb_BadNumber : PySem.W.subIn K (.ref C_BadNumber) (.type "BaseException") = some true)
    (ty_BadNumber : PySem.W.typeIn K (.ref C_BadNumber) = some (.type "type"))
    (kp_BadNumber : PySem.W.keepIn K (.ref C_BadNumber) = true)
    (ga_BadNumber : PySem.W.findIn K (.ref C_BadNumber) "__getattribute__" = some (some (.builtin "BaseException.__getattribute__")))
    (gg_BadNumber : PySem.W.findIn K (.ref C_BadNumber) "__getattr__" = some none)
    (hd_BadNumber : PySem.W.hasDictIn K C_BadNumber = true)
    (ic_BadNumber : PySem.W.isClsIn K C_BadNumber = true)
    (ac_BadNumber : PySem.W.findIn K (.ref C_BadNumber) "__class__" = some (some (.builtin "object.__class__")))
    (mo_BadNumber : PySem.W.mroIn K C_BadNumber (.type "object") = some true)
    (ss_BadNumber : PySem.W.subIn K (.ref C_BadNumber) (.ref C_BadNumber) = some true)
    (a31 : PySem.W.findIn K (.ref C_BadNumber) "__init__" = some (some (.ref f_BadNumber___init__)))
    (t31 : PySem.W.typeIn K (.ref f_BadNumber___init__) = some (.type "function"))
    (l31 : K.lookup f_BadNumber___init__ = some ⟨oc31, od31, .func (PySem.W.fnOf "__init__" "BadNumber.__init__" (defArgs s_BadNumber___init__) (defBody s_BadNumber___init__) (defScope s_BadNumber___init__) .none kV31 dc31 pm31 an31 cd31 ct31), sl31⟩)
    (c31 : PySem.W.codeIn K cd31 "BadNumber.__init__" = true)
    (k31 : PySem.W.keepIn K (.ref f_BadNumber___init__) = true)
    (no_BadNumber_value : PySem.W.findIn K (.ref C_BadNumber) "value" = some none)
    (sb_TooMany_BarclipsError : PySem.W.subIn K (.ref C_TooMany) (.ref C_BarclipsError) = some true)
    (sb_TooMany_ValueError : PySem.W.subIn K (.ref C_TooMany) (.type "ValueError") = some true)
    (sb_TooMany_BadNumber : PySem.W.subIn K (.ref C_TooMany) (.ref C_BadNumber) = some false)
    (sb_BadNumber_BarclipsError : PySem.W.subIn K (.ref C_BadNumber) (.ref C_BarclipsError) = some true)
    (sb_BadNumber_ValueError : PySem.W.subIn K (.ref C_BadNumber) (.type "ValueError") = some true)
    (sb_BadNumber_TooMany : PySem.W.subIn K (.ref C_BadNumber) (.ref C_TooMany) = some false)
    (a32 : PySem.W.nsIn K mainGlobals "check_grids" = some (some (.ref f_check_grids)))
    (l32 : K.lookup f_check_grids = some ⟨oc32, od32, .func (PySem.W.fnOf "check_grids" "check_grids" (defArgs s_check_grids) (defBody s_check_grids) (defScope s_check_grids) .none kV32 dc32 pm32 an32 cd32 ct32), sl32⟩)
    (c32 : PySem.W.codeIn K cd32 "check_grids" = true)
    (k32 : PySem.W.keepIn K (.ref f_check_grids) = true)
    (a33 : PySem.W.nsIn K mainGlobals "signed_commons" = some (some (.ref f_signed_commons)))
    (l33 : K.lookup f_signed_commons = some ⟨oc33, od33, .func (PySem.W.fnOf "signed_commons" "signed_commons" (defArgs s_signed_commons) (defBody s_signed_commons) (defScope s_signed_commons) .none kV33 dc33 pm33 an33 cd33 ct33), sl33⟩)
    (c33 : PySem.W.codeIn K cd33 "signed_commons" = true)
    (k33 : PySem.W.keepIn K (.ref f_signed_commons) = true)
    (a34 : PySem.W.nsIn K mainGlobals "count_between" = some (some (.ref f_count_between)))
    (l34 : K.lookup f_count_between = some ⟨oc34, od34, .func (PySem.W.fnOf "count_between" "count_between" (defArgs s_count_between) (defBody s_count_between) (defScope s_count_between) .none kV34 dc34 pm34 an34 cd34 ct34), sl34⟩)
    (c34 : PySem.W.codeIn K cd34 "count_between" = true)
    (k34 : PySem.W.keepIn K (.ref f_count_between) = true)
    (a35 : PySem.W.nsIn K mainGlobals "share_of" = some (some (.ref f_share_of)))
    (l35 : K.lookup f_share_of = some ⟨oc35, od35, .func (PySem.W.fnOf "share_of" "share_of" (defArgs s_share_of) (defBody s_share_of) (defScope s_share_of) .none kV35 dc35 pm35 an35 cd35 ct35), sl35⟩)
    (c35 : PySem.W.codeIn K cd35 "share_of" = true)
    (k35 : PySem.W.keepIn K (.ref f_share_of) = true)
    (a36 : PySem.W.nsIn K mainGlobals "gaps_between" = some (some (.ref f_gaps_between)))
    (l36 : K.lookup f_gaps_between = some ⟨oc36, od36, .func (PySem.W.fnOf "gaps_between" "gaps_between" (defArgs s_gaps_between) (defBody s_gaps_between) (defScope s_gaps_between) .none kV36 dc36 pm36 an36 cd36 ct36), sl36⟩)
    (c36 : PySem.W.codeIn K cd36 "gaps_between" = true)
    (k36 : PySem.W.keepIn K (.ref f_gaps_between) = true)
    (a37 : PySem.W.nsIn K mainGlobals "nth_gap" = some (some (.ref f_nth_gap)))
    (l37 : K.lookup f_nth_gap = some ⟨oc37, od37, .func (PySem.W.fnOf "nth_gap" "nth_gap" (defArgs s_nth_gap) (defBody s_nth_gap) (defScope s_nth_gap) .none kV37 dc37 pm37 an37 cd37 ct37), sl37⟩)
    (c37 : PySem.W.codeIn K cd37 "nth_gap" = true)
    (k37 : PySem.W.keepIn K (.ref f_nth_gap) = true)
    (gi_MOST_GRIDS : PySem.W.nsIn K mainGlobals "MOST_GRIDS" = some (some (.int 6 tki38))) :
    ∃ fd : FuncData, (∀ (s : Shared) (v : Value), BindsTo s fd ⟨[v], []⟩ [("_law_script", v)]) ∧ ∀ base : Heap, K.In base → base.Ns mainGlobals mg → FnOk l.prog w K mg base CX0 lawLevel fa fd ["_law_script"] (spLaw K) := by
  have F_law := fun_mk (st := s_law) l1 c1 k1
  have g_law := PySem.W.mg_of X G a1
  have kp_law := k1
  have F_law_box := fun_mk (st := s_law_box) l2 c2 k2
  have b_law_box := F_law_box.binds (ps := P_law_box) fun _ _ _ _ _ _ us hl => match us, hl with | [_, _], _ => rfl
  have g_law_box := PySem.W.mg_of X G a2
  have kp_law_box := k2
  have F_law_draw := fun_mk (st := s_law_draw) l3 c3 k3
  have b_law_draw := F_law_draw.binds (ps := P_law_draw) fun _ _ _ _ _ _ us hl => match us, hl with | [_, _], _ => rfl
  have g_law_draw := PySem.W.mg_of X G a3
  have kp_law_draw := k3
  have F_law_size := fun_mk (st := s_law_size) l4 c4 k4
  have b_law_size := F_law_size.binds (ps := P_law_size) fun _ _ _ _ _ _ us hl => match us, hl with | [_], _ => rfl
  have g_law_size := PySem.W.mg_of X G a4
  have kp_law_size := k4
  have F_law_number := fun_mk (st := s_law_number) l5 c5 k5
  have b_law_number := F_law_number.binds (ps := P_law_number) fun _ _ _ _ _ _ us hl => match us, hl with | [_], _ => rfl
  have g_law_number := PySem.W.mg_of X G a5
  have kp_law_number := k5
  have cl_Grid : Cls K C_Grid := ⟨pg_Grid, hd_Grid, po_Grid, sa_Grid⟩
  have mg_Grid := PySem.W.mg_of X G g_Grid
  have F_Grid___init__ : FunD K "__init__" "Grid.__init__" (defArgs s_Grid___init__) (defBody s_Grid___init__) (defScope s_Grid___init__) [.int 0] [] f_Grid___init__ _ := ⟨⟨_, _, _, _, _, _, _, _, _, _, rfl, l6, c6, Or.inr ⟨by simp, _, _, _, _, rfl, t6, rfl, .cons ⟨_, rfl⟩ (.nil)⟩, Or.inl rfl⟩, k6⟩
  obtain ⟨ds_Grid___init___1, dr_Grid___init___1, b_Grid___init___1⟩ := F_Grid___init__.binds1 (ps := P_Grid___init__) 2 0 (by simp) rfl (fun T kV doc pm an cdv ct us its h1 h2 => match us, its, h1, h2 with | [_, _], [_], _, _ => ⟨_, rfl, rfl⟩)
  obtain ⟨ds_Grid___init___2, dr_Grid___init___2, b_Grid___init___2⟩ := F_Grid___init__.binds1 (ps := P_Grid___init__) 3 1 (by simp) rfl (fun T kV doc pm an cdv ct us its h1 h2 => match us, its, h1, h2 with | [_, _, _], [_], _, _ => ⟨_, rfl, rfl⟩)
  have mk_Grid___init__ : Mk K C_Grid f_Grid___init__ := ⟨mk_Grid, a6, i6, kp_Grid⟩
  have kp_Grid___init__ := k6
  have b_len := PySem.W.mg_none_of X G z_len
  have b_int := PySem.W.mg_none_of X G z_int
  have b_abs := PySem.W.mg_none_of X G z_abs
  have b_str := PySem.W.mg_none_of X G z_str
  have b_range := PySem.W.mg_none_of X G z_range
  have b_isinstance := PySem.W.mg_none_of X G z_isinstance
  have b_bool := PySem.W.mg_none_of X G z_bool
  have b_list := PySem.W.mg_none_of X G z_list
  have b_tuple := PySem.W.mg_none_of X G z_tuple
  have b_sum := PySem.W.mg_none_of X G z_sum
  have b_min := PySem.W.mg_none_of X G z_min
  have b_max := PySem.W.mg_none_of X G z_max
  have b_any := PySem.W.mg_none_of X G z_any
  have b_all := PySem.W.mg_none_of X G z_all
  have b_sorted := PySem.W.mg_none_of X G z_sorted
  have b_enumerate := PySem.W.mg_none_of X G z_enumerate
  have b_ValueError := PySem.W.mg_none_of X G z_ValueError
  have F_law_int := fun_mk (st := s_law_int) l7 c7 k7
  have b_law_int := F_law_int.binds (ps := P_law_int) fun _ _ _ _ _ _ us hl => match us, hl with | [_], _ => rfl
  have g_law_int := PySem.W.mg_of X G a7
  have kp_law_int := k7
  have F_law_same := fun_mk (st := s_law_same) l8 c8 k8
  have b_law_same := F_law_same.binds (ps := P_law_same) fun _ _ _ _ _ _ us hl => match us, hl with | [_, _], _ => rfl
  have g_law_same := PySem.W.mg_of X G a8
  have kp_law_same := k8
  have F_law_in := fun_mk (st := s_law_in) l9 c9 k9
  have b_law_in := F_law_in.binds (ps := P_law_in) fun _ _ _ _ _ _ us hl => match us, hl with | [_, _], _ => rfl
  have g_law_in := PySem.W.mg_of X G a9
  have kp_law_in := k9
  have F_law_hit := fun_mk (st := s_law_hit) l10 c10 k10
  have b_law_hit := F_law_hit.binds (ps := P_law_hit) fun _ _ _ _ _ _ us hl => match us, hl with | [_, _], _ => rfl
  have g_law_hit := PySem.W.mg_of X G a10
  have kp_law_hit := k10
  have F_law_cover := fun_mk (st := s_law_cover) l11 c11 k11
  have b_law_cover := F_law_cover.binds (ps := P_law_cover) fun _ _ _ _ _ _ us hl => match us, hl with | [_, _], _ => rfl
  have g_law_cover := PySem.W.mg_of X G a11
  have kp_law_cover := k11
  have F_law_pair := fun_mk (st := s_law_pair) l12 c12 k12
  have b_law_pair := F_law_pair.binds (ps := P_law_pair) fun _ _ _ _ _ _ us hl => match us, hl with | [_], _ => rfl
  have g_law_pair := PySem.W.mg_of X G a12
  have kp_law_pair := k12
  have F_law_grids := fun_mk (st := s_law_grids) l13 c13 k13
  have b_law_grids := F_law_grids.binds (ps := P_law_grids) fun _ _ _ _ _ _ us hl => match us, hl with | [_, _], _ => rfl
  have g_law_grids := PySem.W.mg_of X G a13
  have kp_law_grids := k13
  have F_law_made := fun_mk (st := s_law_made) l14 c14 k14
  have b_law_made := F_law_made.binds (ps := P_law_made) fun _ _ _ _ _ _ us hl => match us, hl with | [_], _ => rfl
  have g_law_made := PySem.W.mg_of X G a14
  have kp_law_made := k14
  have F_law_kept := fun_mk (st := s_law_kept) l15 c15 k15
  have b_law_kept := F_law_kept.binds (ps := P_law_kept) fun _ _ _ _ _ _ us hl => match us, hl with | [_, _], _ => rfl
  have g_law_kept := PySem.W.mg_of X G a15
  have kp_law_kept := k15
  have F_law_meet := fun_mk (st := s_law_meet) l16 c16 k16
  have b_law_meet := F_law_meet.binds (ps := P_law_meet) fun _ _ _ _ _ _ us hl => match us, hl with | [_, _], _ => rfl
  have g_law_meet := PySem.W.mg_of X G a16
  have kp_law_meet := k16
  have F_law_terms := fun_mk (st := s_law_terms) l17 c17 k17
  have b_law_terms := F_law_terms.binds (ps := P_law_terms) fun _ _ _ _ _ _ us hl => match us, hl with | [_], _ => rfl
  have g_law_terms := PySem.W.mg_of X G a17
  have kp_law_terms := k17
  have F_law_count_one := fun_mk (st := s_law_count_one) l18 c18 k18
  have b_law_count_one := F_law_count_one.binds (ps := P_law_count_one) fun _ _ _ _ _ _ us hl => match us, hl with | [_, _, _], _ => rfl
  have g_law_count_one := PySem.W.mg_of X G a18
  have kp_law_count_one := k18
  have F_law_count := fun_mk (st := s_law_count) l19 c19 k19
  have b_law_count := F_law_count.binds (ps := P_law_count) fun _ _ _ _ _ _ us hl => match us, hl with | [_, _, _], _ => rfl
  have g_law_count := PySem.W.mg_of X G a19
  have kp_law_count := k19
  have F_law_ask := fun_mk (st := s_law_ask) l20 c20 k20
  have b_law_ask := F_law_ask.binds (ps := P_law_ask) fun _ _ _ _ _ _ us hl => match us, hl with | [_, _, _], _ => rfl
  have g_law_ask := PySem.W.mg_of X G a20
  have kp_law_ask := k20
  have F_law_held := fun_mk (st := s_law_held) l21 c21 k21
  have b_law_held := F_law_held.binds (ps := P_law_held) fun _ _ _ _ _ _ us hl => match us, hl with | [_], _ => rfl
  have g_law_held := PySem.W.mg_of X G a21
  have kp_law_held := k21
  have F_law_right := fun_mk (st := s_law_right) l22 c22 k22
  have b_law_right := F_law_right.binds (ps := P_law_right) fun _ _ _ _ _ _ us hl => match us, hl with | [_, _, _, _, _], _ => rfl
  have g_law_right := PySem.W.mg_of X G a22
  have kp_law_right := k22
  have F_Grid_tick_of := fun_mk (st := s_Grid_tick_of) l23 c23 k23
  have b_Grid_tick_of := F_Grid_tick_of.binds (ps := P_Grid_tick_of) fun _ _ _ _ _ _ us hl => match us, hl with | [_, _], _ => rfl
  have g_Grid_tick_of := (⟨a23, i23, k23⟩ : Meth K C_Grid "tick_of" f_Grid_tick_of)
  have o_Grid_tick_of : Own K C_Grid "tick_of" f_Grid_tick_of := ⟨a23, i23⟩
  have kp_Grid_tick_of := k23
  have F_Grid_between := fun_mk (st := s_Grid_between) l24 c24 k24
  have b_Grid_between := F_Grid_between.binds (ps := P_Grid_between) fun _ _ _ _ _ _ us hl => match us, hl with | [_, _, _], _ => rfl
  have g_Grid_between := (⟨a24, i24, k24⟩ : Meth K C_Grid "between" f_Grid_between)
  have o_Grid_between : Own K C_Grid "between" f_Grid_between := ⟨a24, i24⟩
  have kp_Grid_between := k24
  have F_Grid___rfloordiv__ := fun_mk (st := s_Grid___rfloordiv__) l25 c25 k25
  have b_Grid___rfloordiv__ := F_Grid___rfloordiv__.binds (ps := P_Grid___rfloordiv__) fun _ _ _ _ _ _ us hl => match us, hl with | [_, _], _ => rfl
  have o_Grid___rfloordiv__ : OwnR K C_Grid .FloorDiv f_Grid___rfloordiv__ := ⟨sf25, a25, i25, ⟨_, r25, q25⟩, s25⟩
  have kp_Grid___rfloordiv__ := k25
  have cr_Grid : ClX.CRead K C_Grid (.type "type") := ⟨rd_Grid, sg_Grid⟩
  have g_gcd := PySem.W.mg_of X G gm_gcd
  have g_lcm := PySem.W.mg_of X G gm_lcm
  have F_inverse := fun_mk (st := s_inverse) l26 c26 k26
  have b_inverse := F_inverse.binds (ps := P_inverse) fun _ _ _ _ _ _ us hl => match us, hl with | [_, _], _ => rfl
  have g_inverse := PySem.W.mg_of X G a26
  have kp_inverse := k26
  have F_Grid_common := fun_mk (st := s_Grid_common) l27 c27 k27
  have b_Grid_common := F_Grid_common.binds (ps := P_Grid_common) fun _ _ _ _ _ _ us hl => match us, hl with | [_, _], _ => rfl
  have fc_Grid_common := a27
  have rc_Grid_common := b27
  have kp_Grid_common := k27
  have eb : EBase K mg "BarclipsError" C_BarclipsError := ⟨PySem.W.mg_of X G g_BarclipsError, ⟨rd_BarclipsError, sg_BarclipsError⟩, vi_BarclipsError⟩
  have mg_BarclipsError := PySem.W.mg_of X G g_BarclipsError
  have mg_TooMany := PySem.W.mg_of X G g_TooMany
  have oc_TooMany : OexC K C_TooMany := ⟨⟨_, _, _, _, _, _, _, _, _, _, _, _, _, _, _, lk_TooMany, by first | rfl | decide⟩, sa_TooMany, xb_TooMany, ty_TooMany, kp_TooMany⟩
  have ee_TooMany : ETxt K mg "TooMany" C_TooMany := ⟨mg_TooMany, oc_TooMany, ⟨⟨ga_TooMany, gg_TooMany, xb_TooMany, hd_TooMany⟩, ic_TooMany, ac_TooMany, e_hn, e_tk, mo_TooMany⟩, exm_own xb_TooMany ic_TooMany ty_TooMany ss_TooMany⟩
  have F_TooMany___init__ := fun_mk (st := s_TooMany___init__) l29 c29 k29
  have b_TooMany___init__ := F_TooMany___init__.binds (ps := P_TooMany___init__) fun _ _ _ _ _ _ us hl => match us, hl with | [_, _, _], _ => rfl
  have gi_TooMany___init__ := a29
  have ti_TooMany___init__ := t29
  have mg_BadNumber := PySem.W.mg_of X G g_BadNumber
  have oc_BadNumber : OexC K C_BadNumber := ⟨⟨_, _, _, _, _, _, _, _, _, _, _, _, _, _, _, lk_BadNumber, by first | rfl | decide⟩, sa_BadNumber, xb_BadNumber, ty_BadNumber, kp_BadNumber⟩
  have ee_BadNumber : ETxt K mg "BadNumber" C_BadNumber := ⟨mg_BadNumber, oc_BadNumber, ⟨⟨ga_BadNumber, gg_BadNumber, xb_BadNumber, hd_BadNumber⟩, ic_BadNumber, ac_BadNumber, e_hn, e_tk, mo_BadNumber⟩, exm_own xb_BadNumber ic_BadNumber ty_BadNumber ss_BadNumber⟩
  have F_BadNumber___init__ := fun_mk (st := s_BadNumber___init__) l31 c31 k31
  have b_BadNumber___init__ := F_BadNumber___init__.binds (ps := P_BadNumber___init__) fun _ _ _ _ _ _ us hl => match us, hl with | [_, _], _ => rfl
  have gi_BadNumber___init__ := a31
  have ti_BadNumber___init__ := t31
  have ki_TooMany_BarclipsError := kit_xC ic_BarclipsError ty_BarclipsError sb_TooMany_BarclipsError (fun _ => rfl)
  have ki_TooMany_ValueError := kit_xT (C := C_TooMany) sb_TooMany_ValueError
  have ki_TooMany_BadNumber := kit_xC ic_BadNumber ty_BadNumber sb_TooMany_BadNumber (fun e => by rw [e, ss_BadNumber] at sb_TooMany_BadNumber; cases sb_TooMany_BadNumber)
  have ki_BadNumber_BarclipsError := kit_xC ic_BarclipsError ty_BarclipsError sb_BadNumber_BarclipsError (fun _ => rfl)
  have ki_BadNumber_ValueError := kit_xT (C := C_BadNumber) sb_BadNumber_ValueError
  have ki_BadNumber_TooMany := kit_xC ic_TooMany ty_TooMany sb_BadNumber_TooMany (fun e => by rw [e, ss_TooMany] at sb_BadNumber_TooMany; cases sb_BadNumber_TooMany)
  have F_check_grids := fun_mk (st := s_check_grids) l32 c32 k32
  have b_check_grids := F_check_grids.binds (ps := P_check_grids) fun _ _ _ _ _ _ us hl => match us, hl with | [_], _ => rfl
  have g_check_grids := PySem.W.mg_of X G a32
  have kp_check_grids := k32
  have F_signed_commons := fun_mk (st := s_signed_commons) l33 c33 k33
  have b_signed_commons := F_signed_commons.binds (ps := P_signed_commons) fun _ _ _ _ _ _ us hl => match us, hl with | [_], _ => rfl
  have g_signed_commons := PySem.W.mg_of X G a33
  have kp_signed_commons := k33
  have F_count_between := fun_mk (st := s_count_between) l34 c34 k34
  have b_count_between := F_count_between.binds (ps := P_count_between) fun _ _ _ _ _ _ us hl => match us, hl with | [_, _, _], _ => rfl
  have g_count_between := PySem.W.mg_of X G a34
  have kp_count_between := k34
  have F_share_of := fun_mk (st := s_share_of) l35 c35 k35
  have b_share_of := F_share_of.binds (ps := P_share_of) fun _ _ _ _ _ _ us hl => match us, hl with | [_], _ => rfl
  have g_share_of := PySem.W.mg_of X G a35
  have kp_share_of := k35
  have F_gaps_between := fun_mk (st := s_gaps_between) l36 c36 k36
  have b_gaps_between := F_gaps_between.binds (ps := P_gaps_between) fun _ _ _ _ _ _ us hl => match us, hl with | [_, _, _], _ => rfl
  have g_gaps_between := PySem.W.mg_of X G a36
  have kp_gaps_between := k36
  have F_nth_gap := fun_mk (st := s_nth_gap) l37 c37 k37
  have b_nth_gap := F_nth_gap.binds (ps := P_nth_gap) fun _ _ _ _ _ _ us hl => match us, hl with | [_, _, _], _ => rfl
  have g_nth_gap := PySem.W.mg_of X G a37
  have kp_nth_gap := k37
  have g_int_MOST_GRIDS := PySem.W.mg_of X G gi_MOST_GRIDS
  cases hfa.symm.trans g_law
  have T : Txt mg := ⟨b_len, b_int, b_abs, b_str, b_range, b_isinstance, b_bool, b_list, b_tuple, b_sum, b_min, b_max, b_any, b_all, b_sorted, b_enumerate⟩
  have GT : GTxt K C_Grid := ⟨cl_Grid, no_Grid_step, no_Grid_offset⟩
  refine ⟨PySem.W.fnOf "law" "law" (defArgs s_law) (defBody s_law) (defScope s_law) .none kV1 dc1 pm1 an1 cd1 ct1, fun s v => .of_eq rfl, fun base _ _ => ?_⟩
  have fDraw : Fn l.prog w K mg base "_law_draw" P_law_draw [] 1 spDraw := ⟨_, _, _, g_law_draw, kp_law_draw, b_law_draw, .nil, ok_draw F_law_draw T⟩
  have fBox : Fn l.prog w K mg base "_law_box" P_law_box [] 1 (spBox K) := ⟨_, _, _, g_law_box, kp_law_box, b_law_box, .nil, ok_box F_law_box T⟩
  have fSize : Fn l.prog w K mg base "_law_size" P_law_size [] 2 spSize := ⟨_, _, _, g_law_size, kp_law_size, b_law_size, .nil, ok_size F_law_size T fDraw⟩
  have fNum : Fn l.prog w K mg base "_law_number" P_law_number [] 3 spNum := ⟨_, _, _, g_law_number, kp_law_number, b_law_number, .nil, ok_number F_law_number T fDraw fSize⟩
  have mk2 : Made l.prog w K mg base "Grid" C_Grid P_Grid___init__ [] 1 (spInit C_Grid) := ⟨_, _, _, mg_Grid, mk_Grid___init__, b_Grid___init___2, dr_Grid___init___2, ok_init F_Grid___init__ GT⟩
  have mk1 : Made l.prog w K mg base "Grid" C_Grid P_Grid___init__ [.int 0] 1 (spInit C_Grid) := ⟨_, _, _, mg_Grid, mk_Grid___init__, b_Grid___init___1, dr_Grid___init___1, ok_init F_Grid___init__ GT⟩

  have fSizeA : Fn l.prog w K mg base "_law_size" P_law_size [] 2 spSize := fSize
  have fInt : Fn l.prog w K mg base "_law_int" P_law_int [] 1 spInt := ⟨_, _, _, g_law_int, kp_law_int, b_law_int, .nil, ok_int F_law_int T⟩
  have fSame := fn_same (P := l.prog) (w := w) (base := base) F_law_same T g_law_same b_law_same fInt
  have fOn : Fn l.prog w K mg base "_law_in" P_law_in [] 1 (spOn K) := ⟨_, _, _, g_law_in, kp_law_in, b_law_in, .nil, ok_on F_law_in T⟩
  have fHit : Fn l.prog w K mg base "_law_hit" P_law_hit [] 2 spHit := ⟨_, _, _, g_law_hit, kp_law_hit, b_law_hit, .nil, ok_hit F_law_hit T fOn⟩
  have fMade : Fn l.prog w K mg base "_law_made" P_law_made [] 3 (spMade C_Grid) := ⟨_, _, _, g_law_made, kp_law_made, b_law_made, .nil, ok_made F_law_made T mk2⟩
  have fCover : Fn l.prog w K mg base "_law_cover" P_law_cover [] 2 (spRows (Gc 1000) 1) := ⟨_, _, _, g_law_cover, kp_law_cover, b_law_cover, .nil, ok_cover F_law_cover T (drawA fDraw)⟩
  have fPair : Fn l.prog w K mg base "_law_pair" P_law_pair [] 2 spPairD := ⟨_, _, _, g_law_pair, kp_law_pair, b_law_pair, .nil, ok_pair F_law_pair T (drawA fDraw)⟩
  have fGrids : Fn l.prog w K mg base "_law_grids" P_law_grids [] 3 (spRows Gm 0) := ⟨_, _, _, g_law_grids, kp_law_grids, b_law_grids, .nil, ok_grids F_law_grids T (drawA fDraw) (coverB fCover) fPair⟩
  have mT : Mth l.prog w K mg base C_Grid "tick_of" P_Grid_tick_of [] 1 (spTick C_Grid) := ⟨cl_Grid, _, _, _, g_Grid_tick_of, b_Grid_tick_of, .nil, ok_tick_of F_Grid_tick_of GT⟩
  have fInv : Fn l.prog w K mg base "inverse" P_inverse [] 1 spInv := ⟨_, _, _, g_inverse, kp_inverse, b_inverse, .nil, ok_inverse F_inverse T⟩
  have sC : SMth l.prog w K mg base C_Grid "common" P_Grid_common 3 (spCommon C_Grid) := ⟨cr_Grid, _, _, _, _, fc_Grid_common, rc_Grid_common, kp_Grid_common, b_Grid_common, ok_common F_Grid_common T GT g_gcd fInv mk2 mT⟩
  have oD : OprR l.prog w K mg base C_Grid .FloorDiv P_Grid___rfloordiv__ 1 (spDiv C_Grid) := ⟨_, _, o_Grid___rfloordiv__, b_Grid___rfloordiv__, ok_rdiv F_Grid___rfloordiv__ GT⟩
  have mB : Mth l.prog w K mg base C_Grid "between" P_Grid_between [] 2 (spBetween C_Grid) := ⟨cl_Grid, _, _, _, g_Grid_between, b_Grid_between, .nil, ok_between F_Grid_between GT oD⟩
  have er : Err l.prog w K mg base "TooMany" C_TooMany P_TooMany___init__ 1 (spErr2 C_TooMany "kind" "most" okTM) := ⟨_, _, mg_TooMany, oc_TooMany, gi_TooMany___init__, ti_TooMany___init__, b_TooMany___init__, ok_eTM F_TooMany___init__ eb oc_TooMany no_TooMany_kind no_TooMany_most⟩
  have eN : Err l.prog w K mg base "BadNumber" C_BadNumber P_BadNumber___init__ 1 (spErr1 C_BadNumber "value" (fun _ => True)) := ⟨_, _, mg_BadNumber, oc_BadNumber, gi_BadNumber___init__, ti_BadNumber___init__, b_BadNumber___init__, ok_eBadNumber F_BadNumber___init__ eb oc_BadNumber no_BadNumber_value⟩
  have fCheck : FnX l.prog w K mg base "check_grids" P_check_grids [] 3 (spCheckX C_TooMany) := ⟨_, _, _, g_check_grids, kp_check_grids, b_check_grids, .nil, ok_checkX F_check_grids T g_int_MOST_GRIDS er⟩
  have fSigned : Fn l.prog w K mg base "signed_commons" P_signed_commons [] 4 (spSigned C_Grid) := ⟨_, _, _, g_signed_commons, kp_signed_commons, b_signed_commons, .nil, ok_signed F_signed_commons T mg_Grid mk1 sC⟩
  have fCB : Fn l.prog w K mg base "count_between" P_count_between [] 3 (spCountB C_Grid) := ⟨_, _, _, g_count_between, kp_count_between, b_count_between, .nil, ok_countB F_count_between T mB⟩
  have fShareOf : Fn l.prog w K mg base "share_of" P_share_of [] 1 (spShareOf C_Grid) := ⟨_, _, _, g_share_of, kp_share_of, b_share_of, .nil, ok_shareOf F_share_of T GT g_gcd g_lcm⟩
  have fGaps : Fn l.prog w K mg base "gaps_between" P_gaps_between [] 5 (fun vs H Q _ => spGapsX C_Grid C_TooMany vs H Q E0) := ⟨_, _, _, g_gaps_between, kp_gaps_between, b_gaps_between, .nil, FnX0 (ok_gapsX F_gaps_between T fCheck fSigned fCB)⟩
  have fNth : FnX l.prog w K mg base "nth_gap" P_nth_gap [] 5 (spNthX C_Grid C_TooMany C_BadNumber) := ⟨_, _, _, g_nth_gap, kp_nth_gap, b_nth_gap, .nil, ok_nthX F_nth_gap T fCheck eN fSigned fShareOf fCB⟩
  have fAsk : Fn l.prog w K mg base "_law_ask" P_law_ask [] 6 (spAskN C_Grid) := ⟨_, _, _, g_law_ask, kp_law_ask, b_law_ask, .nil, ok_askN F_law_ask T fNth ee_TooMany eb ee_BadNumber no_TooMany_kind no_TooMany_most no_BadNumber_value b_ValueError ki_TooMany_BarclipsError ki_TooMany_ValueError ki_TooMany_BadNumber ki_BadNumber_BarclipsError ki_BadNumber_ValueError ki_BadNumber_TooMany (exm_own xb_TooMany ic_TooMany ty_TooMany sb_BadNumber_TooMany)⟩
  have fMeet : Fn l.prog w K mg base "_law_meet" P_law_meet [] 1 spMeet := ⟨_, _, _, g_law_meet, kp_law_meet, b_law_meet, .nil, ok_meet F_law_meet T⟩
  have fTerms : Fn l.prog w K mg base "_law_terms" P_law_terms [] 2 spTerms := ⟨_, _, _, g_law_terms, kp_law_terms, b_law_terms, .nil, ok_terms F_law_terms T fMeet⟩
  have fC1 : Fn l.prog w K mg base "_law_count_one" P_law_count_one [] 1 spCount1 := ⟨_, _, _, g_law_count_one, kp_law_count_one, b_law_count_one, .nil, ok_count1 F_law_count_one T⟩
  have fCL : Fn l.prog w K mg base "_law_count" P_law_count [] 2 spCountL := ⟨_, _, _, g_law_count, kp_law_count, b_law_count, .nil, ok_countL F_law_count T fC1⟩
  have fHeld : Fn l.prog w K mg base "_law_held" P_law_held [] 3 spHeld := ⟨_, _, _, g_law_held, kp_law_held, b_law_held, .nil, ok_held F_law_held T fHit⟩
  have fRight : Fn l.prog w K mg base "_law_right" P_law_right [] 4 spRight := ⟨_, _, _, g_law_right, kp_law_right, b_law_right, .nil, ok_right F_law_right T fHeld fInt fHit fCL⟩
  have fKept : Fn l.prog w K mg base "_law_kept" P_law_kept [] 5 (spKept C_Grid) := ⟨_, _, _, g_law_kept, kp_law_kept, b_law_kept, .nil, ok_kept F_law_kept T GT (fSame 3)⟩
  exact ok_law F_law T fBox (drawA fDraw) fSizeA fNum fGrids fMade mk2 fTerms (fSame 3) fAsk fRight fGaps fKept
theorem walk {l : PySem.W.OpenLaw} {q : Program} {loose : List Str} {XP : (Str → Option Value) → Heap → Prop} {YP : World → Heap → Prop} {d : DefRec} {K : Params → PySem.W.Frag} (hn : l.most = some 63) (hdf : d.params.defaults = [])
    (hY : ∀ (w : World) (h : Heap), YP w h → (K w.params).In h)
    (F : ∀ (w : World) (mg : Str → Option Value) (fa : Addr) (h : Heap), (K w.params).In h → h.Ns mainGlobals mg → mg d.name = some (.ref fa) →
      ∃ fd : FuncData, (∀ (s : Shared) (u : Value), BindsTo s fd ⟨[u], []⟩ [("_law_script", u)]) ∧ ∀ base : Heap, (K w.params).In base → base.Ns mainGlobals mg → FnOk l.prog w (K w.params) mg base CX0 lawLevel fa fd ["_law_script"] (spLaw (K w.params))) :
    PySem.W.WalkO q loose XP YP l.row.toRowW d [] (fun f vs => PySem.call f vs) :=
  L2.walk_of (n := 63) (k := lawLevel) (x := "_law_script") (CX := fun _ => CX0) (sp := fun w => spLaw (K w.params)) hn (by decide) hdf ⟨rfl, by decide, by decide⟩ hY F (fun _ _ a ns hl _ hS => ⟨a, ns, rfl, hS, hl, fun _ => rfl⟩) fun _ _ _ _ _ z => z
end Lw

open PySem PySem.W PyProof.Rows in
set_option maxRecDepth 100000 in
set_option maxHeartbeats 0 in
theorem PySem.Challenge.cw_barclips_k17_nth_gap_holds : PySem.Challenge.rw_barclips_k17_nth_gap.Holds := by
  w_on; o_law; k_head; (case hw => w_witness2)
  k_fill
  refine Lw.walk (l := PySem.Challenge.rw_barclips_k17_nth_gap) rfl rfl (fun w h Y => PySem.W.kIn_of Y) ?F
  case F =>
    intro w mg fa h KX G hmg
    refine' Lw.all_mk KX G hmg ?a1 ?l1 ?c1 ?k1 ?a2 ?l2 ?c2 ?k2 ?a3 ?l3 ?c3 ?k3 ?a4 ?l4 ?c4 ?k4 ?a5 ?l5 ?c5 ?k5 ?g_Grid ?pg_Grid ?hd_Grid ?po_Grid ?sa_Grid ?mk_Grid ?kp_Grid ?a6 ?i6 ?l6 ?c6 ?k6 ?t6 ?no_Grid_step ?no_Grid_offset ?z_len ?z_int ?z_abs ?z_str ?z_range ?z_isinstance ?z_bool ?z_list ?z_tuple ?z_sum ?z_min ?z_max ?z_any ?z_all ?z_sorted ?z_enumerate ?z_ValueError ?a7 ?l7 ?c7 ?k7 ?a8 ?l8 ?c8 ?k8 ?a9 ?l9 ?c9 ?k9 ?a10 ?l10 ?c10 ?k10 ?a11 ?l11 ?c11 ?k11 ?a12 ?l12 ?c12 ?k12 ?a13 ?l13 ?c13 ?k13 ?a14 ?l14 ?c14 ?k14 ?a15 ?l15 ?c15 ?k15 ?a16 ?l16 ?c16 ?k16 ?a17 ?l17 ?c17 ?k17 ?a18 ?l18 ?c18 ?k18 ?a19 ?l19 ?c19 ?k19 ?a20 ?l20 ?c20 ?k20 ?a21 ?l21 ?c21 ?k21 ?a22 ?l22 ?c22 ?k22 ?a23 ?i23 ?l23 ?c23 ?k23 ?a24 ?i24 ?l24 ?c24 ?k24 ?a25 ?i25 ?l25 ?c25 ?k25 ?sf25 ?r25 ?q25 ?s25 ?rd_Grid ?sg_Grid ?gm_gcd ?gm_lcm ?a26 ?l26 ?c26 ?k26 ?a27 ?b27 ?l27 ?c27 ?k27 ?g_BarclipsError ?rd_BarclipsError ?sg_BarclipsError ?vi_BarclipsError ?ic_BarclipsError ?ty_BarclipsError ?e_hn ?e_tk ?g_TooMany ?lk_TooMany ?sa_TooMany ?xb_TooMany ?ty_TooMany ?kp_TooMany ?ga_TooMany ?gg_TooMany ?hd_TooMany ?ic_TooMany ?ac_TooMany ?mo_TooMany ?ss_TooMany ?a29 ?t29 ?l29 ?c29 ?k29 ?no_TooMany_kind ?no_TooMany_most ?g_BadNumber ?lk_BadNumber ?sa_BadNumber ?xb_BadNumber ?ty_BadNumber ?kp_BadNumber ?ga_BadNumber ?gg_BadNumber ?hd_BadNumber ?ic_BadNumber ?ac_BadNumber ?mo_BadNumber ?ss_BadNumber ?a31 ?t31 ?l31 ?c31 ?k31 ?no_BadNumber_value ?sb_TooMany_BarclipsError ?sb_TooMany_ValueError ?sb_TooMany_BadNumber ?sb_BadNumber_BarclipsError ?sb_BadNumber_ValueError ?sb_BadNumber_TooMany ?a32 ?l32 ?c32 ?k32 ?a33 ?l33 ?c33 ?k33 ?a34 ?l34 ?c34 ?k34 ?a35 ?l35 ?c35 ?k35 ?a36 ?l36 ?c36 ?k36 ?a37 ?l37 ?c37 ?k37 ?gi_MOST_GRIDS
    (case a1 => k_is)
    (case l1 => k_is)
    (case c1 => k_is)
    (case k1 => k_is)
    (case a2 => k_is)
    (case l2 => k_is)
    (case c2 => k_is)
    (case k2 => k_is)
    (case a3 => k_is)
    (case l3 => k_is)
    (case c3 => k_is)
    (case k3 => k_is)
    (case a4 => k_is)
    (case l4 => k_is)
    (case c4 => k_is)
    (case k4 => k_is)
    (case a5 => k_is)
    (case l5 => k_is)
    (case c5 => k_is)
    (case k5 => k_is)
    (case g_Grid => k_is)
    (case pg_Grid => k_is)
    (case hd_Grid => k_is)
    (case po_Grid => k_is)
    (case sa_Grid => k_is)
    (case mk_Grid => k_is)
    (case kp_Grid => k_is)
    (case a6 => k_is)
    (case i6 => k_is)
    (case l6 => k_is)
    (case c6 => k_is)
    (case k6 => k_is)
    (case t6 => k_is)
    (case no_Grid_step => k_is)
    (case no_Grid_offset => k_is)
    (case z_len => k_is)
    (case z_int => k_is)
    (case z_abs => k_is)
    (case z_str => k_is)
    (case z_range => k_is)
    (case z_isinstance => k_is)
    (case z_bool => k_is)
    (case z_list => k_is)
    (case z_tuple => k_is)
    (case z_sum => k_is)
    (case z_min => k_is)
    (case z_max => k_is)
    (case z_any => k_is)
    (case z_all => k_is)
    (case z_sorted => k_is)
    (case z_enumerate => k_is)
    (case z_ValueError => k_is)
    (case a7 => k_is)
    (case l7 => k_is)
    (case c7 => k_is)
    (case k7 => k_is)
    (case a8 => k_is)
    (case l8 => k_is)
    (case c8 => k_is)
    (case k8 => k_is)
    (case a9 => k_is)
    (case l9 => k_is)
    (case c9 => k_is)
    (case k9 => k_is)
    (case a10 => k_is)
    (case l10 => k_is)
    (case c10 => k_is)
    (case k10 => k_is)
    (case a11 => k_is)
    (case l11 => k_is)
    (case c11 => k_is)
    (case k11 => k_is)
    (case a12 => k_is)
    (case l12 => k_is)
    (case c12 => k_is)
    (case k12 => k_is)
    (case a13 => k_is)
    (case l13 => k_is)
    (case c13 => k_is)
    (case k13 => k_is)
    (case a14 => k_is)
    (case l14 => k_is)
    (case c14 => k_is)
    (case k14 => k_is)
    (case a15 => k_is)
    (case l15 => k_is)
    (case c15 => k_is)
    (case k15 => k_is)
    (case a16 => k_is)
    (case l16 => k_is)
    (case c16 => k_is)
    (case k16 => k_is)
    (case a17 => k_is)
    (case l17 => k_is)
    (case c17 => k_is)
    (case k17 => k_is)
    (case a18 => k_is)
    (case l18 => k_is)
    (case c18 => k_is)
    (case k18 => k_is)
    (case a19 => k_is)
    (case l19 => k_is)
    (case c19 => k_is)
    (case k19 => k_is)
    (case a20 => k_is)
    (case l20 => k_is)
    (case c20 => k_is)
    (case k20 => k_is)
    (case a21 => k_is)
    (case l21 => k_is)
    (case c21 => k_is)
    (case k21 => k_is)
    (case a22 => k_is)
    (case l22 => k_is)
    (case c22 => k_is)
    (case k22 => k_is)
    (case a23 => k_is)
    (case i23 => k_is)
    (case l23 => k_is)
    (case c23 => k_is)
    (case k23 => k_is)
    (case a24 => k_is)
    (case i24 => k_is)
    (case l24 => k_is)
    (case c24 => k_is)
    (case k24 => k_is)
    (case a25 => k_is)
    (case i25 => k_is)
    (case l25 => k_is)
    (case c25 => k_is)
    (case k25 => k_is)
    (case sf25 => k_is)
    (case r25 => k_is)
    (case q25 => first | exact .inl rfl | exact .inr ⟨_, rfl⟩)
    (case s25 => k_is)
    (case rd_Grid => k_is)
    (case sg_Grid => k_is)
    (case gm_gcd => k_is)
    (case gm_lcm => k_is)
    (case a26 => k_is)
    (case l26 => k_is)
    (case c26 => k_is)
    (case k26 => k_is)
    (case a27 => k_is)
    (case b27 => k_is)
    (case l27 => k_is)
    (case c27 => k_is)
    (case k27 => k_is)
    (case g_BarclipsError => k_is)
    (case rd_BarclipsError => k_is)
    (case sg_BarclipsError => k_is)
    (case vi_BarclipsError => k_is)
    (case ic_BarclipsError => k_is)
    (case ty_BarclipsError => k_is)
    (case e_hn => k_is)
    (case e_tk => k_is)
    (case g_TooMany => k_is)
    (case lk_TooMany => k_is)
    (case sa_TooMany => k_is)
    (case xb_TooMany => k_is)
    (case ty_TooMany => k_is)
    (case kp_TooMany => k_is)
    (case ga_TooMany => k_is)
    (case gg_TooMany => k_is)
    (case hd_TooMany => k_is)
    (case ic_TooMany => k_is)
    (case ac_TooMany => k_is)
    (case mo_TooMany => k_is)
    (case ss_TooMany => k_is)
    (case a29 => k_is)
    (case t29 => k_is)
    (case l29 => k_is)
    (case c29 => k_is)
    (case k29 => k_is)
    (case no_TooMany_kind => k_is)
    (case no_TooMany_most => k_is)
    (case g_BadNumber => k_is)
    (case lk_BadNumber => k_is)
    (case sa_BadNumber => k_is)
    (case xb_BadNumber => k_is)
    (case ty_BadNumber => k_is)
    (case kp_BadNumber => k_is)
    (case ga_BadNumber => k_is)
    (case gg_BadNumber => k_is)
    (case hd_BadNumber => k_is)
    (case ic_BadNumber => k_is)
    (case ac_BadNumber => k_is)
    (case mo_BadNumber => k_is)
    (case ss_BadNumber => k_is)
    (case a31 => k_is)
    (case t31 => k_is)
    (case l31 => k_is)
    (case c31 => k_is)
    (case k31 => k_is)
    (case no_BadNumber_value => k_is)
    (case sb_TooMany_BarclipsError => k_is)
    (case sb_TooMany_ValueError => k_is)
    (case sb_TooMany_BadNumber => k_is)
    (case sb_BadNumber_BarclipsError => k_is)
    (case sb_BadNumber_ValueError => k_is)
    (case sb_BadNumber_TooMany => k_is)
    (case a32 => k_is)
    (case l32 => k_is)
    (case c32 => k_is)
    (case k32 => k_is)
    (case a33 => k_is)
    (case l33 => k_is)
    (case c33 => k_is)
    (case k33 => k_is)
    (case a34 => k_is)
    (case l34 => k_is)
    (case c34 => k_is)
    (case k34 => k_is)
    (case a35 => k_is)
    (case l35 => k_is)
    (case c35 => k_is)
    (case k35 => k_is)
    (case a36 => k_is)
    (case l36 => k_is)
    (case c36 => k_is)
    (case k36 => k_is)
    (case a37 => k_is)
    (case l37 => k_is)
    (case c37 => k_is)
    (case k37 => k_is)
    (case gi_MOST_GRIDS => k_is)

