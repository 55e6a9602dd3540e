import PyProof.Rows.All
import Wide.All
import OpenK.AllK
import Wide.FinOn
import HandS.ForMost
import HandS.Wide
import HandS.Gcd
import HandS.OwnEq
import HandS.IsInst
import HandS.Defaults
import HandS.Exc
import HandS.ExcInit
import HandS.ExcField
import HandS.ExcOwn
import HandS.ClsMeth
import HandS.WordsExc
import HandS.FStr
import HandS.Style
import PyProof.LongRange
import HandS.MakeKw
import HandS.Conv
import KE.KExcIs
import HandS.Walk
import PySem.Challenge.RW_barclips_k14_whole_gap_or_cycle
set_option Elab.async false
set_option linter.all false
set_option maxRecDepth 100000
set_option maxHeartbeats 4000000
set_option exponentiation.threshold 2000
set_option Elab.async false
set_option linter.all false
set_option maxRecDepth 100000
set_option maxHeartbeats 4000000
namespace Bar
open PySem L2

/-! ### one step of a reading -/
section
variable {D : Ends} {σ σ' : L2.St} {H : Hp} {Q : VK} {t u : TS} {te ta tb tc : TE} {tt tu : TT} {g : TG} {v x y : V} {i j : Int} {n : Nat}
theorem rSeq (h : t ⟨u D, D.rt, D.bk, D.ct⟩ σ H) : tSeq t u D σ H := h
theorem rNext (h : D.nx σ H) : tNext D σ H := h
theorem rNx {f : L2.St → Hp → Prop} {r : VK} {b c : L2.St → Hp → Prop} (h : f σ H) : Ends.nx ⟨f, r, b, c⟩ σ H := h
theorem rCt {f : L2.St → Hp → Prop} {r : VK} {b c : L2.St → Hp → Prop} (h : c σ H) : Ends.ct ⟨f, r, b, c⟩ σ H := h
theorem rBk {f : L2.St → Hp → Prop} {r : VK} {b c : L2.St → Hp → Prop} (h : b σ H) : Ends.bk ⟨f, r, b, c⟩ σ H := h
theorem rRt {f : L2.St → Hp → Prop} {r : VK} {b c : L2.St → Hp → Prop} (h : r v H) : Ends.rt ⟨f, r, b, c⟩ v H := h
theorem rBreak (h : D.bk σ H) : tBreak D σ H := h
theorem rCont (h : D.ct σ H) : tCont D σ H := h
theorem rAsg (h : te σ H fun x H1 => g x σ H1 D.nx) : tAsg te g D σ H := h
theorem rDrop (h : te σ H fun _ H1 => D.nx σ H1) : tDrop te D σ H := h
theorem rRet (h : te σ H D.rt) : tRet te D σ H := h
theorem rRetN (h : D.rt .non H) : tRetN D σ H := h
theorem rIfS (h : tt σ H fun b H1 => if b = true then t D σ H1 else u D σ H1) : tIfS tt t u D σ H := h
theorem rVar (e : σ[n]? = some (some v)) (h : Q v H) : tVar n σ H Q := ⟨v, e, h⟩
theorem rC (h : Q v H) : tC v σ H Q := h
theorem rOp {r : R2} (h : ta σ H fun x H1 => tb σ H1 fun y H2 => r x y H2 Q) : tOp r ta tb σ H Q := h
theorem rUn {r : V → Hp → VK → Prop} (h : ta σ H fun x H1 => r x H1 Q) : tUn r ta σ H Q := h
theorem rI0_ {f : Int → Int → V} (h : Q (f i j) H) : rI0 f (.int i) (.int j) H Q := ⟨i, j, rfl, rfl, h⟩
theorem rI_ {C : Int → Int → Prop} {f : Int → Int → V} (c : C i j) (h : Q (f i j) H) : rI C f (.int i) (.int j) H Q := ⟨i, j, rfl, rfl, c, h⟩
theorem rU_ {f : Int → V} (h : Q (f i) H) : rU f (.int i) H Q := ⟨i, rfl, h⟩
theorem rEq_ (e : scal x y = true) (h : Q (.bl (decide (x = y))) H) : rEq x y H Q := ⟨e, h⟩
theorem rNe_ (e : scal x y = true) (h : Q (.bl (!decide (x = y))) H) : rNe x y H Q := ⟨e, h⟩
theorem rEqI (h : Q (.bl (decide (i = j))) H) : rEq (.int i) (.int j) H Q := ⟨rfl, by
  have e : decide (V.int i = V.int j) = decide (i = j) := by
    by_cases q : i = j
    · subst q; rw [decide_eq_true rfl, decide_eq_true rfl]
    · rw [decide_eq_false q, decide_eq_false (fun z => q (V.int.inj z))]
  rw [e]
  exact h⟩
theorem rNeI (h : Q (.bl (!decide (i = j))) H) : rNe (.int i) (.int j) H Q := ⟨rfl, by
  have e : decide (V.int i = V.int j) = decide (i = j) := by
    by_cases q : i = j
    · subst q; rw [decide_eq_true rfl, decide_eq_true rfl]
    · rw [decide_eq_false q, decide_eq_false (fun z => q (V.int.inj z))]
  rw [e]
  exact h⟩
theorem dBl (a b : Bool) : decide (V.bl a = V.bl b) = (a == b) := by
  cases a <;> cases b <;> decide
theorem rEqBl {a b : Bool} (h : Q (.bl (a == b)) H) : rEq (.bl a) (.bl b) H Q := ⟨rfl, by
  rw [dBl]
  exact h⟩
theorem rNeBl {a b : Bool} (h : Q (.bl (!(a == b))) H) : rNe (.bl a) (.bl b) H Q := ⟨rfl, by
  rw [dBl]
  exact h⟩
theorem rTest {Q : Bool → Hp → Prop} (h : te σ H fun x H' => ∃ k, x = .bl k ∧ Q k H') : tTest te σ H Q := h
theorem rB {Q : Bool → Hp → Prop} (h : te σ H fun x H' => ∃ k, x = .bl k ∧ Q k H') : tB te σ H Q := h
theorem rBl {b : Bool} {P : Bool → Prop} (h : P b) : ∃ k, V.bl b = .bl k ∧ P k := ⟨b, rfl, h⟩
theorem rNot {Q : Bool → Hp → Prop} (h : tt σ H fun c H1 => Q (!c) H1) : tNot tt σ H Q := h
theorem rAnd {Q : Bool → Hp → Prop} (h : tt σ H fun c H1 => if c = true then tu σ H1 Q else Q false H1) : tAnd tt tu σ H Q := h
theorem rOr {Q : Bool → Hp → Prop} (h : tt σ H fun c H1 => if c = true then Q true H1 else tu σ H1 Q) : tOr tt tu σ H Q := h
theorem rAndV (h : ta σ H fun x H1 => ∃ c, x = .bl c ∧ if c = true then tb σ H1 Q else Q (.bl false) H1) : tAndV ta tb σ H Q := h
theorem rOrV (h : ta σ H fun x H1 => ∃ c, x = .bl c ∧ if c = true then Q (.bl true) H1 else tb σ H1 Q) : tOrV ta tb σ H Q := h
theorem rNotV (h : ta σ H fun x H1 => ∃ c, x = .bl c ∧ Q (.bl (!c)) H1) : tNotV ta σ H Q := h
theorem rIfE (h : tt σ H fun c H1 => if c = true then ta σ H1 Q else tb σ H1 Q) : tIf tt ta tb σ H Q := h
theorem rCB {r : List V → Hp → VK → Prop} {t : TA} (h : t σ H fun vs H1 => r vs H1 Q) : tCB r t σ H Q := h
theorem rNil {Q : List V → Hp → Prop} (h : Q [] H) : tNil σ H Q := h
theorem rCons {t : TA} {Q : List V → Hp → Prop} (h : te σ H fun x H1 => t σ H1 fun xs H2 => Q (x :: xs) H2) : tCons te t σ H Q := h
theorem rTup {t : TA} (h : t σ H fun xs H1 => xs.length ≤ sizeLine ∧ ∀ p, H1 p = none → Q (.ref p) (upd H1 p (.tup xs))) : tTup t σ H Q := h
theorem rLst {t : TA} (h : t σ H fun xs H1 => xs.length ≤ sizeLine ∧ ∀ p, H1 p = none → Q (.ref p) (upd H1 p (.lst xs))) : tLst t σ H Q := h
theorem rNew {xs : List V} {R : Addr → Prop} (l : xs.length ≤ sizeLine) (h : ∀ p, H p = none → R p) : xs.length ≤ sizeLine ∧ ∀ p, H p = none → R p := ⟨l, h⟩
theorem rCall {sp : Sp} {dvs : List V} {E : XK} {t : TA} (h : t σ H fun vs H1 => sp (vs ++ dvs) H1 Q E) : tCall sp dvs E t σ H Q := h
theorem rMake {C : Addr} {sp : Sp} {dvs : List V} {E : XK} {t : TA} (h : t σ H fun vs H1 => ∀ x dx, H1 x = none → H1 dx = none → dx ≠ x → sp (.ref x :: (vs ++ dvs)) (upd (upd H1 dx (.own x)) x (.ins C dx [])) (fun v H2 => v = .non ∧ Q (.ref x) H2) E) : tMake C sp dvs E t σ H Q := h
theorem rIxL_ {K : PySem.W.Frag} {a : Addr} {xs : List V} (h1 : SqL K H a xs) (h2 : atI xs i = some v) (h : Q v H) : rIxL K (.ref a) (.int i) H Q := ⟨a, xs, i, v, rfl, rfl, h1, h2, h⟩
theorem rIxT_ {K : PySem.W.Frag} {a : Addr} {xs : List V} (h1 : SqT K H a xs) (h2 : atI xs i = some v) (h : Q v H) : rIxT K (.ref a) (.int i) H Q := ⟨a, xs, i, v, rfl, rfl, h1, h2, h⟩
theorem rFldS {K : PySem.W.Frag} {ta tv : TE} {f : Str} (h : tv σ H fun y H1 => ta σ H1 fun x H2 => ∃ a C dx fs, x = .ref a ∧ H2 a = some (.ins C dx fs) ∧ Cls K C ∧ NoAttr K C f ∧ fs.length < 1000 ∧ D.nx σ (upd H2 a (.ins C dx (putF f y fs)))) : sFld K ta tv f D σ H := h
theorem rFld_ {K : PySem.W.Frag} {f : Str} (h : te σ H fun x H1 => ∃ a C dx fs v, x = .ref a ∧ H1 a = some (.ins C dx fs) ∧ Cls K C ∧ NoAttr K C f ∧ fs.lookup f = some v ∧ Q v H1) : tFld K te f σ H Q := h
theorem rFldV {K : PySem.W.Frag} {f : Str} {a C dx : Addr} {fs : List (Str × V)} {R : V → Prop} (h1 : H a = some (.ins C dx fs)) (c : Cls K C) (nA : NoAttr K C f) (l : fs.lookup f = some v) (h : R v) :
    ∃ a' C dx fs v, V.ref a = .ref a' ∧ H a' = some (.ins C dx fs) ∧ Cls K C ∧ NoAttr K C f ∧ fs.lookup f = some v ∧ R v := ⟨a, C, dx, fs, v, rfl, h1, c, nA, l, h⟩
theorem gN {i : Nat} {Q : L2.St → Hp → Prop} (e : σ.set i (some v) = σ') (h : Q σ' H) : gName i v σ H Q := by
  subst e
  exact h
theorem gN0 {a : Option V} {Q : L2.St → Hp → Prop} (h : Q (some v :: σ) H) : gName 0 v (a :: σ) H Q := h
theorem gN1 {a b : Option V} {Q : L2.St → Hp → Prop} (h : Q (a :: some v :: σ) H) : gName 1 v (a :: b :: σ) H Q := h
theorem gN2 {a b c : Option V} {Q : L2.St → Hp → Prop} (h : Q (a :: b :: some v :: σ) H) : gName 2 v (a :: b :: c :: σ) H Q := h
theorem gN3 {a b c d : Option V} {Q : L2.St → Hp → Prop} (h : Q (a :: b :: c :: some v :: σ) H) : gName 3 v (a :: b :: c :: d :: σ) H Q := h
theorem gN4 {a b c d e : Option V} {Q : L2.St → Hp → Prop} (h : Q (a :: b :: c :: d :: some v :: σ) H) : gName 4 v (a :: b :: c :: d :: e :: σ) H Q := h
theorem gN5 {a b c d e f : Option V} {Q : L2.St → Hp → Prop} (h : Q (a :: b :: c :: d :: e :: some v :: σ) H) : gName 5 v (a :: b :: c :: d :: e :: f :: σ) H Q := h
theorem gN6 {a b c d e f k : Option V} {Q : L2.St → Hp → Prop} (h : Q (a :: b :: c :: d :: e :: f :: some v :: σ) H) : gName 6 v (a :: b :: c :: d :: e :: f :: k :: σ) H Q := h
theorem gN7 {a b c d e f k l : Option V} {Q : L2.St → Hp → Prop} (h : Q (a :: b :: c :: d :: e :: f :: k :: some v :: σ) H) : gName 7 v (a :: b :: c :: d :: e :: f :: k :: l :: σ) H Q := h
theorem gN8 {a b c d e f k l m : Option V} {Q : L2.St → Hp → Prop} (h : Q (a :: b :: c :: d :: e :: f :: k :: l :: some v :: σ) H) : gName 8 v (a :: b :: c :: d :: e :: f :: k :: l :: m :: σ) H Q := h
theorem gN9 {a b c d e f k l m o : Option V} {Q : L2.St → Hp → Prop} (h : Q (a :: b :: c :: d :: e :: f :: k :: l :: m :: some v :: σ) H) : gName 9 v (a :: b :: c :: d :: e :: f :: k :: l :: m :: o :: σ) H Q := h
theorem gN10 {a b c d e f k l m o p : Option V} {Q : L2.St → Hp → Prop} (h : Q (a :: b :: c :: d :: e :: f :: k :: l :: m :: o :: some v :: σ) H) : gName 10 v (a :: b :: c :: d :: e :: f :: k :: l :: m :: o :: p :: σ) H Q := h
theorem gN11 {a b c d e f k l m o p q : Option V} {Q : L2.St → Hp → Prop} (h : Q (a :: b :: c :: d :: e :: f :: k :: l :: m :: o :: p :: some v :: σ) H) : gName 11 v (a :: b :: c :: d :: e :: f :: k :: l :: m :: o :: p :: q :: σ) H Q := h
theorem rStart {N : List Str} {vs : List V} (e : start N vs = σ) (h : t D σ H) : t D (start N vs) H := by
  rw [e]
  exact h
theorem iteBT {A B : Prop} {b : Bool} (e : b = true) (h : A) : if b = true then A else B := by
  rw [if_pos e]
  exact h
theorem iteBF {A B : Prop} {b : Bool} (e : b = false) (h : B) : if b = true then A else B := by
  rw [e, if_neg Bool.false_ne_true]
  exact h
end

/-! ### a def that is called by its name -/
structure Fn (P : Program) (w : World) (K : PySem.W.Frag) (mg : Str → Option Value) (base : Heap) (x : Str) (ps : List Str) (dvs : List V) (k : Nat) (sp : Sp) : Prop where
  ex : ∃ (f : Addr) (fd : FuncData) (ds : List Value), mg x = some (.ref f) ∧ PySem.W.keepIn K (.ref f) = true ∧ Binds K fd ps ds ∧ Vals dvs ds ∧ FnOk P w K mg base CX0 k f fd ps sp
section
variable {X : Cx} {k : Nat} {sp : Sp} {ps : List Str} {dvs : List V} {x : Str} {p pos : Pos} {e : Expr} {es : List Expr} {t : TA}
theorem pe_fn (F : Fn X.prog X.w X.K X.mg X.base x ps dvs k sp) (hr : Room k X.A) (hg : Gl X x) (ha : PA X (e :: es) t) (hdb : (x == ("__debug__" : Str)) = false := by decide)
    (he : starEach (e :: es) X.env = (false, eval e X.env) :: starEach es X.env := by rfl) (hpl : (backTo pos (starEach es X.env)).any (·.1) = false := by rfl) : PE X (.Call (.Name x p) (e :: es) [] pos) (tCall sp dvs E0 t) := by
  obtain ⟨f, fd, ds, hm, hk, hb, hd, ok⟩ := F.ex
  exact pe_call ok hr hg hm hk hb hd pass0 ha hdb he hpl
end

/-! ### what is kept beside b -/
def Kp (b : Addr) (H H' : Hp) : Prop := ∀ a o, a ≠ b → H a = some o → H' a = some o
theorem Kp.refl {b : Addr} {H : Hp} : Kp b H H := fun _ _ _ h => h
theorem Kp.trans {b : Addr} {H H1 H2 : Hp} (h : Kp b H H1) (k : Kp b H1 H2) : Kp b H H2 := fun a o n e => k a o n (h a o n e)
theorem Kp.upd {b : Addr} {H : Hp} {o : HO} : Kp b H (upd H b o) := fun a u n e => by
  rw [upd_ne n]
  exact e
theorem Kp.new {b p : Addr} {H : Hp} {o : HO} (hp : H p = none) : Kp b H (L2.upd H p o) := fun a u n e => by
  rw [upd_ne (ne_of_none e hp)]
  exact e
theorem Kp.of_same {b : Addr} {H H' : Hp} (h : Same H H') : Kp b H H' := fun a u _ e => h a u e
theorem Kp.free {b p : Addr} {H H' : Hp} (k : Kp b H H') {o u : HO} (hb : H b = some o) (hb' : H' b = some u) (hp : H' p = none) : H p = none := by
  cases q : H p with
  | none => rfl
  | some z =>
    have n : p ≠ b := fun e => by rw [e, hb'] at hp; cases hp
    rw [k p z n q] at hp
    cases hp
theorem lkKp {b a : Addr} {H H' : Hp} {o u : HO} (k : Kp b H H') (h : H a = some o) (hb : H b = some u) (d : o ≠ u) : H' a = some o := k a o (ne_of h hb d) h
theorem lkKn {b a : Addr} {H H' : Hp} {o : HO} (k : Kp b H H') (n : a ≠ b) (h : H a = some o) : H' a = some o := k a o n h
theorem lkSm {a : Addr} {H H' : Hp} {o : HO} (k : Same H H') (h : H a = some o) : H' a = some o := k a o h
theorem sqSame {K : PySem.W.Frag} {a : Addr} {xs : List V} {H H' : Hp} (k : Same H H') (h : SqL K H a xs) : SqL K H' a xs := k.seq h
theorem Kp.trans' {b : Addr} {H H1 H2 : Hp} (h : Same H H1) (k : Kp b H1 H2) : Kp b H H2 := fun a o n e => k a o n (h a o e)
theorem sqKf {K : PySem.W.Frag} {b a : Addr} {xs : List V} {H H' : Hp} (k : Kp b H H') (hb : H b = none) (h : SqL K H a xs) : SqL K H' a xs := by
  rcases h with (h | ⟨o, h⟩) | h
  · exact .inl (.inl (k a _ (ne_of_none h hb) h))
  · exact .inl (.inr ⟨o, k a _ (ne_of_none h hb) h⟩)
  · exact .inr h
theorem Kp.sqT {K : PySem.W.Frag} {b t : Addr} {xs ys : List V} {H H' : Hp} (k : Kp b H H') (hb : H b = some (.lst ys)) (h : SqT K H t xs) : SqT K H' t xs := by
  rcases h with (h | ⟨o, h⟩) | h
  · exact .inl (.inl (k t _ (ne_of h hb (by intro z; cases z)) h))
  · exact .inl (.inr ⟨o, k t _ (ne_of h hb (by intro z; cases z)) h⟩)
  · exact .inr h
theorem Kp.sqL {K : PySem.W.Frag} {b t : Addr} {xs : List V} {H H' : Hp} (k : Kp b H H') (n : t ≠ b) (h : SqL K H t xs) : SqL K H' t xs := by
  rcases h with (h | ⟨o, h⟩) | h
  · exact .inl (.inl (k t _ n h))
  · exact .inl (.inr ⟨o, k t _ n h⟩)
  · exact .inr h
theorem szLe {n : Nat} (h : n ≤ 1000) : n ≤ sizeLine := Nat.le_trans h (by decide)
theorem szLt {n : Nat} (h : n < 1000) : n < sizeLine := Nat.lt_of_lt_of_le h (by decide)
def Kp2 (b l : Addr) (H H' : Hp) : Prop := ∀ a o, a ≠ b → a ≠ l → H a = some o → H' a = some o
theorem Kp2.refl {b l : Addr} {H : Hp} : Kp2 b l H H := fun _ _ _ _ h => h
theorem Kp2.kp {b l : Addr} {H H1 H2 : Hp} (k : Kp2 b l H H1) (h : Kp b H1 H2) : Kp2 b l H H2 := fun a o n m e => h a o n (k a o n m e)
theorem Kp2.set {b l : Addr} {H H1 : Hp} {u : HO} (k : Kp2 b l H H1) : Kp2 b l H (L2.upd H1 l u) := fun a o n m e => by
  rw [upd_ne m]
  exact k a o n m e
theorem freeNew {p q : Addr} {H : Hp} {o : HO} (h : L2.upd H q o p = none) : H p = none := by
  by_cases e : p = q
  · subst e
    rw [upd_same] at h
    cases h
  · rwa [upd_ne e] at h
theorem lkNew {p a : Addr} {H : Hp} {o u : HO} (hp : H p = none) (h : H a = some u) : L2.upd H p o a = some u := by
  rw [upd_ne (ne_of_none h hp)]
  exact h
theorem lkNe {p a : Addr} {H : Hp} {o u : HO} (n : a ≠ p) (h : H a = some u) : L2.upd H p o a = some u := by
  rw [upd_ne n]
  exact h

/-! ### powers of great ints -/
def CPowW (i j : Int) : Prop := 0 ≤ j ∧ (Builtin.Int.intBits i : Int) * j ≤ 2 ^ 27
theorem op_powW {X : Cx} : OpR X (binaryOp .Pow) (rI CPowW fun i j => .int (i ^ j.toNat)) := opI fun _ _ _ _ _ _ _ hc q => PyProof.Rows.pow_int hc.1 hc.2 q
theorem powW_ok {i j : Int} (n : Nat) (h0 : 0 ≤ j) (h : i.natAbs < 2 ^ n) (hb : (n : Int) * j ≤ 2 ^ 27) : CPowW i j := by
  refine ⟨h0, Int.le_trans (Int.mul_le_mul_of_nonneg_right ?_ h0) hb⟩
  have := PyProof.Rows.intBits_le h
  omega

/-! ### own operators -/
structure Own (K : PySem.W.Frag) (C : Addr) (m : Str) (f : Addr) : Prop where
  find : PySem.W.findIn K (.ref C) m = some (some (.ref f))
  fn : PySem.W.isFn K (.ref f) = true
/-- x in o, by an own __contains__ that gives a truth value -/
def rOwnIn (C : Addr) (sp : Sp) : R2 := fun x y H Q => ∃ a dx fs, y = .ref a ∧ H a = some (.ins C dx fs) ∧ sp [y, x] H (fun v H' => ∃ c, v = .bl c ∧ Q (.bl c) H') E0
section
variable {X : Cx} {C f : Addr} {fd : FuncData} {ps : List Str} {k : Nat} {sp : Sp}
theorem op_in_own (O : Own X.K C "__contains__" f) (F : FnOk X.prog X.w X.K X.mg X.base CX0 k f fd ps sp) (hr : Room k X.A) (hb : Binds X.K fd ps []) : OpR X (compareOp .In) (rOwnIn C sp) := by
  intro pins s σ H x y v u Q I rx ry h
  obtain ⟨a, dx, fs, rfl, ea, q⟩ := h
  obtain rfl : u = Value.ref a := ry
  obtain ⟨mA, O', _⟩ := ins_get I.hok ea
  obtain ⟨od, J, _⟩ := O'.look
  obtain ⟨m, Fr⟩ := I.fr
  refine PySem.W.in_K Fr I.mod.kin J O.find O.fn ?_
  refine thn (run_fn (us := [.ref a, v]) (vs := [.ref a, x]) F hr hb .nil pass0 I (.cons rfl (.cons rx .nil)) q) fun u' s' hq => ?_
  obtain ⟨v', H', I', rv, hv⟩ := hq
  obtain ⟨b, hb, q'⟩ := hv
  subst hb
  obtain rfl : u' = Value.bool b := rv
  exact wpAny_truthy_bool ⟨.bl b, H', I', rfl, q'⟩
end

/-! ### an own class that is called, a method that is called -/
structure Made (P : Program) (w : World) (K : PySem.W.Frag) (mg : Str → Option Value) (base : Heap) (x : Str) (C : Addr) (ps : List Str) (dvs : List V) (k : Nat) (sp : Sp) : Prop where
  ex : ∃ (f : Addr) (fd : FuncData) (ds : List Value), mg x = some (.ref C) ∧ Mk K C f ∧ Binds K fd ps ds ∧ Vals dvs ds ∧ FnOk P w K mg base CX0 k f fd ps sp
structure Mth (P : Program) (w : World) (K : PySem.W.Frag) (mg : Str → Option Value) (base : Heap) (C : Addr) (m : Str) (ps : List Str) (dvs : List V) (k : Nat) (sp : Sp) : Prop where
  cl : Cls K C
  ex : ∃ (f : Addr) (fd : FuncData) (ds : List Value), Meth K C m f ∧ Binds K fd ps ds ∧ Vals dvs ds ∧ FnOk P w K mg base CX0 k f fd ps sp
structure Opr (P : Program) (w : World) (K : PySem.W.Frag) (mg : Str → Option Value) (base : Heap) (C : Addr) (m : Str) (ps : List Str) (k : Nat) (sp : Sp) : Prop where
  ex : ∃ (f : Addr) (fd : FuncData), Own K C m f ∧ Binds K fd ps [] ∧ FnOk P w K mg base CX0 k f fd ps sp
section
variable {X : Cx} {k : Nat} {sp : Sp} {ps : List Str} {dvs : List V} {C : Addr} {x m : Str} {p pos apos : Pos} {e o : Expr} {es : List Expr} {t : TA} {ta : TE}
theorem pe_mk (F : Made X.prog X.w X.K X.mg X.base x C ps dvs k sp) (hr : Room (k + 1) X.A) (hg : Gl X x) (ha : PA X (e :: es) t) (hdb : (x == ("__debug__" : Str)) = false := by decide)
    (he : starEach (e :: es) X.env = (false, eval e X.env) :: starEach es X.env := by rfl) (hpl : (backTo pos (starEach es X.env)).any (·.1) = false := by rfl) : PE X (.Call (.Name x p) (e :: es) [] pos) (tMake C sp dvs E0 t) := by
  obtain ⟨f, fd, ds, hm, hk, hb, hd, ok⟩ := F.ex
  exact pe_make hk ok hr hg hm hb hd pass0 ha hdb he hpl
theorem pe_mth {pl : Sem Bool} (F : Mth X.prog X.w X.K X.mg X.base C m ps dvs k sp) (he : PE X o ta) (hr : Room k X.A) (ha : PA X (e :: es) t)
    (hst : starEach (e :: es) X.env = (false, eval e X.env) :: starEach es X.env := by rfl) (hpl : (backTo pos (starEach es X.env)).any (·.1) = false := by rfl)
    (ht : eval (.Call (.Attribute o m apos) (e :: es) [] pos) X.env = (do
      let ov ← eval o X.env
      standAt apos.atName
      let (f, first) ← holding [ov] (getMethod ov m pl)
      callWith pos f first (backTo pos (starEach (e :: es) X.env)) (backToKw pos (keywordEach [] X.env))) := by rfl) :
    PE X (.Call (.Attribute o m apos) (e :: es) [] pos) (tMeth C m sp dvs E0 ta t) := by
  obtain ⟨f, fd, ds, hm, hb, hd, ok⟩ := F.ex
  exact pe_meth he F.cl hm ok hr hb hd pass0 ha hst hpl ht
theorem op_in (F : Opr X.prog X.w X.K X.mg X.base C "__contains__" ps k sp) (hr : Room k X.A) : OpR X (compareOp .In) (rOwnIn C sp) := by
  obtain ⟨f, fd, O, hb, ok⟩ := F.ex
  exact op_in_own O ok hr hb
end
theorem rMeth {C : Addr} {m : Str} {sp : Sp} {dvs : List V} {E : XK} {ta : TE} {t : TA} {σ : L2.St} {H : Hp} {Q : VK} (h : ta σ H fun x H1 => ∃ a dx fs, x = .ref a ∧ H1 a = some (.ins C dx fs) ∧ fs.lookup m = none ∧ t σ H1 fun vs H2 => sp (x :: (vs ++ dvs)) H2 Q E) :
  tMeth C m sp dvs E ta t σ H Q := h
theorem lkMut {p a : Addr} {H : Hp} {o u o' : HO} (h : H a = some u) (hp : H p = some o') (d : u ≠ o') : L2.upd H p o a = some u := lkNe (ne_of h hp d) h
def rInt : List V → Hp → VK → Prop := fun xs H Q => (∃ i, xs = [.int i] ∧ Q (.int i) H) ∨ ∃ k : Bool, xs = [.bl k] ∧ Q (.int (if k then 1 else 0)) H
theorem c_int {X : Cx} : CallR X (.type "int") rInt := call_int1
theorem rInt_ {i : Int} {H : Hp} {Q : VK} (h : Q (.int i) H) : rInt [.int i] H Q := Or.inl ⟨i, rfl, h⟩
def rAbs : List V → Hp → VK → Prop := fun xs H Q => ∃ i, xs = [.int i] ∧ Q (.int (if i < 0 then -i else i)) H
theorem c_abs {X : Cx} : CallR X (.builtin "abs") rAbs := call_abs
theorem rAbs_ {i : Int} {H : Hp} {Q : VK} (h : Q (.int (if i < 0 then -i else i)) H) : rAbs [.int i] H Q := ⟨i, rfl, h⟩
def rStr : List V → Hp → VK → Prop := fun xs H Q => ∃ i : Int, xs = [.int i] ∧ i.natAbs.log2 < 1920 ∧ Q (.str (toString i)) H
theorem c_str {X : Cx} : CallR X (.type "str") rStr := call_str_int
theorem rStr_ {i : Int} {H : Hp} {Q : VK} (l : i.natAbs.log2 < 1920) (h : Q (.str (toString i)) H) : rStr [.int i] H Q := ⟨i, rfl, l, h⟩
def rLenStr : List V → Hp → VK → Prop := fun xs H Q => ∃ z : Str, xs = [.str z] ∧ z.length ≤ sizeLine ∧ Q (.int z.length) H
theorem c_lenStr {X : Cx} : CallR X (.builtin "len") rLenStr := call_len_str
theorem rLenStr_ {z : Str} {H : Hp} {Q : VK} (l : z.length ≤ sizeLine) (h : Q (.int z.length) H) : rLenStr [.str z] H Q := ⟨z, rfl, l, h⟩
def rLen (K : PySem.W.Frag) : List V → Hp → VK → Prop := fun xs H Q => ∃ p ys, xs = [.ref p] ∧ (SqL K H p ys ∨ SqT K H p ys) ∧ Q (.int ys.length) H
theorem c_len {X : Cx} : CallR X (.builtin "len") (rLen X.K) := call_len_seq
theorem rLenL {K : PySem.W.Frag} {a : Addr} {ys : List V} {H : Hp} {Q : VK} (h1 : SqL K H a ys) (h : Q (.int ys.length) H) : rLen K [.ref a] H Q := ⟨a, ys, rfl, Or.inl h1, h⟩
theorem rLenT {K : PySem.W.Frag} {a : Addr} {ys : List V} {H : Hp} {Q : VK} (h1 : SqT K H a ys) (h : Q (.int ys.length) H) : rLen K [.ref a] H Q := ⟨a, ys, rfl, Or.inr h1, h⟩
theorem rSub {to ti : TE} {t : TSet} {v : V} {σ : L2.St} {H : Hp} {Q : L2.St → Hp → Prop} (h : to σ H fun o H1 => ti σ H1 fun i H2 => t o i v H2 fun H3 => Q σ H3) : gSub to ti t v σ H Q := h
theorem rSetL_ {a : Addr} {xs : List V} {k : Int} {j : Nat} {v : V} {H : Hp} {Q : Hp → Prop} (h1 : H a = some (.lst xs)) (h2 : ixN xs.length k = some j) (h : Q (upd H a (.lst (xs.set j v)))) : rSetL (.ref a) (.int k) v H Q := ⟨a, xs, k, j, rfl, rfl, h1, h2, h⟩
theorem rAppend_ {a : Addr} {xs : List V} {y : V} {H : Hp} {Q : VK} (h1 : H a = some (.lst xs)) (l : xs.length < sizeLine) (h : Q .non (upd H a (.lst (xs ++ [y])))) : rAppend (.ref a) [y] H Q := ⟨a, xs, y, rfl, rfl, h1, l, h⟩
theorem rBM {K : PySem.W.Frag} {T : String} {r : V → List V → Hp → VK → Prop} {to : TE} {t : TA} {σ : L2.St} {H : Hp} {Q : VK} (h : to σ H fun x H1 => tyV K T x H1 ∧ t σ H1 fun xs H2 => r x xs H2 Q) : tBM K T r to t σ H Q := h
theorem tyL {K : PySem.W.Frag} {a : Addr} {xs : List V} {H : Hp} {R : Prop} (h1 : SqL K H a xs) (h : R) : tyV K "list" (.ref a) H ∧ R := ⟨Or.inl ⟨rfl, _, h1⟩, h⟩
theorem sqW (x : Int) {m : Int} (h0 : 0 < m) (h : m ≤ 2147483647) : CMulW (x % m) (x % m) := by
  have h1 := Int.emod_nonneg x (Int.ne_of_gt h0)
  have h2 := Int.emod_lt_of_pos x h0
  have h3 : (x % m).natAbs < 2 ^ 31 := by omega
  exact wide_mul h3 h3 (by decide) (by decide) (by decide)
theorem rSl {r : V → Option Int → Option Int → Hp → VK → Prop} {te : TE} {tl th : TO} {σ : L2.St} {H : Hp} {Q : VK} (h : te σ H fun x H1 => tl σ H1 fun l H2 => th σ H2 fun u H3 => r x l u H3 Q) : tSl r te tl th σ H Q := h
theorem rNoPart {σ : L2.St} {H : Hp} {Q : Option Int → Hp → Prop} (h : Q none H) : tNoPart σ H Q := h
theorem rPart {t : TE} {σ : L2.St} {H : Hp} {Q : Option Int → Hp → Prop} (h : t σ H fun x H1 => ∃ i, x = .int i ∧ Q (some i) H1) : tPart t σ H Q := h
theorem rInI {i : Int} {R : Int → Prop} (h : R i) : ∃ j, V.int i = .int j ∧ R j := ⟨i, rfl, h⟩
theorem rSlL_ {K : PySem.W.Frag} {a : Addr} {xs : List V} {lo hi : Option Int} {H : Hp} {Q : VK} (h1 : SqL K H a xs) (h : ∀ p, H p = none → Q (.ref p) (upd H p (.lst (cutV xs lo hi)))) : rSlL K (.ref a) lo hi H Q := ⟨a, xs, rfl, h1, h⟩
theorem cut_mem {xs : List V} {lo hi : Option Int} {v : V} (h : v ∈ cutV xs lo hi) : v ∈ xs := List.mem_of_mem_drop (List.mem_of_mem_take h)
theorem cut_int {ns : List Int} {lo hi : Option Int} {i : Nat} {v : V} (h : (cutV (ns.map V.int) lo hi)[i]? = some v) : ∃ u, v = .int u := by
  have h1 := cut_mem (List.mem_of_getElem? h)
  obtain ⟨u, _, e⟩ := List.mem_map.mp h1
  exact ⟨u, e.symm⟩
theorem at_map {ns : List Int} {j : Nat} (h : j < ns.length) : atI (ns.map V.int) (j : Int) = some (.int ns[j]) := atI_nat (by
  rw [List.getElem?_map, List.getElem?_eq_getElem h]
  rfl)
/-! ### loops -/
section
variable {σ : L2.St} {H : Hp} {D : Ends} {g : TG} {tb : TS} {K : PySem.W.Frag}
theorem rFor {wi : TI} (h : wi σ H fun J H1 => ∃ W : Nat → Nat → L2.St → Hp → Prop, (∃ m, W 0 m σ H1) ∧ ∀ i m σ H, W i m σ H →
  (J.stop i H ∧ D.nx σ H) ∨ (J.go i H ∧ ∃ N : L2.St → Hp → Prop, (∀ σ' H', N σ' H' → ∃ m', m' < m ∧ W (i + 1) m' σ' H') ∧ ∀ x H', J.yld i H x H' → g x σ H' fun σ2 H2 => tb { D with nx := N, ct := N, bk := D.nx } σ2 H2)) : tFor wi g tb D σ H := h
theorem rRng1 {ta : TA} {R : It → Hp → Prop} (h : ta σ H fun vs H1 => ∃ j : Int, vs = [.int j] ∧ -(2 ^ 62) ≤ j ∧ j < 2 ^ 62 ∧ R (Itr 0 j.toNat) H1) : iRng1 ta σ H R := h
theorem rRng2 {ta : TA} {R : It → Hp → Prop} (h : ta σ H fun vs H1 => ∃ i j : Int, vs = [.int i, .int j] ∧ (-(2 ^ 62) ≤ i ∧ i < 2 ^ 62 ∧ -(2 ^ 62) ≤ j ∧ j < 2 ^ 62) ∧ R (Itr i (j - i).toNat) H1) : iRng2 ta σ H R := h
theorem rLst1 {tl : TE} {R : It → Hp → Prop} (h : tl σ H fun x H1 => ∃ a, x = .ref a ∧ (∃ xs, SqL K H1 a xs) ∧ R (Itl K a) H1) : iList K tl σ H R := h
theorem rTup1 {tl : TE} {R : It → Hp → Prop} (h : tl σ H fun x H1 => ∃ a, x = .ref a ∧ (∃ xs, SqT K H1 a xs) ∧ R (Itt K a) H1) : iTup K tl σ H R := h
/-- a loop over range(j), the turn's number an int -/
theorem forR {j : Int} (n : Nat) (e : j.toNat = n) (Pv : Nat → L2.St → Hp → Prop) (b : -(2 ^ 62) ≤ j ∧ j < 2 ^ 62) (h0 : Pv 0 σ H)
    (hs : ∀ i σ H, i < n → Pv i σ H → g (.int (i : Int)) σ H fun σ2 H2 => tb ⟨Pv (i + 1), D.rt, D.nx, Pv (i + 1)⟩ σ2 H2) (hd : ∀ σ H, Pv n σ H → D.nx σ H) :
    ∃ j', [V.int j] = [V.int j'] ∧ -(2 ^ 62) ≤ j' ∧ j' < 2 ^ 62 ∧ ∃ W : Nat → Nat → L2.St → Hp → Prop, (∃ m, W 0 m σ H) ∧ ∀ i m σ H, W i m σ H →
      ((Itr 0 j'.toNat).stop i H ∧ D.nx σ H) ∨ ((Itr 0 j'.toNat).go i H ∧ ∃ N : L2.St → Hp → Prop, (∀ σ' H', N σ' H' → ∃ m', m' < m ∧ W (i + 1) m' σ' H') ∧ ∀ x H', (Itr 0 j'.toNat).yld i H x H' → g x σ H' fun σ2 H2 => tb { D with nx := N, ct := N, bk := D.nx } σ2 H2) := by
  subst e
  refine ⟨j, rfl, b.1, b.2, for_range (lo := 0) (n := j.toNat) Pv h0 (fun i σ H hi p => ?_) hd⟩
  have e : (0 : Int) + (i : Int) = (i : Int) := Int.zero_add _
  rw [e]
  exact hs i σ H hi p
/-- a loop over a list that stands still -/
theorem forL {a : Addr} {xs : List V} (Pv : Nat → L2.St → Hp → Prop) (hx : SqL K H a xs) (h0 : Pv 0 σ H) (hl : ∀ i σ H, i ≤ xs.length → Pv i σ H → SqL K H a xs)
    (hs : ∀ i x σ H, xs[i]? = some x → Pv i σ H → g x σ H fun σ2 H2 => tb ⟨Pv (i + 1), D.rt, D.nx, Pv (i + 1)⟩ σ2 H2) (hd : ∀ σ H, Pv xs.length σ H → D.nx σ H) :
    ∃ a', V.ref a = V.ref a' ∧ (∃ xs, SqL K H a' xs) ∧ ∃ W : Nat → Nat → L2.St → Hp → Prop, (∃ m, W 0 m σ H) ∧ ∀ i m σ H, W i m σ H →
      ((Itl K a').stop i H ∧ D.nx σ H) ∨ ((Itl K a').go i H ∧ ∃ N : L2.St → Hp → Prop, (∀ σ' H', N σ' H' → ∃ m', m' < m ∧ W (i + 1) m' σ' H') ∧ ∀ x H', (Itl K a').yld i H x H' → g x σ H' fun σ2 H2 => tb { D with nx := N, ct := N, bk := D.nx } σ2 H2) :=
  ⟨a, rfl, ⟨xs, hx⟩, for_list Pv h0 hl hs hd⟩
theorem forT {a : Addr} {xs : List V} (Pv : Nat → L2.St → Hp → Prop) (hx : SqT K H a xs) (h0 : Pv 0 σ H) (hl : ∀ i σ H, i ≤ xs.length → Pv i σ H → SqT K H a xs)
    (hs : ∀ i x σ H, xs[i]? = some x → Pv i σ H → g x σ H fun σ2 H2 => tb ⟨Pv (i + 1), D.rt, D.nx, Pv (i + 1)⟩ σ2 H2) (hd : ∀ σ H, Pv xs.length σ H → D.nx σ H) :
    ∃ a', V.ref a = V.ref a' ∧ (∃ xs, SqT K H a' xs) ∧ ∃ W : Nat → Nat → L2.St → Hp → Prop, (∃ m, W 0 m σ H) ∧ ∀ i m σ H, W i m σ H →
      ((Itt K a').stop i H ∧ D.nx σ H) ∨ ((Itt K a').go i H ∧ ∃ N : L2.St → Hp → Prop, (∀ σ' H', N σ' H' → ∃ m', m' < m ∧ W (i + 1) m' σ' H') ∧ ∀ x H', (Itt K a').yld i H x H' → g x σ H' fun σ2 H2 => tb { D with nx := N, ct := N, bk := D.nx } σ2 H2) :=
  ⟨a, rfl, ⟨xs, hx⟩, for_tup Pv h0 hl hs hd⟩
end
/-! ### isinstance, is None -/
theorem kit_int_int : kitB "int" "int" = some true := by decide +kernel
theorem kit_int_bool : kitB "int" "bool" = some false := by decide +kernel
theorem kit_int_str : kitB "int" "str" = some false := by decide +kernel
theorem kit_int_list : kitB "int" "list" = some false := by decide +kernel
theorem kit_int_tuple : kitB "int" "tuple" = some false := by decide +kernel
theorem kit_bool_int : kitB "bool" "int" = some true := by decide +kernel
theorem kit_bool_bool : kitB "bool" "bool" = some true := by decide +kernel
theorem kit_bool_str : kitB "bool" "str" = some false := by decide +kernel
theorem kit_bool_list : kitB "bool" "list" = some false := by decide +kernel
theorem kit_bool_tuple : kitB "bool" "tuple" = some false := by decide +kernel
theorem kit_str_int : kitB "str" "int" = some false := by decide +kernel
theorem kit_str_bool : kitB "str" "bool" = some false := by decide +kernel
theorem kit_str_str : kitB "str" "str" = some true := by decide +kernel
theorem kit_str_list : kitB "str" "list" = some false := by decide +kernel
theorem kit_str_tuple : kitB "str" "tuple" = some false := by decide +kernel
theorem kit_list_int : kitB "list" "int" = some false := by decide +kernel
theorem kit_list_bool : kitB "list" "bool" = some false := by decide +kernel
theorem kit_list_str : kitB "list" "str" = some false := by decide +kernel
theorem kit_list_list : kitB "list" "list" = some true := by decide +kernel
theorem kit_list_tuple : kitB "list" "tuple" = some false := by decide +kernel
theorem kit_tuple_int : kitB "tuple" "int" = some false := by decide +kernel
theorem kit_tuple_bool : kitB "tuple" "bool" = some false := by decide +kernel
theorem kit_tuple_str : kitB "tuple" "str" = some false := by decide +kernel
theorem kit_tuple_list : kitB "tuple" "list" = some false := by decide +kernel
theorem kit_tuple_tuple : kitB "tuple" "tuple" = some true := by decide +kernel
theorem kit_NoneType_int : kitB "NoneType" "int" = some false := by decide +kernel
theorem kit_NoneType_bool : kitB "NoneType" "bool" = some false := by decide +kernel
theorem kit_NoneType_str : kitB "NoneType" "str" = some false := by decide +kernel
theorem kit_NoneType_list : kitB "NoneType" "list" = some false := by decide +kernel
theorem kit_NoneType_tuple : kitB "NoneType" "tuple" = some false := by decide +kernel
section
variable {X : Cx} {K : PySem.W.Frag} {H : Hp} {Q : VK} {b : String} {r : Bool} {σ : L2.St}
theorem isiTy {x : V} {a : String} (t : TyX K H x (.type a)) (h : kitB a b = some r) (q : Q (.bl r) H) : rIsi K [x, .ty b] H Q := ⟨x, .ty b, _, _, r, rfl, .ty b, t, kit_ty h, q⟩
theorem isiI {i : Int} (h : kitB "int" b = some r) (q : Q (.bl r) H) : rIsi K [.int i, .ty b] H Q := isiTy (.base (.int i)) h q
theorem isiB {i : Bool} (h : kitB "bool" b = some r) (q : Q (.bl r) H) : rIsi K [.bl i, .ty b] H Q := isiTy (.base (.bl i)) h q
theorem isiS {i : Str} (h : kitB "str" b = some r) (q : Q (.bl r) H) : rIsi K [.str i, .ty b] H Q := isiTy (.base (.str i)) h q
theorem isiN (h : kitB "NoneType" b = some r) (q : Q (.bl r) H) : rIsi K [.non, .ty b] H Q := isiTy (.base .non) h q
theorem isiL {a : Addr} {xs : List V} (e : H a = some (.lst xs)) (h : kitB "list" b = some r) (q : Q (.bl r) H) : rIsi K [.ref a, .ty b] H Q := isiTy (.base (.lst e)) h q
theorem isiT {a : Addr} {xs : List V} (e : H a = some (.tup xs)) (h : kitB "tuple" b = some r) (q : Q (.bl r) H) : rIsi K [.ref a, .ty b] H Q := isiTy (.base (.tup e)) h q
def rIsNone : R2 := fun x y H Q => y = .non ∧ Q (.bl (decide (x = .non))) H
def rNotNone : R2 := fun x y H Q => y = .non ∧ Q (.bl (!decide (x = .non))) H
theorem o_isN : OpR X (compareOp .Is) rIsNone := op_isN
theorem o_notN : OpR X (compareOp .IsNot) rNotNone := op_notN
theorem rIsN_n (q : Q (.bl true) H) : rIsNone .non .non H Q := ⟨rfl, q⟩
theorem rIsN_i {i : Int} (q : Q (.bl false) H) : rIsNone (.int i) .non H Q := ⟨rfl, q⟩
theorem rIsN_b {i : Bool} (q : Q (.bl false) H) : rIsNone (.bl i) .non H Q := ⟨rfl, q⟩
theorem rIsN_s {i : Str} (q : Q (.bl false) H) : rIsNone (.str i) .non H Q := ⟨rfl, q⟩
theorem rIsN_r {i : Addr} (q : Q (.bl false) H) : rIsNone (.ref i) .non H Q := ⟨rfl, q⟩
theorem rNoN_n (q : Q (.bl false) H) : rNotNone .non .non H Q := ⟨rfl, q⟩
theorem rNoN_i {i : Int} (q : Q (.bl true) H) : rNotNone (.int i) .non H Q := ⟨rfl, q⟩
theorem rNoN_b {i : Bool} (q : Q (.bl true) H) : rNotNone (.bl i) .non H Q := ⟨rfl, q⟩
theorem rNoN_s {i : Str} (q : Q (.bl true) H) : rNotNone (.str i) .non H Q := ⟨rfl, q⟩
theorem rNoN_r {i : Addr} (q : Q (.bl true) H) : rNotNone (.ref i) .non H Q := ⟨rfl, q⟩
theorem rIxSL {a : Addr} {xs : List V} {i : Int} {v : V} (h1 : H a = some (.lst xs)) (h2 : atI xs i = some v) (h : Q v H) : rIx K (.ref a) (.int i) H Q := .inl ⟨a, xs, i, v, rfl, rfl, SqL.of h1, h2, h⟩
theorem rIxST {a : Addr} {xs : List V} {i : Int} {v : V} (h1 : H a = some (.tup xs)) (h2 : atI xs i = some v) (h : Q v H) : rIx K (.ref a) (.int i) H Q := .inr (.inl ⟨a, xs, i, v, rfl, rfl, SqT.of h1, h2, h⟩)
theorem rEqS {s : Str} (q : Q (.bl true) H) : rEq (.str s) (.str s) H Q := ⟨rfl, by
  rw [decide_eq_true rfl]
  exact q⟩
theorem fn_false {P : Program} {w : World} {mg : Str → Option Value} {base : Heap} {k : Nat} {f : Addr} {fd : FuncData} {ps : List Str} {sp : Sp} (h : ∀ vs H Q E, ¬ sp vs H Q E) : FnOk P w K mg base CX0 k f fd ps sp :=
  ⟨fun _ _ _ _ q => (h _ _ _ _ q).elim, fun _ _ _ _ _ _ _ _ _ _ _ _ _ q => (h _ _ _ _ q).elim⟩
end
/-! ### the steps that ask nothing, found by their form -/
class Rd (p : Prop) (q : outParam Prop) : Prop where
  imp : q → p
theorem rd {p q : Prop} [h : Rd p q] (x : q) : p := h.imp x
/-- what stands in a slot -/
class At (σ : L2.St) (i : Nat) (v : outParam V) : Prop where
  eq : σ[i]? = some (some v)
instance {v : V} {σ : L2.St} : At (some v :: σ) 0 v := ⟨rfl⟩
instance {v : V} {a : Option V} {σ : L2.St} {i : Nat} [h : At σ i v] : At (a :: σ) (i + 1) v := ⟨h.eq⟩
class Put (σ : L2.St) (i : Nat) (v : V) (τ : outParam L2.St) : Prop where
  eq : σ.set i (some v) = τ
instance {v : V} {a : Option V} {σ : L2.St} : Put (a :: σ) 0 v (some v :: σ) := ⟨rfl⟩
instance {v : V} {a : Option V} {σ τ : L2.St} {i : Nat} [h : Put σ i v τ] : Put (a :: σ) (i + 1) v (a :: τ) := ⟨congrArg (List.cons a) h.eq⟩
section
variable {D : Ends} {σ τ : L2.St} {H : Hp} {Q : VK} {QB : Bool → Hp → Prop} {QL : List V → Hp → Prop} {QS : L2.St → Hp → Prop} {QI : It → Hp → Prop} {QO : Option Int → Hp → Prop} {t u : TS} {te ta tb tc : TE} {tt tu : TT} {g : TG} {v x y : V} {i j : Int} {n : Nat} {K : PySem.W.Frag}
instance : Rd (tSeq t u D σ H) (t ⟨u D, D.rt, D.bk, D.ct⟩ σ H) := ⟨fun h => h⟩
instance : Rd (tNext D σ H) (D.nx σ H) := ⟨fun h => h⟩
instance : Rd (tBreak D σ H) (D.bk σ H) := ⟨fun h => h⟩
instance : Rd (tCont D σ H) (D.ct σ H) := ⟨fun h => h⟩
instance {f b c : L2.St → Hp → Prop} {r : VK} : Rd (Ends.nx ⟨f, r, b, c⟩ σ H) (f σ H) := ⟨fun h => h⟩
instance {f b c : L2.St → Hp → Prop} {r : VK} : Rd (Ends.ct ⟨f, r, b, c⟩ σ H) (c σ H) := ⟨fun h => h⟩
instance {f b c : L2.St → Hp → Prop} {r : VK} : Rd (Ends.bk ⟨f, r, b, c⟩ σ H) (b σ H) := ⟨fun h => h⟩
instance {f b c : L2.St → Hp → Prop} {r : VK} : Rd (Ends.rt ⟨f, r, b, c⟩ v H) (r v H) := ⟨fun h => h⟩
instance : Rd (tAsg te g D σ H) (te σ H fun x H1 => g x σ H1 D.nx) := ⟨fun h => h⟩
instance : Rd (tDrop te D σ H) (te σ H fun _ H1 => D.nx σ H1) := ⟨fun h => h⟩
instance : Rd (tRet te D σ H) (te σ H D.rt) := ⟨fun h => h⟩
instance : Rd (tRetN D σ H) (D.rt .non H) := ⟨fun h => h⟩
instance : Rd (tIfS tt t u D σ H) (tt σ H fun b H1 => if b = true then t D σ H1 else u D σ H1) := ⟨fun h => h⟩
instance [h : At σ n v] : Rd (tVar n σ H Q) (Q v H) := ⟨fun q => ⟨v, h.eq, q⟩⟩
instance [h : Put σ n v τ] : Rd (gName n v σ H QS) (QS τ H) := ⟨fun q => by rw [← h.eq] at q; exact q⟩
instance : Rd (tC v σ H Q) (Q v H) := ⟨fun h => h⟩
instance {r : R2} : Rd (tOp r ta tb σ H Q) (ta σ H fun x H1 => tb σ H1 fun y H2 => r x y H2 Q) := ⟨fun h => h⟩
instance {r : V → Hp → VK → Prop} : Rd (tUn r ta σ H Q) (ta σ H fun x H1 => r x H1 Q) := ⟨fun h => h⟩
instance {f : Int → Int → V} : Rd (rI0 f (.int i) (.int j) H Q) (Q (f i j) H) := ⟨rI0_⟩
instance {f : Int → V} : Rd (rU f (.int i) H Q) (Q (f i) H) := ⟨rU_⟩
instance : Rd (rEq (.int i) (.int j) H Q) (Q (.bl (decide (i = j))) H) := ⟨rEqI⟩
instance : Rd (rNe (.int i) (.int j) H Q) (Q (.bl (!decide (i = j))) H) := ⟨rNeI⟩
instance {a b : Bool} : Rd (rEq (.bl a) (.bl b) H Q) (Q (.bl (a == b)) H) := ⟨rEqBl⟩
instance {a b : Bool} : Rd (rNe (.bl a) (.bl b) H Q) (Q (.bl (!(a == b))) H) := ⟨rNeBl⟩
instance {s : Str} : Rd (rEq (.str s) (.str s) H Q) (Q (.bl true) H) := ⟨rEqS⟩
instance : Rd (tTest te σ H QB) (te σ H fun x H' => ∃ k, x = .bl k ∧ QB k H') := ⟨fun h => h⟩
instance : Rd (tB te σ H QB) (te σ H fun x H' => ∃ k, x = .bl k ∧ QB k H') := ⟨fun h => h⟩
instance {b : Bool} {P : Bool → Prop} : Rd (∃ k, V.bl b = .bl k ∧ P k) (P b) := ⟨rBl⟩
instance {P : Int → Prop} : Rd (∃ k, V.int i = .int k ∧ P k) (P i) := ⟨rInI⟩
instance : Rd (tNot tt σ H QB) (tt σ H fun c H1 => QB (!c) H1) := ⟨fun h => h⟩
instance : Rd (tAnd tt tu σ H QB) (tt σ H fun c H1 => if c = true then tu σ H1 QB else QB false H1) := ⟨fun h => h⟩
instance : Rd (tOr tt tu σ H QB) (tt σ H fun c H1 => if c = true then QB true H1 else tu σ H1 QB) := ⟨fun h => h⟩
instance : Rd (tAndV ta tb σ H Q) (ta σ H fun x H1 => ∃ c, x = .bl c ∧ if c = true then tb σ H1 Q else Q (.bl false) H1) := ⟨fun h => h⟩
instance : Rd (tOrV ta tb σ H Q) (ta σ H fun x H1 => ∃ c, x = .bl c ∧ if c = true then Q (.bl true) H1 else tb σ H1 Q) := ⟨fun h => h⟩
instance : Rd (tNotV ta σ H Q) (ta σ H fun x H1 => ∃ c, x = .bl c ∧ Q (.bl (!c)) H1) := ⟨fun h => h⟩
instance : Rd (tIf tt ta tb σ H Q) (tt σ H fun c H1 => if c = true then ta σ H1 Q else tb σ H1 Q) := ⟨fun h => h⟩
instance {r : List V → Hp → VK → Prop} {t : TA} : Rd (tCB r t σ H Q) (t σ H fun vs H1 => r vs H1 Q) := ⟨fun h => h⟩
instance : Rd (tNil σ H QL) (QL [] H) := ⟨fun h => h⟩
instance {t : TA} : Rd (tCons te t σ H QL) (te σ H fun x H1 => t σ H1 fun xs H2 => QL (x :: xs) H2) := ⟨fun h => h⟩
instance {t : TA} : Rd (tTup t σ H Q) (t σ H fun xs H1 => xs.length ≤ sizeLine ∧ ∀ p, H1 p = none → Q (.ref p) (upd H1 p (.tup xs))) := ⟨fun h => h⟩
instance {t : TA} : Rd (tLst t σ H Q) (t σ H fun xs H1 => xs.length ≤ sizeLine ∧ ∀ p, H1 p = none → Q (.ref p) (upd H1 p (.lst xs))) := ⟨fun h => h⟩
instance {sp : Sp} {dvs : List V} {E : XK} {t : TA} : Rd (tCall sp dvs E t σ H Q) (t σ H fun vs H1 => sp (vs ++ dvs) H1 Q E) := ⟨fun h => h⟩
instance {C : Addr} {sp : Sp} {dvs : List V} {E : XK} {t : TA} : Rd (tMake C sp dvs E t σ H Q) (t σ H fun vs H1 => ∀ x dx, H1 x = none → H1 dx = none → dx ≠ x → sp (.ref x :: (vs ++ dvs)) (upd (upd H1 dx (.own x)) x (.ins C dx [])) (fun v H2 => v = .non ∧ Q (.ref x) H2) E) := ⟨fun h => h⟩
instance {C : Addr} {m : Str} {sp : Sp} {dvs : List V} {E : XK} {t : TA} : Rd (tMeth C m sp dvs E ta t σ H Q) (ta σ H fun x H1 => ∃ a dx fs, x = .ref a ∧ H1 a = some (.ins C dx fs) ∧ fs.lookup m = none ∧ t σ H1 fun vs H2 => sp (x :: (vs ++ dvs)) H2 Q E) := ⟨fun h => h⟩
instance {f : Str} : Rd (tFld K te f σ H Q) (te σ H fun x H1 => ∃ a C dx fs v, x = .ref a ∧ H1 a = some (.ins C dx fs) ∧ Cls K C ∧ NoAttr K C f ∧ fs.lookup f = some v ∧ Q v H1) := ⟨fun h => h⟩
instance {f : Str} : Rd (sFld K ta te f D σ H) (te σ H fun y H1 => ta σ H1 fun x H2 => ∃ a C dx fs, x = .ref a ∧ H2 a = some (.ins C dx fs) ∧ Cls K C ∧ NoAttr K C f ∧ fs.length < 1000 ∧ D.nx σ (upd H2 a (.ins C dx (putF f y fs)))) := ⟨fun h => h⟩
instance {r r' : R2} : Rd (tChain r r' ta tb tc σ H Q) (ta σ H fun x H1 => tb σ H1 fun y H2 => r x y H2 fun z H3 => ∃ k, z = .bl k ∧ (if k = true then tc σ H3 fun w' H4 => r' y w' H4 Q else Q (.bl false) H3)) := ⟨fun h => h⟩
instance : Rd (rInt [.int i] H Q) (Q (.int i) H) := ⟨rInt_⟩
instance : Rd (rAbs [.int i] H Q) (Q (.int (if i < 0 then -i else i)) H) := ⟨rAbs_⟩
instance {to ti : TE} {t : TSet} : Rd (gSub to ti t v σ H QS) (to σ H fun o H1 => ti σ H1 fun i H2 => t o i v H2 fun H3 => QS σ H3) := ⟨fun h => h⟩
instance {T : String} {r : V → List V → Hp → VK → Prop} {to : TE} {t : TA} : Rd (tBM K T r to t σ H Q) (to σ H fun x H1 => tyV K T x H1 ∧ t σ H1 fun xs H2 => r x xs H2 Q) := ⟨fun h => h⟩
instance {T : String} {r : V → List V → Hp → VK → Prop} {to : TE} : Rd (tBM0 K T r to σ H Q) (to σ H fun x H1 => tyV K T x H1 ∧ r x [] H1 Q) := ⟨fun h => h⟩
instance {r : V → Option Int → Option Int → Hp → VK → Prop} {tl th : TO} : Rd (tSl r te tl th σ H Q) (te σ H fun x H1 => tl σ H1 fun l H2 => th σ H2 fun u H3 => r x l u H3 Q) := ⟨fun h => h⟩
instance : Rd (tNoPart σ H QO) (QO none H) := ⟨fun h => h⟩
instance : Rd (tPart te σ H QO) (te σ H fun x H1 => ∃ i, x = .int i ∧ QO (some i) H1) := ⟨fun h => h⟩
instance {wi : TI} : Rd (tFor wi g t D σ H) (wi σ H fun J H1 => ∃ W : Nat → Nat → L2.St → Hp → Prop, (∃ m, W 0 m σ H1) ∧ ∀ i m σ H, W i m σ H →
  (J.stop i H ∧ D.nx σ H) ∨ (J.go i H ∧ ∃ N : L2.St → Hp → Prop, (∀ σ' H', N σ' H' → ∃ m', m' < m ∧ W (i + 1) m' σ' H') ∧ ∀ x H', J.yld i H x H' → g x σ H' fun σ2 H2 => t { D with nx := N, ct := N, bk := D.nx } σ2 H2)) := ⟨fun h => h⟩
instance {ta : TA} : Rd (iRng1 ta σ H QI) (ta σ H fun vs H1 => ∃ j : Int, vs = [.int j] ∧ -(2 ^ 62) ≤ j ∧ j < 2 ^ 62 ∧ QI (Itr 0 j.toNat) H1) := ⟨fun h => h⟩
instance {ta : TA} : Rd (iRng2 ta σ H QI) (ta σ H fun vs H1 => ∃ i j : Int, vs = [.int i, .int j] ∧ (-(2 ^ 62) ≤ i ∧ i < 2 ^ 62 ∧ -(2 ^ 62) ≤ j ∧ j < 2 ^ 62) ∧ QI (Itr i (j - i).toNat) H1) := ⟨fun h => h⟩
instance : Rd (iList K te σ H QI) (te σ H fun x H1 => ∃ a, x = .ref a ∧ (∃ xs, SqL K H1 a xs) ∧ QI (Itl K a) H1) := ⟨fun h => h⟩
instance : Rd (iTup K te σ H QI) (te σ H fun x H1 => ∃ a, x = .ref a ∧ (∃ xs, SqT K H1 a xs) ∧ QI (Itt K a) H1) := ⟨fun h => h⟩
instance : Rd (rIsNone .non .non H Q) (Q (.bl true) H) := ⟨rIsN_n⟩
instance : Rd (rIsNone (.int i) .non H Q) (Q (.bl false) H) := ⟨rIsN_i⟩
instance {b : Bool} : Rd (rIsNone (.bl b) .non H Q) (Q (.bl false) H) := ⟨rIsN_b⟩
instance {b : Str} : Rd (rIsNone (.str b) .non H Q) (Q (.bl false) H) := ⟨rIsN_s⟩
instance {b : Addr} : Rd (rIsNone (.ref b) .non H Q) (Q (.bl false) H) := ⟨rIsN_r⟩
instance : Rd (rNotNone .non .non H Q) (Q (.bl false) H) := ⟨rNoN_n⟩
instance : Rd (rNotNone (.int i) .non H Q) (Q (.bl true) H) := ⟨rNoN_i⟩
instance {b : Bool} : Rd (rNotNone (.bl b) .non H Q) (Q (.bl true) H) := ⟨rNoN_b⟩
instance {b : Str} : Rd (rNotNone (.str b) .non H Q) (Q (.bl true) H) := ⟨rNoN_s⟩
instance {b : Addr} : Rd (rNotNone (.ref b) .non H Q) (Q (.bl true) H) := ⟨rNoN_r⟩
instance : Rd (rIsi K [.int i, .ty "int"] H Q) (Q (.bl true) H) := ⟨isiI kit_int_int⟩
instance : Rd (rIsi K [.int i, .ty "bool"] H Q) (Q (.bl false) H) := ⟨isiI kit_int_bool⟩
instance : Rd (rIsi K [.int i, .ty "str"] H Q) (Q (.bl false) H) := ⟨isiI kit_int_str⟩
instance : Rd (rIsi K [.int i, .ty "list"] H Q) (Q (.bl false) H) := ⟨isiI kit_int_list⟩
instance : Rd (rIsi K [.int i, .ty "tuple"] H Q) (Q (.bl false) H) := ⟨isiI kit_int_tuple⟩
instance {bb : Bool} : Rd (rIsi K [.bl bb, .ty "int"] H Q) (Q (.bl true) H) := ⟨isiB kit_bool_int⟩
instance {bb : Bool} : Rd (rIsi K [.bl bb, .ty "bool"] H Q) (Q (.bl true) H) := ⟨isiB kit_bool_bool⟩
instance {bb : Bool} : Rd (rIsi K [.bl bb, .ty "str"] H Q) (Q (.bl false) H) := ⟨isiB kit_bool_str⟩
instance {bb : Bool} : Rd (rIsi K [.bl bb, .ty "list"] H Q) (Q (.bl false) H) := ⟨isiB kit_bool_list⟩
instance {bb : Bool} : Rd (rIsi K [.bl bb, .ty "tuple"] H Q) (Q (.bl false) H) := ⟨isiB kit_bool_tuple⟩
instance {ss : Str} : Rd (rIsi K [.str ss, .ty "int"] H Q) (Q (.bl false) H) := ⟨isiS kit_str_int⟩
instance {ss : Str} : Rd (rIsi K [.str ss, .ty "bool"] H Q) (Q (.bl false) H) := ⟨isiS kit_str_bool⟩
instance {ss : Str} : Rd (rIsi K [.str ss, .ty "str"] H Q) (Q (.bl true) H) := ⟨isiS kit_str_str⟩
instance {ss : Str} : Rd (rIsi K [.str ss, .ty "list"] H Q) (Q (.bl false) H) := ⟨isiS kit_str_list⟩
instance {ss : Str} : Rd (rIsi K [.str ss, .ty "tuple"] H Q) (Q (.bl false) H) := ⟨isiS kit_str_tuple⟩
instance : Rd (rIsi K [.non, .ty "int"] H Q) (Q (.bl false) H) := ⟨isiN kit_NoneType_int⟩
instance : Rd (rIsi K [.non, .ty "bool"] H Q) (Q (.bl false) H) := ⟨isiN kit_NoneType_bool⟩
instance : Rd (rIsi K [.non, .ty "str"] H Q) (Q (.bl false) H) := ⟨isiN kit_NoneType_str⟩
instance : Rd (rIsi K [.non, .ty "list"] H Q) (Q (.bl false) H) := ⟨isiN kit_NoneType_list⟩
instance : Rd (rIsi K [.non, .ty "tuple"] H Q) (Q (.bl false) H) := ⟨isiN kit_NoneType_tuple⟩
theorem iteLit : True := trivial
instance {A B : Prop} {d : Decidable ((true) = true)} : Rd (@ite Prop ((true) = true) d A B) A := ⟨fun h => by rw [if_pos (show _ from by first | rfl | (intro z; cases z))]; exact h⟩
instance {A B : Prop} {d : Decidable ((false) = true)} : Rd (@ite Prop ((false) = true) d A B) B := ⟨fun h => by rw [if_neg (show _ from by first | rfl | (intro z; cases z))]; exact h⟩
instance {A B : Prop} {d : Decidable ((!true) = true)} : Rd (@ite Prop ((!true) = true) d A B) B := ⟨fun h => by rw [if_neg (show _ from by first | rfl | (intro z; cases z))]; exact h⟩
instance {A B : Prop} {d : Decidable ((!false) = true)} : Rd (@ite Prop ((!false) = true) d A B) A := ⟨fun h => by rw [if_pos (show _ from by first | rfl | (intro z; cases z))]; exact h⟩
instance {A B : Prop} {d : Decidable ((true == true) = true)} : Rd (@ite Prop ((true == true) = true) d A B) A := ⟨fun h => by rw [if_pos (show _ from by first | rfl | (intro z; cases z))]; exact h⟩
instance {A B : Prop} {d : Decidable ((!(true == true)) = true)} : Rd (@ite Prop ((!(true == true)) = true) d A B) B := ⟨fun h => by rw [if_neg (show _ from by first | rfl | (intro z; cases z))]; exact h⟩
instance {A B : Prop} {d : Decidable ((true == false) = true)} : Rd (@ite Prop ((true == false) = true) d A B) B := ⟨fun h => by rw [if_neg (show _ from by first | rfl | (intro z; cases z))]; exact h⟩
instance {A B : Prop} {d : Decidable ((!(true == false)) = true)} : Rd (@ite Prop ((!(true == false)) = true) d A B) A := ⟨fun h => by rw [if_pos (show _ from by first | rfl | (intro z; cases z))]; exact h⟩
instance {A B : Prop} {d : Decidable ((false == true) = true)} : Rd (@ite Prop ((false == true) = true) d A B) B := ⟨fun h => by rw [if_neg (show _ from by first | rfl | (intro z; cases z))]; exact h⟩
instance {A B : Prop} {d : Decidable ((!(false == true)) = true)} : Rd (@ite Prop ((!(false == true)) = true) d A B) A := ⟨fun h => by rw [if_pos (show _ from by first | rfl | (intro z; cases z))]; exact h⟩
instance {A B : Prop} {d : Decidable ((false == false) = true)} : Rd (@ite Prop ((false == false) = true) d A B) A := ⟨fun h => by rw [if_pos (show _ from by first | rfl | (intro z; cases z))]; exact h⟩
instance {A B : Prop} {d : Decidable ((!(false == false)) = true)} : Rd (@ite Prop ((!(false == false)) = true) d A B) B := ⟨fun h => by rw [if_neg (show _ from by first | rfl | (intro z; cases z))]; exact h⟩
end
end Bar

namespace Bar
open PySem PySem.W PySem.Calls PyProof.Rows
section
variable {prog : Program} {w : World} {A : Around} {E : Value → Shared → Prop} {s : Shared} {i : Int} {t : Tok} {x : Addr} {ob : Obj} {Q : Value → Shared → Prop}
theorem int_no_floordiv (hx : s.heap.get? x = some ob) (hd : ob.data = .plain) (h : Q .notImplemented s) : wpAny (model prog w) A (call (.builtin "int.__floordiv__") [.int i t, .ref x]) Q E s := by
  refine GQ.call_here PySem.F.slot_int_floordiv (typeIs_int _ _ _) PySem.F.entry_int_floordiv (PySem.F.args_int_floordiv_2 _ _) ?_
  obtain ⟨hp, g, d, tk, os⟩ := s
  obtain ⟨c, dd, dt, sl⟩ := ob
  simp only at hd
  subst hd
  wp_walk using AutoSeq1.wpAny_loadPart' hx
  exact h
theorem int_no_mod (hx : s.heap.get? x = some ob) (hd : ob.data = .plain) (h : Q .notImplemented s) : wpAny (model prog w) A (call (.builtin "int.__mod__") [.int i t, .ref x]) Q E s := by
  refine GQ.call_here PySem.F.slot_int_mod (typeIs_int _ _ _) PySem.F.entry_int_mod (PySem.F.args_int_mod_2 _ _) ?_
  obtain ⟨hp, g, d, tk, os⟩ := s
  obtain ⟨c, dd, dt, sl⟩ := ob
  simp only at hd
  subst hd
  wp_walk using AutoSeq1.wpAny_loadPart' hx
  exact h
theorem int_no_add (hx : s.heap.get? x = some ob) (hd : ob.data = .plain) (h : Q .notImplemented s) : wpAny (model prog w) A (call (.builtin "int.__add__") [.int i t, .ref x]) Q E s := by
  refine GQ.call_here PySem.F.slot_int_add (typeIs_int _ _ _) PySem.F.entry_int_add (PySem.F.args_int_add_2 _ _) ?_
  obtain ⟨hp, g, d, tk, os⟩ := s
  obtain ⟨c, dd, dt, sl⟩ := ob
  simp only at hd
  subst hd
  wp_walk using AutoSeq1.wpAny_loadPart' hx
  exact h
theorem int_no_mul (hx : s.heap.get? x = some ob) (hd : ob.data = .plain) (h : Q .notImplemented s) : wpAny (model prog w) A (call (.builtin "int.__mul__") [.int i t, .ref x]) Q E s := by
  refine GQ.call_here PySem.F.slot_int_mul (typeIs_int _ _ _) PySem.F.entry_int_mul (PySem.F.args_int_mul_2 _ _) ?_
  obtain ⟨hp, g, d, tk, os⟩ := s
  obtain ⟨c, dd, dt, sl⟩ := ob
  simp only at hd
  subst hd
  wp_walk using AutoSeq1.wpAny_loadPart' hx
  exact h
end
theorem fillsR {M : Model} {K : Frag} {C f : Addr} {h : Heap} {nm : String} {cd : ClassData} {rest : List Value} {fo : Option Value} (X : K.In h) (hc : clsIn K C = some cd) (hm : cd.mro = .ref C :: rest)
    (hfo : findIn K (.ref C) (PySem.dunder nm) = some fo) (ho : fo = none ∨ ∃ g : Addr, fo = some (.ref g)) (hr : findIn K (.ref C) (dunderR nm) = some (some (.ref f))) : Looks M h (fillsNumberSlot (.ref C) nm) true := by
  intro A Q E s k q
  unfold fillsNumberSlot
  refine wpAny_bind ((looks_clsIn X hc).andThen (f := fun cd => pure cd.mro) .now A _ E s k ?_)
  rw [hm, List.anyM_cons]
  refine wpAny_bind ?_
  show wpAny M A (List.anyM _ [PySem.dunder nm, dunderR nm]) _ _ _
  rw [List.anyM_cons]
  refine wpAny_bind (wpAny_bind (looks_findIn X hfo A _ E s k ?_))
  rcases ho with rfl | ⟨g, rfl⟩
  · dsimp only
    refine wpAny_pure ?_
    rw [if_neg (by simp), List.anyM_cons]
    refine wpAny_bind (wpAny_bind (looks_findIn X hr A _ E s k ?_))
    dsimp only
    rw [if_pos (show (!ownNameWrapper (.ref f) (dunderR nm)) = true from rfl)]
    refine wpAny_pure ?_
    rw [if_pos rfl]
    refine wpAny_pure ?_
    rw [if_pos rfl]
    exact wpAny_pure q
  · dsimp only
    rw [if_pos (show (!ownNameWrapper (.ref g) (PySem.dunder nm)) = true from rfl)]
    refine wpAny_pure ?_
    rw [if_pos rfl]
    refine wpAny_pure ?_
    rw [if_pos rfl]
    exact wpAny_pure q
theorem own_right {prog : Program} {w : World} {A : Around} {E : Value → Shared → Prop} {s : Shared} {K : Frag} {x C L f : Addr} {h₀ : Heap} {m : Str → Option Value} {ox : Obj} {od : Option Obj} {i : Int} {t : Tok} {op : Operator} {fo : Option Value} {idl : String} {Q : Value → Shared → Prop}
    (F : Fr h₀ L s.heap m) (X₀ : K.In h₀) (I : InstAt s.heap x ox C od) (hc : selfFirst K C = true) (hfo : findIn K (.ref C) (PySem.dunder op.info.2) = some fo) (ho : fo = none ∨ ∃ g : Addr, fo = some (.ref g))
    (hr : findIn K (.ref C) (dunderR op.info.2) = some (some (.ref f))) (hf : isFn K (.ref f) = true) (hsub : subIn K (.ref C) (.type "int") = some false)
    (fillsT : fillsNumberSlot (.type "int") op.info.2 = pure true) (slot : Slot "int" (PySem.dunder op.info.2) idl)
    (dec : ∀ Q' : Value → Shared → Prop, Q' .notImplemented s → wpAny (model prog w) A (call (.builtin idl) [.int i t, .ref x]) Q' E s)
    (h : wpAny (model prog w) A (call (.ref f) [.ref x, .int i t]) (PySem.W.CmpBack Q) E s) : wpAny (model prog w) A (binaryOp op (.int i t) (.ref x)) Q E s := by
  have X := X₀.keeps F.keep
  obtain ⟨cd, rest, hcd, hm⟩ := ksp_first hc
  rcases hi : op.info with ⟨sym, nm'⟩
  rw [hi] at hfo hr fillsT slot
  dsimp only at hfo hr fillsT slot
  have one := ksp_try X I hr hf h
  have two : wpAny (model prog w) A (tryMethod (.int i t) (PySem.dunder nm') (.ref x)) (fun r s' => r = none ∧ s' = s) E s :=
    wpAny_tryMethod_declines (typeIs_int _ _ _) slot (dec _ ⟨rfl, rfl, rfl⟩)
  obtain ⟨hh, g, d, tt, os⟩ := s
  have L2 : Looks (model prog w) hh (typeOf (.ref x)) (.ref C) := I.type
  have L3 : Looks (model prog w) hh (fillsNumberSlot (.ref C) nm') true := fillsR X hcd hm hfo ho hr
  have L5 : Looks (model prog w) hh (isSubtype (.ref C) (.type "int")) false := looks_subIn X hsub
  have hne : (Value.type "int" == Value.ref C) = false := Bool.eq_false_iff.mpr fun q => by cases beq_iff_eq.mp q
  have hpy : numberSlotInPython (.type "int") nm' = pure false := rfl
  simp only [binaryOp, hi]
  refine wpAny_holding (wpAny_bind ?_)
  unfold binaryOp1
  refine wpAny_bind (wpAny_typeOf (typeIs_int _ _ _) (wpAny_bind (L2.at (wpAny_bind (wpAny_of_eq fillsT ?_)))))
  simp only [hne, Bool.false_eq_true, if_false]
  refine wpAny_bind (L3.at ?_)
  simp only [Bool.and_self, if_true]
  refine wpAny_bind (L5.at ?_)
  simp only [Bool.false_eq_true, if_false, pure_bind, Bool.not_false, Bool.and_self, if_true, hpy]
  refine wpAny_bind (wpAny_mono two (fun r s1 hr1 => ?_) fun _ _ e => e)
  obtain ⟨rfl, rfl⟩ := hr1
  dsimp only
  refine wpAny_bind (wpAny_mono one (fun r s2 hr2 => ?_) fun _ _ e => e)
  obtain ⟨v, rfl, hq⟩ := hr2
  dsimp only
  exact wpAny_bind (wpAny_rule (wpAny_pure (wpAny_pure hq)))
end Bar

namespace Bar
open PySem L2
theorem relV_back {v : V} {u : Value} {Q : Value → Shared → Prop} {s : Shared} (r : RelV v u) (h : Q u s) : PySem.W.CmpBack Q u s := by
  cases v with
  | non => cases (show u = Value.none from r); exact h
  | bl b => cases (show u = Value.bool b from r); exact h
  | int i => obtain ⟨t, rfl⟩ := (show ∃ t, u = Value.int i t from r); exact h
  | str i => obtain ⟨t, rfl⟩ := (show ∃ t, u = Value.str i t from r); exact h
  | byt i => obtain ⟨t, rfl⟩ := (show ∃ t, u = Value.bytes i t from r); exact h
  | flt i => obtain ⟨t, rfl⟩ := (show ∃ t, u = Value.float i t from r); exact h
  | ref i => cases (show u = Value.ref i from r); exact h
  | ty n => cases (show u = Value.type n from r); exact h
def oi (op : Operator) : String := op.info.2
/-- what the written part says of an own operator beside an int -/
structure OwnL (K : PySem.W.Frag) (C : Addr) (op : Operator) (f : Addr) : Prop where
  sf : PySem.W.selfFirst K C = true
  find : PySem.W.findIn K (.ref C) (PySem.dunder op.info.2) = some (some (.ref f))
  fn : PySem.W.isFn K (.ref f) = true
  rr : ∃ rc, PySem.W.findIn K (.ref C) (dunderR op.info.2) = some rc ∧ (rc = none ∨ ∃ g : Addr, rc = some (.ref g))
  i1 : ∃ fo, PySem.W.findIn K (.type "int") (PySem.dunder op.info.2) = some fo
  i2 : ∃ ro, PySem.W.findIn K (.type "int") (dunderR op.info.2) = some ro
  sub : PySem.W.subIn K (.type "int") (.ref C) = some false
structure OwnR (K : PySem.W.Frag) (C : Addr) (op : Operator) (f : Addr) : Prop where
  sf : PySem.W.selfFirst K C = true
  find : PySem.W.findIn K (.ref C) (dunderR op.info.2) = some (some (.ref f))
  fn : PySem.W.isFn K (.ref f) = true
  ll : ∃ rc, PySem.W.findIn K (.ref C) (PySem.dunder op.info.2) = some rc ∧ (rc = none ∨ ∃ g : Addr, rc = some (.ref g))
  sub : PySem.W.subIn K (.ref C) (.type "int") = some false
/-- how an int declines -/
structure IntNo (op : Operator) : Prop where
  fills : fillsNumberSlot (.type "int") op.info.2 = pure true
  ex : ∃ idl, Slot "int" (PySem.dunder op.info.2) idl ∧ ∀ {prog : Program} {w : World} {A : Around} {E : Value → Shared → Prop} {s : Shared} {i : Int} {t : Tok} {x : Addr} {ob : Obj} {Q : Value → Shared → Prop}, s.heap.get? x = some ob → ob.data = .plain → Q .notImplemented s →
    wpAny (model prog w) A (call (.builtin idl) [.int i t, .ref x]) Q E s
theorem no_floordiv : IntNo .FloorDiv := ⟨PySem.F.fills_int_floordiv, _, PySem.F.slot_int_floordiv, fun hx hd h => int_no_floordiv hx hd h⟩
theorem no_mod : IntNo .Mod := ⟨PySem.F.fills_int_mod, _, PySem.F.slot_int_mod, fun hx hd h => int_no_mod hx hd h⟩
theorem no_add : IntNo .Add := ⟨PySem.F.fills_int_add, _, PySem.F.slot_int_add, fun hx hd h => int_no_add hx hd h⟩
theorem no_mul : IntNo .Mult := ⟨PySem.F.fills_int_mul, _, PySem.F.slot_int_mul, fun hx hd h => int_no_mul hx hd h⟩
/-- o op n, n op o -/
def rOwnL (C : Addr) (sp : Sp) : R2 := fun x y H Q => ∃ a dx fs i, x = .ref a ∧ y = .int i ∧ H a = some (.ins C dx fs) ∧ sp [x, y] H Q E0
def rOwnR (C : Addr) (sp : Sp) : R2 := fun x y H Q => ∃ a dx fs i, y = .ref a ∧ x = .int i ∧ H a = some (.ins C dx fs) ∧ sp [y, x] H Q E0
structure OprL (P : Program) (w : World) (K : PySem.W.Frag) (mg : Str → Option Value) (base : Heap) (C : Addr) (op : Operator) (ps : List Str) (k : Nat) (sp : Sp) : Prop where
  ex : ∃ (f : Addr) (fd : FuncData), OwnL K C op f ∧ Binds K fd ps [] ∧ FnOk P w K mg base CX0 k f fd ps sp
structure OprR (P : Program) (w : World) (K : PySem.W.Frag) (mg : Str → Option Value) (base : Heap) (C : Addr) (op : Operator) (ps : List Str) (k : Nat) (sp : Sp) : Prop where
  ex : ∃ (f : Addr) (fd : FuncData), OwnR K C op f ∧ Binds K fd ps [] ∧ FnOk P w K mg base CX0 k f fd ps sp
section
variable {X : Cx} {C f : Addr} {ps : List Str} {k : Nat} {sp : Sp} {op : Operator}
theorem op_L (F : OprL X.prog X.w X.K X.mg X.base C op ps k sp) (hr : Room k X.A) : OpR X (binaryOp op) (rOwnL C sp) := by
  intro pins s σ H x y v u Q I rx ry h
  obtain ⟨f, fd, O, hb, ok⟩ := F.ex
  obtain ⟨a, dx, fs, i, rfl, rfl, ea, q⟩ := h
  obtain rfl : v = Value.ref a := rx
  obtain ⟨t, rfl⟩ := (show ∃ t, u = Value.int i t from ry)
  obtain ⟨mA, O', _⟩ := ins_get I.hok ea
  obtain ⟨od, J, _⟩ := O'.look
  obtain ⟨m, Fr⟩ := I.fr
  obtain ⟨rc, hrc, hp⟩ := O.rr
  obtain ⟨fo, h1⟩ := O.i1
  obtain ⟨ro, h2⟩ := O.i2
  refine PySem.W.ksp_binT Fr I.mod.kin J rfl O.sf O.find O.fn hrc hp h1 h2 O.sub ?_
  refine thn (run_fn (us := [.ref a, .int i t]) (vs := [.ref a, .int i]) ok hr hb .nil pass0 I (.cons rfl (.cons ⟨t, rfl⟩ .nil)) q) fun u' s' hq => ?_
  obtain ⟨v', H', I', rv, hv⟩ := hq
  exact relV_back rv ⟨v', H', I', rv, hv⟩
theorem op_R (F : OprR X.prog X.w X.K X.mg X.base C op ps k sp) (N : IntNo op) (hr : Room k X.A) : OpR X (binaryOp op) (rOwnR C sp) := by
  intro pins s σ H x y v u Q I rx ry h
  obtain ⟨f, fd, O, hb, ok⟩ := F.ex
  obtain ⟨a, dx, fs, i, rfl, rfl, ea, q⟩ := h
  obtain rfl : u = Value.ref a := ry
  obtain ⟨t, rfl⟩ := (show ∃ t, v = Value.int i t from rx)
  obtain ⟨mA, O', _⟩ := ins_get I.hok ea
  obtain ⟨od, J, _⟩ := O'.look
  obtain ⟨m, Fr⟩ := I.fr
  obtain ⟨rc, hrc, hp⟩ := O.ll
  obtain ⟨idl, slot, dec⟩ := N.ex
  refine own_right Fr I.mod.kin J O.sf hrc hp O.find O.fn O.sub N.fills slot (fun Q' hq => dec O'.obj rfl hq) ?_
  refine thn (run_fn (us := [.ref a, .int i t]) (vs := [.ref a, .int i]) ok hr hb .nil pass0 I (.cons rfl (.cons ⟨t, rfl⟩ .nil)) q) fun u' s' hq => ?_
  obtain ⟨v', H', I', rv, hv⟩ := hq
  exact relV_back rv ⟨v', H', I', rv, hv⟩
end
end Bar

namespace Bar
open PySem L2
section
variable {σ τ : L2.St} {H : Hp} {Q : VK} {g : TG} {tt : TT} {te : TE} {vs : List Nat}
instance {wi : TI} : Rd (tLc wi g tt te vs σ H Q) (wi σ H fun J H1 => ∀ D, H1 D = none → ∃ W : Nat → Nat → Hp → Prop, (∃ m, W 0 m (upd H1 D (.lst []))) ∧ ∀ i m H, W i m H →
  (J.stop i H ∧ Q (.ref D) H) ∨ (J.go i H ∧ ∃ Nx : Hp → Prop, (∀ H', Nx H' → ∃ m', m' < m ∧ W (i + 1) m' H') ∧ ∀ x H', J.yld i H x H' → g x (wipe σ vs) H' fun σ2 H2 => wipe σ2 vs = wipe σ vs ∧ tt σ2 H2 fun b H3 =>
    if b = true then te σ2 H3 fun y H4 => ∃ acc, H4 D = some (.lst acc) ∧ acc.length < sizeLine ∧ Nx (upd H4 D (.lst (acc ++ [y]))) else Nx H3)) := ⟨fun h => h⟩
instance {QB : Bool → Hp → Prop} : Rd (tYes σ H QB) (QB true H) := ⟨fun h => h⟩
/-- a comprehension over range(j) -/
theorem lcR {j : Int} {R : Addr → Hp → Prop} (n : Nat) (e : j.toNat = n) (ew : wipe σ vs = τ) (b : -(2 ^ 62) ≤ j ∧ j < 2 ^ 62)
    (h : ∀ D, H D = none → ∃ Pv : Nat → Hp → Prop, Pv 0 (upd H D (.lst [])) ∧
      (∀ i H', i < n → Pv i H' → g (.int (i : Int)) τ H' fun σ2 H2 => wipe σ2 vs = τ ∧ tt σ2 H2 fun b H3 =>
        if b = true then te σ2 H3 fun y H4 => ∃ acc, H4 D = some (.lst acc) ∧ acc.length < sizeLine ∧ Pv (i + 1) (upd H4 D (.lst (acc ++ [y]))) else Pv (i + 1) H3) ∧ ∀ H', Pv n H' → R D H') :
    ∃ j', [V.int j] = [V.int j'] ∧ -(2 ^ 62) ≤ j' ∧ j' < 2 ^ 62 ∧ ∀ D, H D = none → ∃ W : Nat → Nat → Hp → Prop, (∃ m, W 0 m (upd H D (.lst []))) ∧ ∀ i m H, W i m H →
      ((Itr 0 j'.toNat).stop i H ∧ R D H) ∨ ((Itr 0 j'.toNat).go i H ∧ ∃ Nx : Hp → Prop, (∀ H', Nx H' → ∃ m', m' < m ∧ W (i + 1) m' H') ∧ ∀ x H', (Itr 0 j'.toNat).yld i H x H' → g x (wipe σ vs) H' fun σ2 H2 => wipe σ2 vs = wipe σ vs ∧ tt σ2 H2 fun b H3 =>
        if b = true then te σ2 H3 fun y H4 => ∃ acc, H4 D = some (.lst acc) ∧ acc.length < sizeLine ∧ Nx (upd H4 D (.lst (acc ++ [y]))) else Nx H3) := by
  subst e ew
  refine ⟨j, rfl, b.1, b.2, fun D hD => ?_⟩
  obtain ⟨Pv, h0, hs, hd⟩ := h D hD
  refine lc_range (lo := 0) (n := j.toNat) Pv h0 (fun i H' hi p => ?_) hd
  have e : (0 : Int) + (i : Int) = (i : Int) := Int.zero_add _
  rw [e]
  exact hs i H' hi p
/-- over a list that stands still -/
theorem lcL {K : PySem.W.Frag} {a : Addr} {xs : List V} {R : Addr → Hp → Prop} (ew : wipe σ vs = τ) (hx : SqL K H a xs)
    (h : ∀ D, H D = none → ∃ Pv : Nat → Hp → Prop, Pv 0 (upd H D (.lst [])) ∧ (∀ i H', i ≤ xs.length → Pv i H' → SqL K H' a xs) ∧
      (∀ i x H', xs[i]? = some x → Pv i H' → g x τ H' fun σ2 H2 => wipe σ2 vs = τ ∧ tt σ2 H2 fun b H3 =>
        if b = true then te σ2 H3 fun y H4 => ∃ acc, H4 D = some (.lst acc) ∧ acc.length < sizeLine ∧ Pv (i + 1) (upd H4 D (.lst (acc ++ [y]))) else Pv (i + 1) H3) ∧ ∀ H', Pv xs.length H' → R D H') :
    ∃ a', V.ref a = V.ref a' ∧ (∃ xs, SqL K H a' xs) ∧ ∀ D, H D = none → ∃ W : Nat → Nat → Hp → Prop, (∃ m, W 0 m (upd H D (.lst []))) ∧ ∀ i m H, W i m H →
      ((Itl K a').stop i H ∧ R D H) ∨ ((Itl K a').go i H ∧ ∃ Nx : Hp → Prop, (∀ H', Nx H' → ∃ m', m' < m ∧ W (i + 1) m' H') ∧ ∀ x H', (Itl K a').yld i H x H' → g x (wipe σ vs) H' fun σ2 H2 => wipe σ2 vs = wipe σ vs ∧ tt σ2 H2 fun b H3 =>
        if b = true then te σ2 H3 fun y H4 => ∃ acc, H4 D = some (.lst acc) ∧ acc.length < sizeLine ∧ Nx (upd H4 D (.lst (acc ++ [y]))) else Nx H3) := by
  subst ew
  refine ⟨a, rfl, ⟨xs, hx⟩, fun D hD => ?_⟩
  obtain ⟨Pv, h0, hl, hs, hd⟩ := h D hD
  exact lc_list Pv h0 hl hs hd
theorem rSum_ {K : PySem.W.Frag} {a : Addr} {ns : List Int} (h1 : SqL K H a (ns.map V.int)) (h : Q (.int ns.sum) H) : rSum K [.ref a] H Q := ⟨a, ns, rfl, h1, h⟩
theorem sum_ones : ∀ n : Nat, (List.replicate n (1 : Int)).sum = (n : Int)
  | 0 => rfl
  | n + 1 => by
    rw [List.replicate_succ, List.sum_cons, sum_ones n]
    omega
end
end Bar

namespace Bar
open PySem PySem.W PySem.Calls PyProof.Rows
theorem ne_own {prog : Program} {w : World} {A : Around} {E : Value → Shared → Prop} {s : Shared} {K : Frag} {x C L f : Addr} {h₀ : Heap} {m : Str → Option Value} {ox : Obj} {od : Option Obj} {b tb : Value} {Q : Value → Shared → Prop}
    (hu : A.units + 1 < cLine) (F : Fr h₀ L s.heap m) (X₀ : K.In h₀) (I : InstAt s.heap x ox C od) (hb : Looks (model prog w) s.heap (typeOf b) tb) (hn : notFirst K C tb = true)
    (hne : findIn K (.ref C) "__ne__" = some (some (.builtin "object.__ne__"))) (heq : findIn K (.ref C) "__eq__" = some (some (.ref f))) (hf : isFn K (.ref f) = true) (hm : mroIn K C (.type "object") = some true)
    (h : wpAny (model prog w) A.in1 (call (.ref f) [.ref x, b]) (fun r s' => ∃ c, r = .bool c ∧ Q (.bool (!c)) s') E s) : wpAny (model prog w) A (richCompare .NotEq (.ref x) b) Q E s := by
  have X := X₀.keeps F.keep
  have one : wpAny (model prog w) A (tryCompare (.ref x) "__ne__" b) (fun r s' => ∃ v, r = some v ∧ Q v s') E s := by
    have sub : Looks (model prog w) s.heap (isInstance (.ref x) (.type "object")) true := I.type.andThen (looks_mroIn X hm)
    have back : wpAny (model prog w) A (call (.builtin "object.__ne__") [.ref x, b]) (fun v s' => ∃ c, v = .bool c ∧ Q (.bool c) s') E s := by
      refine wpAny_call (codeAny_call_builtin PySem.F.cmp_object.ne.plain PySem.F.cmpEntry_ne (@PySem.W.check_slot (model prog w) _ _ s "object.__ne__" "object" "__ne__" (.ref x) [b] [] _ PySem.F.cmpKind_ne PySem.F.cmpSplit_ne sub (PySem.F.cmpArgs_ne _ _) ?_))
      unfold Builtin.«object.__ne__»
      refine wpAny_bind (wpAny_of_eq (a := ((Value.ref x : Value), [b])) (by first | rfl | (simp only [slotArgs]; rfl)) ?_)
      refine wpAny_bind (wpAny_cRoomFor hu ?_)
      refine wpAny_bind (ifBound_K X I heq hf (wpAny_mono h (fun v s' hv => ?_) fun _ _ e => e))
      obtain ⟨c, rfl, q⟩ := hv
      dsimp only
      refine wpAny_bind (wpAny_truthy_bool ?_)
      exact wpAny_pure ⟨!c, rfl, q⟩
    simp only [tryCompare, callSpecialIfBound?, bindSpecialIfBound?]
    refine wpAny_bind (wpAny_holding (wpAny_bind (wpAny_bind (wpAny_bind (I.type.here ((looks_findIn X hne).here ?_))))))
    simp only [PySem.F.cmp_object.ne.bind]
    refine wpAny_bind (wpAny_askSetting (wpAny_ite ?_))
    have fin : wpAny (model prog w) A (call (.builtin "object.__ne__") ([.ref x] ++ [b]) >>= fun v => pure (some v)) (fun r s' => wpAny (model prog w) A (match r with | some .notImplemented => pure none | none => pure none | some v => pure (some v)) (fun r s' => ∃ v, r = some v ∧ Q v s') E s') E s :=
      wpAny_bind (wpAny_mono back (fun v s' hv => by
        obtain ⟨c, rfl, q⟩ := hv
        exact wpAny_pure (wpAny_pure ⟨_, rfl, q⟩)) fun _ _ e => e)
    split
    · exact wpAny_bind (wpAny_pure (wpAny_pure fin))
    · exact wpAny_tryCatch (wpAny_bind (wpAny_pure (wpAny_pure fin)))
  unfold richCompare
  simp only [oneThing_ref]
  refine wpAny_holding (wpAny_bind (wpAny_cRoomFor (by omega) ?_))
  refine wpAny_bind (I.type.here (wpAny_bind (hb.here ?_)))
  split
  · rename_i q
    have e : subIn K tb (.ref C) = some false := by
      rcases Bool.or_eq_true_iff.mp hn with e | e
      · rw [beq_iff_eq.mp e] at q; simp at q
      · exact beq_iff_eq.mp e
    refine wpAny_bind ((looks_subIn X e).here ?_)
    simp only [Bool.false_eq_true, if_false]
    refine wpAny_bind (wpAny_mono one (fun r s' z => ?_) fun _ _ e => e)
    obtain ⟨v, rfl, hq⟩ := z
    exact wpAny_pure hq
  · refine wpAny_bind (wpAny_pure ?_)
    simp only [Bool.false_eq_true, if_false]
    refine wpAny_bind (wpAny_mono one (fun r s' z => ?_) fun _ _ e => e)
    obtain ⟨v, rfl, hq⟩ := z
    exact wpAny_pure hq
end Bar

namespace Bar
open PySem L2
structure OwnEq (K : PySem.W.Frag) (C f : Addr) : Prop where
  eq : PySem.W.findIn K (.ref C) "__eq__" = some (some (.ref f))
  fn : PySem.W.isFn K (.ref f) = true
  ne : PySem.W.findIn K (.ref C) "__ne__" = some (some (.builtin "object.__ne__"))
  ob : PySem.W.mroIn K C (.type "object") = some true
def rOwnEq (K : PySem.W.Frag) (C : Addr) (neg : Bool) (sp : Sp) : R2 := fun x y H Q => ∃ a dx fs t, x = .ref a ∧ H a = some (.ins C dx fs) ∧ TyX K H y t ∧ PySem.W.notFirst K C t = true ∧ sp [x, y] H (fun v H' => ∃ c, v = .bl c ∧ Q (.bl (if neg then !c else c)) H') E0
structure OprEq (P : Program) (w : World) (K : PySem.W.Frag) (mg : Str → Option Value) (base : Heap) (C : Addr) (ps : List Str) (k : Nat) (sp : Sp) : Prop where
  ex : ∃ (f : Addr) (fd : FuncData), OwnEq K C f ∧ Binds K fd ps [] ∧ FnOk P w K mg base CX0 k f fd ps sp
section
variable {X : Cx} {C : Addr} {ps : List Str} {k : Nat} {sp : Sp}
theorem op_Eq (F : OprEq X.prog X.w X.K X.mg X.base C ps k sp) (hr : Room k X.A) : OpR X (compareOp .Eq) (rOwnEq X.K C false sp) := by
  intro pins s σ H x y v u Q I rx ry h
  obtain ⟨f, fd, O, hb, ok⟩ := F.ex
  obtain ⟨a, dx, fs, t, rfl, ea, ty, hn, q⟩ := h
  obtain rfl : v = Value.ref a := rx
  obtain ⟨mA, O', _⟩ := ins_get I.hok ea
  obtain ⟨od, J, _⟩ := O'.look
  obtain ⟨m, Fr⟩ := I.fr
  obtain ⟨Pz, Z, p, _⟩ := kit_of I ry ty
  show wpAny _ _ (richCompare .Eq (.ref a) u) _ _ _
  refine PySem.W.cmp_K (op := .Eq) hr.units0 Fr I.mod.kin J (Z.ty _ _ I.kIn p) hn O.eq O.fn ?_
  refine thn (run_fn (us := [.ref a, u]) (vs := [.ref a, y]) ok hr hb .nil pass0 I (.cons rfl (.cons ry .nil)) q) fun u' s' hq => ?_
  obtain ⟨v', H', I', rv, hv⟩ := hq
  obtain ⟨c, rfl, q'⟩ := hv
  exact relV_back rv ⟨_, H', I', rv, q'⟩
theorem op_Ne (F : OprEq X.prog X.w X.K X.mg X.base C ps k sp) (hr : Room (k + 1) X.A) : OpR X (compareOp .NotEq) (rOwnEq X.K C true sp) := by
  intro pins s σ H x y v u Q I rx ry h
  obtain ⟨f, fd, O, hb, ok⟩ := F.ex
  obtain ⟨a, dx, fs, t, rfl, ea, ty, hn, q⟩ := h
  obtain rfl : v = Value.ref a := rx
  obtain ⟨mA, O', _⟩ := ins_get I.hok ea
  obtain ⟨od, J, _⟩ := O'.look
  obtain ⟨m, Fr⟩ := I.fr
  obtain ⟨Pz, Z, p, _⟩ := kit_of I ry ty
  show wpAny _ _ (richCompare .NotEq (.ref a) u) _ _ _
  refine ne_own (by have := hr.units; omega) Fr I.mod.kin J (Z.ty _ _ I.kIn p) hn O.ne O.eq O.fn O.ob ?_
  have r2 : Vals [V.ref a, y] [Value.ref a, u] := .cons rfl (.cons ry .nil)
  have hl : ([Value.ref a, u] ++ ([] : List Value)).length = ps.length := by
    have e := ok.len _ _ _ _ q
    rw [← e]
    rfl
  have bnd : BindsTo s fd ⟨[Value.ref a, u], []⟩ (ps.zip [Value.ref a, u]) := by
    have e := hb s [Value.ref a, u] I.kIn hl
    rwa [List.append_nil] at e
  have run := ok.run X.A.in1 X.stack s H ⟨[Value.ref a, u], []⟩ [Value.ref a, u] [V.ref a, y] _ E0 hr.in1 I.env0.in1 bnd r2 q
  refine wpAny_call (codeAny_mono run fun r s' hq => ?_)
  cases r with
  | error e => exact False.elim hq
  | ok fl =>
    cases fl with
    | ret u' =>
      obtain ⟨v', H', I', rv, c, ev, q'⟩ := I.after hq
      subst ev
      exact ⟨c, rv, .bl (!c), H', I', rfl, q'⟩
    | next => exact False.elim hq
    | brk => exact False.elim hq
    | cont => exact False.elim hq
end
end Bar

set_option Elab.async false
set_option linter.all false
set_option maxRecDepth 100000
set_option maxHeartbeats 4000000
namespace Bar
open PySem L2
/-! ### own errors: their making -/
/-- an own error class, made by its name; sp: what its __init__ keeps -/
structure Err (P : Program) (w : World) (K : PySem.W.Frag) (mg : Str → Option Value) (base : Heap) (x : Str) (C : Addr) (ps : List Str) (k : Nat) (sp : Sp) : Prop where
  ex : ∃ (f : Addr) (fd : FuncData), mg x = some (.ref C) ∧ OexC K C ∧ PySem.W.findIn K (.ref C) "__init__" = some (some (.ref f)) ∧ PySem.W.typeIn K (.ref f) = some (.type "function") ∧ Binds K fd ps [] ∧ FnOk P w K mg base CX0 k f fd ps sp
/-- the base class's own name, and its __init__ -/
structure EBase (K : PySem.W.Frag) (mg : Str → Option Value) (bn : Str) (B : Addr) : Prop where
  g : mg bn = some (.ref B)
  r : ClX.CRead K B (.type "type")
  v : PySem.W.findCls K (.ref B) (.type "type") "__init__" = some (.val (.builtin "ValueError.__init__"))
section
variable {X : Cx} {B C : Addr} {x bn : Str} {k : Nat} {sp : Sp} {ps : List Str} {e : Expr} {es : List Expr} {ta : TA} {p p1 p2 pos : Pos}
theorem pmk_err (F : Err X.prog X.w X.K X.mg X.base x C ps k sp) (hr : Room (k + 1) X.A) (hg : Gl X x) (ha : PA X (e :: es) ta) (hdb : (x == ("__debug__" : Str)) = false := by decide)
    (he : starEach (e :: es) X.env = (false, eval e X.env) :: starEach es X.env := by rfl) (hpl : (backTo pos (starEach es X.env)).any (·.1) = false := by rfl) : PMk X (.Call (.Name x p) (e :: es) [] pos) (tMkO C sp [] ta) := by
  obtain ⟨f, fd, hm, T, iC, tI, hb, ok⟩ := F.ex
  exact pmk_oex T iC tI ok hr hb .nil (fun _ _ _ _ _ _ _ z => z.elim) hg hm ha hdb he hpl
theorem pe_baseInit {pl : Sem Bool} (N : EBase X.K X.mg bn B) (hg : Gl X bn) (ha : PA X (e :: es) ta) (hdb : (bn == ("__debug__" : Str)) = false := by decide)
    (hc : eval (.Call (.Attribute (.Name bn p1) "__init__" p2) (e :: es) [] pos) X.env = (do
      let ov ← eval (.Name bn p1) X.env; standAt p2.atName
      let (f, first) ← holding [ov] (getMethod ov "__init__" pl)
      callWith pos f first (backTo pos (starEach (e :: es) X.env)) (backToKw pos (keywordEach [] X.env))) := by rfl)
    (he : starEach (e :: es) X.env = (false, eval e X.env) :: starEach es X.env := by rfl) (hpl : (backTo pos (starEach es X.env)).any (·.1) = false := by rfl) :
    PE X (.Call (.Attribute (.Name bn p1) "__init__" p2) (e :: es) [] pos) (tVeI X.K ta) := ⟨fun pins s σ H Q I h => by
  refine PySem.W.methodCall_KW (pl := pl) (ld_glob I hg N.g ?_ hdb) hc
  refine PySem.W.method_cls I.kIn N.r.ga (PySem.W.cls_value I.kIn N.r.rd N.v rfl ?_)
  show wpAny _ _ (callWith pos (.builtin "ValueError.__init__") [] (backTo pos (starEach (e :: es) X.env)) []) _ _ _
  have I' := I.tok (s.toks + 1)
  refine PyProof.Rows.callWith_method1 (thn (ha.run pos pins _ σ H _ I' h) fun us s1 hs => ?_) he hpl
  obtain ⟨vs, H1, J, rv, a, C, ws, ev, hl, T, ea, q⟩ := hs
  subst ev
  cases rv with
  | cons ra rw' =>
    cases ra
    refine oinit_ok T J ea ?_ fun s' J' => ⟨.non, H1, J', rfl, q⟩
    rw [← Paired.length rw', sizeLine_eq]
    omega⟩
end

/-! ### defs that raise, called where what they raise is taken -/
structure FnX (P : Program) (w : World) (K : PySem.W.Frag) (mg : Str → Option Value) (base : Heap) (x : Str) (ps : List Str) (dvs : List V) (k : Nat) (sp : Sp) : Prop where
  ex : ∃ (f : Addr) (fd : FuncData) (ds : List Value), mg x = some (.ref f) ∧ PySem.W.keepIn K (.ref f) = true ∧ Binds K fd ps ds ∧ Vals dvs ds ∧ FnOk P w K mg base (L2.CX P w) k f fd ps sp
structure MadeX (P : Program) (w : World) (K : PySem.W.Frag) (mg : Str → Option Value) (base : Heap) (x : Str) (C : Addr) (ps : List Str) (dvs : List V) (k : Nat) (sp : Sp) : Prop where
  ex : ∃ (f : Addr) (fd : FuncData) (ds : List Value), mg x = some (.ref C) ∧ Mk K C f ∧ Binds K fd ps ds ∧ Vals dvs ds ∧ FnOk P w K mg base (L2.CX P w) k f fd ps sp
structure MthX (P : Program) (w : World) (K : PySem.W.Frag) (mg : Str → Option Value) (base : Heap) (C : Addr) (m : Str) (ps : List Str) (dvs : List V) (k : Nat) (sp : Sp) : Prop where
  cl : Cls K C
  ex : ∃ (f : Addr) (fd : FuncData) (ds : List Value), Meth K C m f ∧ Binds K fd ps ds ∧ Vals dvs ds ∧ FnOk P w K mg base (L2.CX P w) k f fd ps sp
/-- what is raised, wished for at the slots as they stand -/
def wAt (W : WX) (σ : L2.St) : XK := fun cls d H => W cls d σ H
def tCallX (sp : Sp) (dvs : List V) (W : WX) (t : TA) : TE := fun σ H Q => t σ H fun vs H1 => sp (vs ++ dvs) H1 Q (wAt W σ)
def tMakeX (C : Addr) (sp : Sp) (dvs : List V) (W : WX) (t : TA) : TE := fun σ H Q => t σ H fun vs H1 => ∀ x dx, H1 x = none → H1 dx = none → dx ≠ x →
  sp (.ref x :: (vs ++ dvs)) (upd (upd H1 dx (.own x)) x (.ins C dx [])) (fun v H2 => v = .non ∧ Q (.ref x) H2) (wAt W σ)
def tMethX (C : Addr) (m : Str) (sp : Sp) (dvs : List V) (W : WX) (ta : TE) (t : TA) : TE := fun σ H Q => ta σ H fun x H1 => ∃ a dx fs, x = .ref a ∧ H1 a = some (.ins C dx fs) ∧ fs.lookup m = none ∧
  t σ H1 fun vs H2 => sp (x :: (vs ++ dvs)) H2 Q (wAt W σ)
section
variable {X : Cx} {W : WX} {k : Nat} {f C : Addr} {fd : FuncData} {ps : List Str} {sp : Sp} {dvs : List V} {ds : List Value} {x m : Str} {p pos apos : Pos} {e o : Expr} {es : List Expr} {ta : TE} {t : TA}
theorem run_fnX {pins : List (Addr × Obj)} {σ : L2.St} {H : Hp} {s : Shared} {Q : VK} {us : List Value} {vs : List V} (F : FnOk X.prog X.w X.K X.mg X.base (L2.CX X.prog X.w) k f fd ps sp) (hr : Room k X.A) (hb : Binds X.K fd ps ds) (hd : Vals dvs ds)
    (tk : Takes X W) (I : Inv X pins σ H s) (r : Vals vs us) (h : sp (vs ++ dvs) H Q (wAt W σ)) : wpAny (model X.prog X.w) X.A (call (.ref f) us) (EP X pins σ Q) X.xe s := by
  have r2 : Vals (vs ++ dvs) (us ++ ds) := r.append hd
  have hl : (us ++ ds).length = ps.length := r2.length.symm.trans (F.len _ _ _ _ h)
  refine wpAny_call (codeAny_mono (F.run X.A X.stack s H ⟨us, []⟩ (us ++ ds) (vs ++ dvs) Q (wAt W σ) hr I.env0 (hb s us I.kIn hl) r2 h) fun z s' hq => ?_)
  match z, hq with
  | .error e, hq => exact tk e s' (XE.of_call I (fun _ _ _ h => h) hq)
  | .ok (.ret u), hq => exact I.after hq
theorem pe_fnX (F : FnX X.prog X.w X.K X.mg X.base x ps dvs k sp) (tk : Takes X W) (hr : Room k X.A) (hg : Gl X x) (ha : PA X (e :: es) t) (hdb : (x == ("__debug__" : Str)) = false := by decide)
    (he : starEach (e :: es) X.env = (false, eval e X.env) :: starEach es X.env := by rfl) (hpl : (backTo pos (starEach es X.env)).any (·.1) = false := by rfl) : PE X (.Call (.Name x p) (e :: es) [] pos) (tCallX sp dvs W t) := ⟨fun pins s σ H Q I h => by
  obtain ⟨f, fd, ds, hm, hk, hb, hd, ok⟩ := F.ex
  refine wpAny_Call_Name_kw (ld_glob I hg hm ?_ hdb)
  refine PySem.W.callWith_K (h₀ := X.base) I.ok.mod.kin hk (thn (ha.run pos pins s σ H _ I h) fun us s1 hs => ?_) he hpl
  obtain ⟨vs, H1, J, r, q⟩ := hs
  exact ⟨J.kIn, run_fnX ok hr hb hd tk J r q⟩⟩
theorem pe_mthX {pl : Sem Bool} (F : MthX X.prog X.w X.K X.mg X.base C m ps dvs k sp) (tk : Takes X W) (ho : PE X o ta) (hr : Room k X.A) (ha : PA X (e :: es) t)
    (hst : starEach (e :: es) X.env = (false, eval e X.env) :: starEach es X.env := by rfl) (hpl : (backTo pos (starEach es X.env)).any (·.1) = false := by rfl)
    (ht : eval (.Call (.Attribute o m apos) (e :: es) [] pos) X.env = (do
      let ov ← eval o X.env; standAt apos.atName
      let (f, first) ← holding [ov] (getMethod ov m pl)
      callWith pos f first (backTo pos (starEach (e :: es) X.env)) (backToKw pos (keywordEach [] X.env))) := by rfl) :
    PE X (.Call (.Attribute o m apos) (e :: es) [] pos) (tMethX C m sp dvs W ta t) := ⟨fun pins s σ H Q I h => by
  obtain ⟨f, fd, ds, hm, hb, hd, ok⟩ := F.ex
  refine PySem.W.methodCall_KW (pl := pl) (thn (ho.run pins s σ H _ I h) fun u s1 hs => ?_) ht
  obtain ⟨x, H1, J, rx, a, dx, fs, ex, ea, l, q⟩ := hs
  subst ex
  cases rx
  refine getmeth_ok J ea F.cl hm l (PySem.W.callWith_K (first := [.ref a]) (h₀ := X.base) J.ok.mod.kin hm.kp (thn (ha.run pos pins s1 σ H1 _ J q) fun us s2 hs => ?_) hst hpl)
  obtain ⟨vs, H2, J2, r, q2⟩ := hs
  exact ⟨J2.kIn, run_fnX (us := .ref a :: us) (vs := .ref a :: vs) ok hr hb hd tk J2 (.cons rfl r) q2⟩⟩
theorem run_makeX {pins : List (Addr × Obj)} {σ : L2.St} {H : Hp} {s : Shared} {Q : VK} {us : List Value} {vs : List V} (M : Mk X.K C f) (F : FnOk X.prog X.w X.K X.mg X.base (L2.CX X.prog X.w) k f fd ps sp) (hr : Room (k + 1) X.A) (hb : Binds X.K fd ps ds) (hd : Vals dvs ds)
    (tk : Takes X W) (I : Inv X pins σ H s) (r : Vals vs us)
    (h : ∀ x dx, H x = none → H dx = none → dx ≠ x → sp (.ref x :: (vs ++ dvs)) (upd (upd H dx (.own x)) x (.ins C dx [])) (fun v H2 => v = .non ∧ Q (.ref x) H2) (wAt W σ)) :
    wpAny (model X.prog X.w) X.A (call (.ref C) us) (EP X pins σ Q) X.xe s := by
  have hq := h (s.heap.objs.size + 1) s.heap.objs.size (I.hok.fresh (Nat.le_succ _)) (I.hok.fresh (Nat.le_refl _)) (Nat.ne_of_lt (Nat.lt_succ_self _))
  have J := Inv.made (C := C) I
  have r2 : Vals (V.ref (s.heap.objs.size + 1) :: (vs ++ dvs)) (Value.ref (s.heap.objs.size + 1) :: (us ++ ds)) := .cons rfl (r.append hd)
  have hl : (Value.ref (s.heap.objs.size + 1) :: us ++ ds).length = ps.length := r2.length.symm.trans (F.len _ _ _ _ hq)
  refine wpAny_call (make_map (f := f) I.kIn M.makes M.init (beq_iff_eq.mp M.fn) (codeAny_mono (F.run _ X.stack _ _ ⟨Value.ref (s.heap.objs.size + 1) :: us, []⟩ (Value.ref (s.heap.objs.size + 1) :: (us ++ ds)) _ _ (wAt W σ) (hr.make C us [])
    (J.env0.make C us []) (hb _ (Value.ref (s.heap.objs.size + 1) :: us) J.kIn hl) r2 hq) fun z s' hz => ?_))
  match z, hz with
  | .error e, hz => exact tk e s' (XE.of_call J (fun _ _ _ h => h) hz)
  | .ok (.ret u), hz =>
    obtain ⟨v, H', J3, rv, ev, q3⟩ := J.after hz
    subst ev
    exact ⟨rv, ⟨V.ref (s.heap.objs.size + 1), H', J3, rfl, q3⟩⟩
theorem pe_mkX (F : MadeX X.prog X.w X.K X.mg X.base x C ps dvs k sp) (tk : Takes X W) (hr : Room (k + 1) X.A) (hg : Gl X x) (ha : PA X (e :: es) t) (hdb : (x == ("__debug__" : Str)) = false := by decide)
    (he : starEach (e :: es) X.env = (false, eval e X.env) :: starEach es X.env := by rfl) (hpl : (backTo pos (starEach es X.env)).any (·.1) = false := by rfl) : PE X (.Call (.Name x p) (e :: es) [] pos) (tMakeX C sp dvs W t) := ⟨fun pins s σ H Q I h => by
  obtain ⟨f, fd, ds, hm, M, hb, hd, ok⟩ := F.ex
  refine wpAny_Call_Name_kw (ld_glob I hg hm ?_ hdb)
  refine PySem.W.callWith_K (h₀ := X.base) I.ok.mod.kin M.kp (thn (ha.run pos pins s σ H _ I h) fun us s1 hs => ?_) he hpl
  obtain ⟨vs, H1, J, r, q⟩ := hs
  exact ⟨J.kIn, run_makeX M ok hr hb hd tk J r q⟩⟩
end

/-- what raises nothing here, though it may -/
theorem FnX0 {P : Program} {w : World} {K : PySem.W.Frag} {mg : Str → Option Value} {base : Heap} {k : Nat} {f : Addr} {fd : FuncData} {ps : List Str} {sp : Sp} (F : FnOk P w K mg base (L2.CX P w) k f fd ps sp) : FnOk P w K mg base CX0 k f fd ps (fun vs H Q _ => sp vs H Q E0) :=
  ⟨fun vs H Q _ h => F.len vs H Q E0 h, fun A outer s H args us vs Q _ hr e0 hb r h => codeAny_mono (F.run A outer s H args us vs Q E0 hr e0 hb r h) fun z s' hq => by
    match z, hq with
    | .error e, hq =>
      obtain ⟨_, _, _, _, _, _, _, _, _, _, _, _, x⟩ := hq
      exact x.elim
    | .ok (.ret u), hq => exact hq⟩
/-- a block, with a word between its first statement and the rest -/
def tMid (t u : TS) : TS := fun D σ H => ∃ M : L2.St → Hp → Prop, t { D with nx := M } σ H ∧ ∀ σ' H', M σ' H' → u D σ' H'
theorem pss_mid {X : Cx} {s1 : Stmt} {ss : List Stmt} {t u : TS} (a : PS X s1 t) (b : PSs X ss u) : PSs X (s1 :: ss) (tMid t u) := ⟨fun pins s σ H D I ⟨M, hm, hu⟩ => by
  refine wpAny_execs_cons (thn (a.run pins s σ H { D with nx := M } I hm) fun z s1 q => ?_)
  match z, q with
  | .next, ⟨σ', H', I', q⟩ => exact b.run pins s1 σ' H' D I' (hu σ' H' q)
  | .ret _, q => exact q
  | .brk, q => exact q
  | .cont, q => exact q⟩
/-! ### range of two ints of any size -/
theorem turn_big {P : Program} {w : World} {K : PySem.W.Frag} {tg : Expr} (it : Addr) (lo : Int) (n : Nat) : Turn P w K tg (Itr lo n) [it] it (fun i h => IsLongIter h it (lo + (i : Nat) * 1) ((n : Int) - (i : Nat)) 1) where
  mem := List.mem_singleton.mpr rfl
  obj := fun i h st b hb => by
    cases List.mem_singleton.mp hb
    refine ⟨_, st, fun v z => ?_⟩
    have y : Data.fields _ = Data.cell v := z
    cases y
  keep := fun i h h' st k => k it (List.mem_singleton.mpr rfl) _ st
  item := by
    rintro X rfl rfl rfl hc i pins s σ H E I hf st hg
    obtain ⟨f0, f1, f2, f3, f4, f5⟩ := hf it (List.mem_singleton.mpr rfl)
    refine (Walks.longrange (prog := X.prog) (w := X.w) (I.ok.hd hc) it lo 1 n).item i s _ _ hg st fun v h' tk hv st' kk => ?_
    obtain ⟨t, rfl⟩ := hv
    have J : Inv X pins σ H { s with heap := h', toks := tk } := I.turned (fun b o hb e => kk b o (fun z => hb (List.mem_singleton.mp z)) e) f0 f1 f3 f4 f5
    exact ⟨_, rfl, go_of (s := { s with heap := h', toks := tk }) (n := "longrange_iterator") st' rfl rfl (by decide) ⟨.int (lo + i), H, J, ⟨t, by rw [Int.mul_one]⟩, ⟨rfl, rfl⟩, st', fun b hb => (hf b hb).1⟩⟩
  done := by
    rintro X rfl rfl rfl hc i pins s σ H E I hf st hg
    obtain ⟨f0, f1, f2, f3, f4, f5⟩ := hf it (List.mem_singleton.mpr rfl)
    have hn : n ≤ i := hg
    exact wpAny_pyNext_long_end (I.ok.hd hc) st (by omega) fun h' eb => ⟨rfl, I.turned (t' := s.toks) (fun b o hb e => eb b o hb e) f0 f1 f3 f4 f5⟩
  self := fun _ _ _ _ _ st h => wpAny_pyIter_longiter st h
section
variable {X : Cx} {tg : Expr}
theorem range_any {pins : List (Addr × Obj)} {σ : L2.St} {H : Hp} {s : Shared} {R : It → Hp → Prop} {E : Value → Shared → Prop} {lo hi : Int} {t u v : Tok} {tk : Nat} (I : Inv X pins σ H s) (q : R (Itr lo (hi - lo).toNat) H) :
    wpAny (model X.prog X.w) X.A (pyIter (.ref s.heap.objs.size)) (PIE X pins σ tg R) E { s with heap := s.heap.push { cls := .type "range", data := .fields #[.int lo t, .int hi u, .int 1 v] }, toks := tk } := by
  have J : Inv X pins σ H { s with heap := s.heap.push { cls := .type "range", data := .fields #[.int lo t, .int hi u, .int 1 v] }, toks := tk } := I.kept fun b o e => Heap.get?_push_of_some _ e
  have ef : ∀ b, b ∈ [(s.heap.push { cls := .type "range", data := .fields #[.int lo t, .int hi u, .int 1 v] }).objs.size] → b = (s.heap.push { cls := .type "range", data := .fields #[.int lo t, .int hi u, .int 1 v] }).objs.size := fun b hb => List.mem_singleton.mp hb
  have e1 : lo + ((0 : Nat) : Int) * 1 = lo := by simp
  have e2 : (((hi - lo).toNat : Nat) : Int) - ((0 : Nat) : Int) = Builtin.Range.rangeSize lo hi 1 := by
    rw [rangeSize_one]
    split <;> omega
  cases sm : Builtin.Range.small lo hi 1 with
  | true =>
    refine wpAny_pyIter_range (IsRange.new ..) sm ⟨_, _, _, _, H, rfl, J.kept (t' := tk) fun b o e => Heap.get?_push_of_some _ e, turn_range _ lo (hi - lo).toNat, ?_, fun b hb => ?_, q⟩
    · show IsRangeIter _ _ (lo + ((0 : Nat) : Int) * 1) ((((hi - lo).toNat : Nat) : Int) - ((0 : Nat) : Int)) 1
      rw [e1, e2]
      exact Heap.get?_push_size _ rfl
    · cases ef b hb
      exact J.fpOk (Nat.le_refl _) (J.hok.fresh (Nat.le_refl _))
  | false =>
    refine wpAny_pyIter_longrange (IsRange.new ..) sm ⟨_, _, _, _, H, rfl, J.kept (t' := tk) fun b o e => Heap.get?_push_of_some _ e, turn_big _ lo (hi - lo).toNat, ?_, fun b hb => ?_, q⟩
    · show IsLongIter _ _ (lo + ((0 : Nat) : Int) * 1) ((((hi - lo).toNat : Nat) : Int) - ((0 : Nat) : Int)) 1
      rw [e1, e2]
      exact Heap.get?_push_size _ rfl
    · cases ef b hb
      exact J.fpOk (Nat.le_refl _) (J.hok.fresh (Nat.le_refl _))
def iRngW (ta : TA) : TI := fun σ H R => ta σ H fun vs H1 => ∃ i j : Int, vs = [.int i, .int j] ∧ R (Itr i (j - i).toNat) H1
theorem pi_rangeW {a b : Expr} {ta : TA} {p pos : Pos} (hg : Gl X "range") (hm : X.mg "range" = none) (ha : PA X [a, b] ta) (hs : starEach [a, b] X.env = [(false, eval a X.env), (false, eval b X.env)] := by rfl) (hs2 : starEach [b] X.env = [(false, eval b X.env)] := by rfl) :
    PI X tg (.Call (.Name "range" p) [a, b] [] pos) (iRngW ta) := ⟨fun pins s σ H R I h => by
  refine PyProof.Rows.Call_ (ld_blt I hg hm PyProof.Rows.boot_range (PyProof.Rows.callWith_type1 (thn (ha.run pos pins s σ H _ I h) fun us s1 hu => ?_) (by rw [hs, hs2]) (by rw [hs2]; rfl)))
  obtain ⟨vs, H1, J, rv, i, j, e, q⟩ := hu
  subst e
  match us, rv with
  | [_, _], .cons ⟨t, r1⟩ (.cons ⟨t', r2⟩ .nil) =>
    cases r1
    cases r2
    exact call_range_2 (range_any J q)⟩
end
/-! ### C(e, .., k = v) -/
structure MadeN (P : Program) (w : World) (K : PySem.W.Frag) (mg : Str → Option Value) (base : Heap) (x : Str) (C : Addr) (ps ks : List Str) (n k : Nat) (sp : Sp) : Prop where
  ex : ∃ (f : Addr) (fd : FuncData) (g : List Value → List Value → List Value), mg x = some (.ref C) ∧ Mk K C f ∧ KBn K fd ps (n + 1) ks g (fun vs zs => vs ++ zs) ∧ FnOk P w K mg base CX0 k f fd ps sp
theorem pe_mkN {X : Cx} {C : Addr} {ps ks : List Str} {n k : Nat} {sp : Sp} {x : Str} {p pos : Pos} {e : Expr} {es : List Expr} {kws : List Keyword} {t tk : TA} (F : MadeN X.prog X.w X.K X.mg X.base x C ps ks n k sp) (hr : Room (k + 1) X.A) (hg : Gl X x) (ha : PA X (e :: es) t) (hkw : PK X kws tk)
    (hall : (backToKw pos (keywordEach kws X.env)).all (·.1.isSome) = true := by rfl) (hks : (backToKw pos (keywordEach kws X.env)).filterMap (·.1) = ks := by rfl)
    (hdb : (x == ("__debug__" : Str)) = false := by decide) (he : starEach (e :: es) X.env = (false, eval e X.env) :: starEach es X.env := by rfl)
    (hpl : ((backTo pos (starEach (e :: es) X.env)).any (·.1) || (backToKw pos (keywordEach kws X.env)).any (·.1.isNone)) = false := by rfl) : PE X (.Call (.Name x p) (e :: es) kws pos) (tMakeN C n ks.length sp (fun vs zs => vs ++ zs) E0 t tk) := by
  obtain ⟨f, fd, g, hm, M, hb, ok⟩ := F.ex
  exact pe_makeN M ok hr hg hm hb pass0 ha hkw hall hks hdb he hpl
theorem pe_fldK {X : Cx} {K : PySem.W.Frag} {e : Expr} {ta : TE} {f : Str} {pos : Pos} (he : PE X e ta) (hK : X.K = K) (hb : attributeBase e f X.env (eval e X.env) = eval e X.env) : PE X (.Attribute e f pos) (tFld K ta f) := by
  subst hK
  exact pe_fld he hb
/-! ### own operators that raise -/
def OpRS (X : Cx) (f : Value → Value → Sem Value) (r : L2.St → R2) : Prop :=
  ∀ (pins : List (Addr × Obj)) (s : Shared) (σ : L2.St) (H : Hp) (x y : V) (v u : Value) (Q : VK), Inv X pins σ H s → RelV x v → RelV y u → r σ x y H Q → wpAny (model X.prog X.w) X.A (f v u) (EP X pins σ Q) X.xe s
def tOpS (r : L2.St → R2) (ta tb : TE) : TE := fun σ H Q => ta σ H fun x H1 => tb σ H1 fun y H2 => r σ x y H2 Q
theorem pe_opS {X : Cx} {a b : Expr} {ta tb : TE} {pos : Pos} {op : Operator} {r : L2.St → R2} (ho : OpRS X (binaryOp op) r) (ha : PE X a ta) (hb : PE X b tb) : PE X (.BinOp a op b pos) (tOpS r ta tb) :=
  ⟨fun pins s σ H Q I h => wpAny_BinOp (binT ha hb I h fun v u s2 x y H2 J rx ry q => ho pins s2 σ H2 x y v u Q J rx ry q)⟩
def rOwnLX (C : Addr) (sp : Sp) (W : WX) : L2.St → R2 := fun σ x y H Q => ∃ a dx fs i, x = .ref a ∧ y = .int i ∧ H a = some (.ins C dx fs) ∧ sp [x, y] H Q (wAt W σ)
def rOwnRX (C : Addr) (sp : Sp) (W : WX) : L2.St → R2 := fun σ x y H Q => ∃ a dx fs i, y = .ref a ∧ x = .int i ∧ H a = some (.ins C dx fs) ∧ sp [y, x] H Q (wAt W σ)
structure OprLX (P : Program) (w : World) (K : PySem.W.Frag) (mg : Str → Option Value) (base : Heap) (C : Addr) (op : Operator) (ps : List Str) (k : Nat) (sp : Sp) : Prop where
  ex : ∃ (f : Addr) (fd : FuncData), OwnL K C op f ∧ Binds K fd ps [] ∧ FnOk P w K mg base (L2.CX P w) k f fd ps sp
structure OprRX (P : Program) (w : World) (K : PySem.W.Frag) (mg : Str → Option Value) (base : Heap) (C : Addr) (op : Operator) (ps : List Str) (k : Nat) (sp : Sp) : Prop where
  ex : ∃ (f : Addr) (fd : FuncData), OwnR K C op f ∧ Binds K fd ps [] ∧ FnOk P w K mg base (L2.CX P w) k f fd ps sp
section
variable {X : Cx} {C f : Addr} {ps : List Str} {k : Nat} {sp : Sp} {op : Operator} {W : WX}
theorem op_LX (F : OprLX X.prog X.w X.K X.mg X.base C op ps k sp) (tk : Takes X W) (hr : Room k X.A) : OpRS X (binaryOp op) (rOwnLX C sp W) := by
  rintro pins s σ H x y v u Q I rx ry ⟨a, dx, fs, i, rfl, rfl, ea, q⟩
  obtain ⟨f, fd, O, hb, ok⟩ := F.ex
  cases rx
  obtain ⟨t, rfl⟩ := ry
  obtain ⟨mA, O', _⟩ := ins_get I.hok ea
  obtain ⟨od, J, _⟩ := O'.look
  obtain ⟨m, Fr⟩ := I.fr
  obtain ⟨rc, hrc, hp⟩ := O.rr
  obtain ⟨fo, h1⟩ := O.i1
  obtain ⟨ro, h2⟩ := O.i2
  refine PySem.W.ksp_binT Fr I.mod.kin J rfl O.sf O.find O.fn hrc hp h1 h2 O.sub ?_
  refine thn (run_fnX (us := [.ref a, .int i t]) (vs := [.ref a, .int i]) ok hr hb .nil tk I (.cons rfl (.cons ⟨t, rfl⟩ .nil)) q) fun u' s' ⟨v', H', I', rv, hv⟩ => ?_
  exact relV_back rv ⟨v', H', I', rv, hv⟩
theorem op_RX (F : OprRX X.prog X.w X.K X.mg X.base C op ps k sp) (N : IntNo op) (tk : Takes X W) (hr : Room k X.A) : OpRS X (binaryOp op) (rOwnRX C sp W) := by
  rintro pins s σ H x y v u Q I rx ry ⟨a, dx, fs, i, rfl, rfl, ea, q⟩
  obtain ⟨f, fd, O, hb, ok⟩ := F.ex
  cases ry
  obtain ⟨t, rfl⟩ := rx
  obtain ⟨mA, O', _⟩ := ins_get I.hok ea
  obtain ⟨od, J, _⟩ := O'.look
  obtain ⟨m, Fr⟩ := I.fr
  obtain ⟨rc, hrc, hp⟩ := O.ll
  obtain ⟨idl, slot, dec⟩ := N.ex
  refine own_right Fr I.mod.kin J O.sf hrc hp O.find O.fn O.sub N.fills slot (fun Q' hq => dec O'.obj rfl hq) ?_
  refine thn (run_fnX (us := [.ref a, .int i t]) (vs := [.ref a, .int i]) ok hr hb .nil tk I (.cons rfl (.cons ⟨t, rfl⟩ .nil)) q) fun u' s' ⟨v', H', I', rv, hv⟩ => ?_
  exact relV_back rv ⟨v', H', I', rv, hv⟩
end

/-! ### o op p, both of one own class -/
section
open PySem.W PySem.Calls PyProof.Rows
theorem own_same {prog : Program} {w : World} {A : Around} {E : Value → Shared → Prop} {s : Shared} {K : Frag} {x C L f : Addr} {h₀ : Heap} {m : Str → Option Value} {ox : Obj} {od : Option Obj} {v : Value} {op : Operator} {Q : Value → Shared → Prop}
    (F : Fr h₀ L s.heap m) (X₀ : K.In h₀) (I : InstAt s.heap x ox C od) (hv : Looks (model prog w) s.heap (typeOf v) (.ref C)) (hc : selfFirst K C = true)
    (hs : findIn K (.ref C) (PySem.dunder op.info.2) = some (some (.ref f))) (hf : isFn K (.ref f) = true) (h : wpAny (model prog w) A (call (.ref f) [.ref x, v]) (PySem.W.CmpBack Q) E s) : wpAny (model prog w) A (binaryOp op (.ref x) v) Q E s := by
  have X := X₀.keeps F.keep
  obtain ⟨cd, rest, hcd, hm⟩ := ksp_first hc
  rcases hi : op.info with ⟨sym, nm'⟩
  rw [hi] at hs
  dsimp only at hs
  have one := ksp_try X I hs hf h
  obtain ⟨hh, g, d, tt, os⟩ := s
  have L3 : Looks (model prog w) hh (fillsNumberSlot (.ref C) nm') true := fills_K X hcd hm hs
  simp only [binaryOp, hi]
  refine wpAny_holding (wpAny_bind ?_)
  unfold binaryOp1
  refine wpAny_bind (I.type.at (wpAny_bind (hv.at (wpAny_bind (L3.at ?_)))))
  simp only [beq_self_eq_true, if_true, pure_bind, Bool.and_false, Bool.false_and, Bool.false_eq_true, if_false]
  refine wpAny_bind (wpAny_mono one (fun r s2 hr2 => ?_) fun _ _ e => e)
  obtain ⟨u, rfl, hq⟩ := hr2
  exact wpAny_pure (wpAny_pure hq)
end
structure OwnS (K : PySem.W.Frag) (C : Addr) (op : Operator) (f : Addr) : Prop where
  sf : PySem.W.selfFirst K C = true
  find : PySem.W.findIn K (.ref C) (PySem.dunder op.info.2) = some (some (.ref f))
  fn : PySem.W.isFn K (.ref f) = true
structure OprSX (P : Program) (w : World) (K : PySem.W.Frag) (mg : Str → Option Value) (base : Heap) (C : Addr) (op : Operator) (ps : List Str) (k : Nat) (sp : Sp) : Prop where
  ex : ∃ (f : Addr) (fd : FuncData), OwnS K C op f ∧ Binds K fd ps [] ∧ FnOk P w K mg base (L2.CX P w) k f fd ps sp
def rOwnSX (C : Addr) (sp : Sp) (W : WX) : L2.St → R2 := fun σ x y H Q => ∃ a dx fs b dy gs, x = .ref a ∧ y = .ref b ∧ H a = some (.ins C dx fs) ∧ H b = some (.ins C dy gs) ∧ sp [x, y] H Q (wAt W σ)
theorem op_SX {X : Cx} {C : Addr} {ps : List Str} {k : Nat} {sp : Sp} {op : Operator} {W : WX} (F : OprSX X.prog X.w X.K X.mg X.base C op ps k sp) (tk : Takes X W) (hr : Room k X.A) : OpRS X (binaryOp op) (rOwnSX C sp W) := by
  rintro pins s σ H x y v u Q I rx ry ⟨a, dx, fs, b, dy, gs, rfl, rfl, ea, eb, q⟩
  obtain ⟨f, fd, O, hb, ok⟩ := F.ex
  cases rx
  cases ry
  obtain ⟨mA, O', _⟩ := ins_get I.hok ea
  obtain ⟨od, J, _⟩ := O'.look
  obtain ⟨mB, O2, _⟩ := ins_get I.hok eb
  obtain ⟨od2, J2, _⟩ := O2.look
  obtain ⟨m, Fr⟩ := I.fr
  refine own_same Fr I.mod.kin J J2.type O.sf O.find O.fn ?_
  refine thn (run_fnX (us := [.ref a, .ref b]) (vs := [.ref a, .ref b]) ok hr hb .nil tk I (.cons rfl (.cons rfl .nil)) q) fun u' s' ⟨v', H', I', rv, hv⟩ => ?_
  exact relV_back rv ⟨v', H', I', rv, hv⟩

/-! ### C.m(..), m a staticmethod -/
structure SMth (P : Program) (w : World) (K : PySem.W.Frag) (mg : Str → Option Value) (base : Heap) (C : Addr) (m : Str) (ps : List Str) (k : Nat) (sp : Sp) : Prop where
  cr : ClX.CRead K C (.type "type")
  ex : ∃ (f p : Addr) (rest : List Value) (fd : FuncData), PySem.W.findCls K (.ref C) (.type "type") m = some (.get (.builtin "staticmethod.__get__") (.ref p) .none (.ref C)) ∧ PySem.W.recIn K p "staticmethod" = some (.ref f :: rest) ∧ PySem.W.keepIn K (.ref f) = true ∧ Binds K fd ps [] ∧ FnOk P w K mg base CX0 k f fd ps sp
def tSMth (C : Addr) (sp : Sp) (to : TE) (t : TA) : TE := fun σ H Q => to σ H fun x H1 => x = .ref C ∧ t σ H1 fun vs H2 => sp (vs ++ []) H2 Q E0
theorem pe_smth {X : Cx} {C : Addr} {m : Str} {ps : List Str} {k : Nat} {sp : Sp} {o e : Expr} {es : List Expr} {to : TE} {t : TA} {pos apos : Pos} {pl : Sem Bool} (F : SMth X.prog X.w X.K X.mg X.base C m ps k sp) (hr : Room k X.A) (ho : PE X o to) (ha : PA X (e :: es) t)
    (hst : starEach (e :: es) X.env = (false, eval e X.env) :: starEach es X.env := by rfl) (hpl : (backTo pos (starEach es X.env)).any (·.1) = false := by rfl)
    (ht : eval (.Call (.Attribute o m apos) (e :: es) [] pos) X.env = (do
      let ov ← eval o X.env; standAt apos.atName
      let (f, first) ← holding [ov] (getMethod ov m pl)
      callWith pos f first (backTo pos (starEach (e :: es) X.env)) (backToKw pos (keywordEach [] X.env))) := by rfl) :
    PE X (.Call (.Attribute o m apos) (e :: es) [] pos) (tSMth C sp to t) := ⟨fun pins s σ H Q I h => by
  obtain ⟨f, p, rest, fd, hfc, hrc, hk, hb, ok⟩ := F.ex
  refine PySem.W.methodCall_KW (pl := pl) (thn (ho.run pins s σ H _ I h) fun u s1 hs => ?_) ht
  obtain ⟨x, H1, J, rx, ex, q⟩ := hs
  subst ex
  cases rx
  refine PySem.W.method_cls J.kIn F.cr.ga (PySem.W.cls_bind J.kIn F.cr.rd hfc (wpAny_call (PySem.W.sm_get (s := { s1 with toks := s1.toks + 1 }) J.kIn hrc ?_)))
  refine PySem.W.handed_on rfl ?_
  have J' := J.tok (s1.toks + 1)
  refine PySem.W.callWith_K (h₀ := X.base) J.ok.mod.kin hk (thn (ha.run pos pins _ σ H1 _ J' q) fun us s2 hs => ?_) hst hpl
  obtain ⟨vs, H2, J2, r, q2⟩ := hs
  exact ⟨J2.kIn, run_fn ok hr hb .nil pass0 J2 r q2⟩⟩

/-! ### x not in o, by an own __contains__ -/
def rOwnNin (C : Addr) (sp : Sp) : R2 := fun x y H Q => ∃ a dx fs, y = .ref a ∧ H a = some (.ins C dx fs) ∧ sp [y, x] H (fun v H' => ∃ c, v = .bl c ∧ Q (.bl (!c)) H') E0
theorem op_notin {X : Cx} {C : Addr} {ps : List Str} {k : Nat} {sp : Sp} (F : Opr X.prog X.w X.K X.mg X.base C "__contains__" ps k sp) (hr : Room k X.A) : OpR X (compareOp .NotIn) (rOwnNin C sp) := by
  rintro pins s σ H x y v u Q I rx ry ⟨a, dx, fs, rfl, ea, q⟩
  obtain ⟨f, fd, O, hb, ok⟩ := F.ex
  cases ry
  obtain ⟨mA, O', _⟩ := ins_get I.hok ea
  obtain ⟨od, J, _⟩ := O'.look
  obtain ⟨m, Fr⟩ := I.fr
  refine PySem.W.notIn_K Fr I.mod.kin J O.find O.fn ?_
  refine thn (run_fn (us := [.ref a, v]) (vs := [.ref a, x]) ok hr hb .nil pass0 I (.cons rfl (.cons rx .nil)) q) fun u' s' hs => ?_
  obtain ⟨v', H', I', rv, b, rfl, q'⟩ := hs
  cases rv
  exact wpAny_truthy_bool ⟨.bl (!b), H', I', rfl, q'⟩

/-! ### a caught error of an own class: isinstance -/
/-- what the class D must say, so that isinstance asks its instances rightly -/
structure XIs (K : PySem.W.Frag) (D : Addr) : Prop where
  x : XfC K D
  cl : (PySem.W.clsIn K D).isSome = true
  ha : PySem.W.findIn K (.ref D) "__class__" = some (some (.builtin "object.__class__"))
  hn : PySem.W.specialIn K (.builtin "object.__class__") "__get__" = some (some (.builtin "getset_descriptor.__get__"))
  ht : PySem.W.takesIn K (.builtin "object.__class__") = some true
  hm : PySem.W.mroIn K D (.type "object") = some true
def rIsX (K : PySem.W.Frag) (a : Addr) (cls : Value) (d : Option Addr) (D : Addr) : List V → Hp → VK → Prop := fun xs H Q => ∃ (c : V) (cv : Value) (b : Bool) (dd : Addr) (fs : List (Str × V)), xs = [.ref a, c] ∧ cls = .ref D ∧ d = some dd ∧ H dd = some (.xd fs) ∧
  (∀ u, RelV c u → u = cv) ∧ PySem.W.kitOne K (.ref D) cv = some b ∧ Q (.bl b) H
theorem call_isX {X : Cx} {a D : Addr} {oe : Obj} {cls : Value} {d : Option Addr} {pn : List (Addr × Obj)} (N : XIs X.K D) (hz : Zc cls d oe) (hf : ∃ vs, oe.data = .fields vs) : CallR (X.suite a ((a, oe) :: pn)) (.builtin "isinstance") (rIsX X.K a cls d D) := by
  rintro pins s σ H xs us Q I r ⟨c, cv, b, dd, fs, rfl, rfl, rfl, ed, hcv, e, q⟩
  match us, r with
  | [u0, u1], .cons rx (.cons rt .nil) =>
    cases rx
    have ec := hcv _ rt
    subst ec
    have hget := (I.pin (a, oe) (List.mem_append.mpr (.inl List.mem_cons_self))).1
    obtain ⟨vs, hv⟩ := hf
    have hx : ObjOk X.prog X.w H s.heap dd (.xd fs) := I.hok dd _ ed
    obtain ⟨mA, hns, hrel⟩ := hx
    obtain ⟨od, ho, hl⟩ := lookIn_ns hns
    have J : PySem.W.InstAt s.heap a oe D (some od) := ⟨hget, hz.1, by unfold PySem.W.notCls; rw [hv] <;> rfl, by rw [hz.2]; exact ho⟩
    exact PySem.W.kia_one (PySem.W.kitx_exc N.cl N.x.ga N.x.gg N.x.exC N.ha N.hn N.ht N.hm) I.kIn J e (fun z => nomatch z) fun tk => ⟨.bl b, H, I.kept (t' := tk) fun _ _ z => z, rfl, q⟩
/-- the clause's test: the very class -/
theorem exm_own {K : PySem.W.Frag} {C : Addr} {cls : Value} {b : Bool} (h1 : PySem.W.subIn K (.ref C) (.type "BaseException") = some true) (hc : (PySem.W.clsIn K C).isSome = true) (ht : PySem.W.typeIn K (.ref C) = some (.type "type")) (h4 : PySem.W.subIn K cls (.ref C) = some b) :
    PySem.W.exmOne K cls (.ref C) = some b := by
  have e1 : (PySem.W.subIn K (.ref C) (.type "BaseException") == some true) = true := by rw [h1] <;> rfl
  have e2 : ((PySem.W.clsIn K C).isSome && PySem.W.typeIn K (.ref C) == some (.type "type")) = true := by rw [hc, ht] <;> rfl
  show (if (PySem.W.subIn K (.ref C) (.type "BaseException") == some true) = true then (if ((PySem.W.clsIn K C).isSome && PySem.W.typeIn K (.ref C) == some (.type "type")) = true then PySem.W.subIn K cls (.ref C) else none) else none) = some b
  rw [if_pos e1, if_pos e2, h4]
/-- all that is used of an own error class -/
structure ETxt (K : PySem.W.Frag) (mg : Str → Option Value) (x : Str) (C : Addr) : Prop where
  g : mg x = some (.ref C)
  oex : OexC K C
  is : XIs K C
  te : PySem.W.exmOne K (.ref C) (.ref C) = some true
theorem kit_xC {K : PySem.W.Frag} {t : Value} {D : Addr} {b : Bool} (h1 : PySem.W.isClsIn K D = true) (h2 : PySem.W.typeIn K (.ref D) = some (.type "type")) (h3 : PySem.W.subIn K t (.ref D) = some b) : (t = .ref D → b = true) → PySem.W.kitOne K t (.ref D) = some b := fun hb => by
  unfold PySem.W.kitOne
  by_cases e : t = .ref D
  · rw [if_pos (beq_iff_eq.mpr e), hb e]
  · rw [if_neg (fun z => e (beq_iff_eq.mp z))]
    have q : ((PySem.W.clsIn K D).isSome && PySem.W.typeIn K (.ref D) == some (.type "type")) = true := by
      rw [h2, show (PySem.W.clsIn K D).isSome = true from h1]
      rfl
    show (if ((PySem.W.clsIn K D).isSome && PySem.W.typeIn K (.ref D) == some (.type "type")) = true then PySem.W.subIn K t (.ref D) else none) = some b
    rw [if_pos q, h3]
theorem kit_xT {K : PySem.W.Frag} {C : Addr} {b : Bool} (h3 : PySem.W.subIn K (.ref C) (.type "ValueError") = some b) : PySem.W.kitOne K (.ref C) (.type "ValueError") = some b := by
  have km : PySem.W.kitMeta "ValueError" = true := by decide +kernel
  have e : PySem.W.kitCls K (.ref C) (.type "ValueError") = some b := by
    show (if PySem.W.kitMeta "ValueError" = true then PySem.W.subIn K (.ref C) (.type "ValueError") else none) = some b
    rw [if_pos km]
    exact h3
  show (if ((Value.ref C) == (.type "ValueError")) = true then some true else PySem.W.kitCls K (.ref C) (.type "ValueError")) = some b
  have ne : ¬ ((Value.ref C == .type "ValueError") = true) := fun z => by cases beq_iff_eq.mp z
  rw [if_neg ne]
  exact e
/-! ### what such an __init__ leaves, and raise -/
/-- __init__(self, x): self.f = x -/
def spErr1 (C : Addr) (f : Str) (ok : V → Prop) : Sp := fun vs H Q _ => ∃ (a : Addr) (v : V), vs = [.ref a, v] ∧ H a = some (exo a C none) ∧ ok v ∧ ∀ d, H d = none → d ≠ a → Q .non (upd (upd H d (exd d [(f, v)])) a (exo a C (some d)))
/-- __init__(self, x, y): self.f = x; self.g = y -/
def spErr2 (C : Addr) (f g : Str) (ok : V → V → Prop) : Sp := fun vs H Q _ => ∃ (a : Addr) (v u : V), vs = [.ref a, v, u] ∧ H a = some (exo a C none) ∧ ok v u ∧ ∀ d, H d = none → d ≠ a → Q .non (upd (upd (upd H d (exd d [(f, v)])) a (exo a C (some d))) d (exd d [(g, u), (f, v)]))
section
variable {K : PySem.W.Frag} {H : Hp} {C : Addr} {f g : Str}
/-- an error with one field is made -/
theorem rErr1 {ok : V → Prop} {v : V} {R : XK} (o : ok v) (h : ∀ d H', H d = none → Same H H' → H' d = some (.xd [(f, v)]) → R (.ref C) (some d) H') :
    [v].length ≤ 1000 ∧ ∀ a, H a = none → spErr1 C f ok (.ref a :: ([v] ++ [])) (upd H a (exo a C none)) (fun z H2 => z = .non ∧ ∃ (d : Addr) (fs : List (Str × V)), H2 a = some (exo a C (some d)) ∧ H2 d = some (exd d fs) ∧ H d = none ∧ R (.ref C) (some d) (upd (del H2 a) d (.xd fs))) (fun _ _ _ => False) := by
  refine ⟨(by show 1 ≤ 1000; decide), fun a ha => ⟨a, v, rfl, upd_same, o, fun d hd ne => ⟨rfl, d, _, upd_same, ?_, ?_, h _ _ ?_ (fun b u e => ?_) upd_same⟩⟩⟩
  · rw [upd_ne ne, upd_same]
  · rwa [upd_ne ne] at hd
  · rwa [upd_ne ne] at hd
  · have hd' : H d = none := by rwa [upd_ne ne] at hd
    have nd : b ≠ d := ne_of_none e hd'
    have na : b ≠ a := ne_of_none e ha
    rw [upd_ne nd, del_ne na, upd_ne na, upd_ne nd, upd_ne na, e]
theorem rErr2 {ok : V → V → Prop} {v u : V} {R : XK} (o : ok v u) (h : ∀ d H', H d = none → Same H H' → H' d = some (.xd [(g, u), (f, v)]) → R (.ref C) (some d) H') :
    [v, u].length ≤ 1000 ∧ ∀ a, H a = none → spErr2 C f g ok (.ref a :: ([v, u] ++ [])) (upd H a (exo a C none)) (fun z H2 => z = .non ∧ ∃ (d : Addr) (fs : List (Str × V)), H2 a = some (exo a C (some d)) ∧ H2 d = some (exd d fs) ∧ H d = none ∧ R (.ref C) (some d) (upd (del H2 a) d (.xd fs))) (fun _ _ _ => False) := by
  refine ⟨(by show 2 ≤ 1000; decide), fun a ha => ⟨a, v, u, rfl, upd_same, o, fun d hd ne => ⟨rfl, d, _, ?_, upd_same, ?_, h _ _ ?_ (fun b u e => ?_) upd_same⟩⟩⟩
  · rw [upd_ne (Ne.symm ne), upd_same]
  · rwa [upd_ne ne] at hd
  · rwa [upd_ne ne] at hd
  · have hd' : H d = none := by rwa [upd_ne ne] at hd
    have nd : b ≠ d := ne_of_none e hd'
    have na : b ≠ a := ne_of_none e ha
    rw [upd_ne nd, del_ne na, upd_ne nd, upd_ne na, upd_ne nd, upd_ne na, e]
theorem lk_hd {f : Str} {v : V} {fs : List (Str × V)} : ((f, v) :: fs).lookup f = some v := by simp [List.lookup]
theorem lk_tl {f g : Str} {v u : V} {fs : List (Str × V)} (n : (f == g) = false) (h : fs.lookup f = some v) : ((g, u) :: fs).lookup f = some v := by simp [List.lookup, n, h]
theorem rCat_ {l b : Addr} {xs zs : List V} {Q : VK} (h1 : H l = some (.lst xs)) (h2 : H b = some (.lst zs)) (hz : xs.length + zs.length ≤ sizeLine) (h : ∀ p, H p = none → Q (.ref p) (upd H p (.lst (xs ++ zs)))) : rCat (.ref l) (.ref b) H Q := ⟨l, b, xs, zs, rfl, rfl, h1, h2, hz, h⟩
/-- a tuple is unpacked -/
theorem rTupU {a : Addr} {n : Nat} {xs : List V} {t : TGs} {σ : L2.St} {R : L2.St → Hp → Prop} (h : SqT K H a xs) (l : xs.length = n) (q : t xs σ H R) : gTup K n t (.ref a) σ H R := ⟨a, xs, rfl, h, l, q⟩
/-- the clause takes it -/
theorem rTake {c cls : Value} {i : Nat} {ts : Addr → Value → Option Addr → TS} {Wout : WX} {D : Ends} {σ : L2.St} {d : Option Addr} (te : PySem.W.exmOne K cls c = some true)
    (h : ∀ a, H a = none → ts a cls d { nx := fun σ' H' => D.nx (σ'.set i none) H', rt := D.rt, bk := fun σ' H' => D.bk (σ'.set i none) H', ct := fun σ' H' => D.ct (σ'.set i none) H' } (σ.set i (some (.ref a))) H) : wAs K c i ts Wout D cls d σ H :=
  ⟨true, te, fun _ => h, fun z => nomatch z⟩
/-- e.f of the caught error -/
theorem rXf {a dd : Addr} {fs : List (Str × V)} {v : V} {R : V → Prop} (hd : H dd = some (.xd fs)) (l : fs.lookup f = some v) (r : R v) :
    (V.ref a : V) = .ref a ∧ (Value.ref C : Value) = .ref C ∧ ∃ (d' : Addr) (fs : List (Str × V)) (v : V), some dd = some d' ∧ H d' = some (.xd fs) ∧ fs.lookup f = some v ∧ R v := ⟨rfl, rfl, dd, fs, v, rfl, hd, l, r⟩
theorem rIsX_ {c : V} {cv : Value} {b : Bool} {a dd D : Addr} {fs : List (Str × V)} {Q : VK} (hd : H dd = some (.xd fs)) (hc : ∀ u, RelV c u → u = cv) (k : PySem.W.kitOne K (.ref D) cv = some b) (q : Q (.bl b) H) : rIsX K a (.ref D) (some dd) D [.ref a, c] H Q :=
  ⟨c, cv, b, dd, fs, rfl, rfl, rfl, hd, hc, k, q⟩
theorem rIsXC {E : Addr} {b : Bool} {a dd D : Addr} {fs : List (Str × V)} {Q : VK} (hd : H dd = some (.xd fs)) (k : PySem.W.kitOne K (.ref D) (.ref E) = some b) (q : Q (.bl b) H) : rIsX K a (.ref D) (some dd) D [.ref a, .ref E] H Q :=
  rIsX_ hd (fun _ h => h) k q
theorem rIsXT {T : String} {b : Bool} {a dd D : Addr} {fs : List (Str × V)} {Q : VK} (hd : H dd = some (.xd fs)) (k : PySem.W.kitOne K (.ref D) (.type T) = some b) (q : Q (.bl b) H) : rIsX K a (.ref D) (some dd) D [.ref a, .ty T] H Q :=
  rIsX_ hd (fun _ h => h) k q
end
/-- a loop over range(i, j) -/
theorem forW {D : Ends} {σ : L2.St} {H : Hp} {g : TG} {tb : TS} {i j : Int} (n : Nat) (e : (j - i).toNat = n) (Pv : Nat → L2.St → Hp → Prop) (h0 : Pv 0 σ H)
    (hs : ∀ k σ H, k < n → Pv k σ H → g (.int (i + (k : Int))) σ H fun σ2 H2 => tb ⟨Pv (k + 1), D.rt, D.nx, Pv (k + 1)⟩ σ2 H2) (hd : ∀ σ H, Pv n σ H → D.nx σ H) :
    ∃ i' j', [V.int i, V.int j] = [V.int i', V.int j'] ∧ ∃ W : Nat → Nat → L2.St → Hp → Prop, (∃ m, W 0 m σ H) ∧ ∀ k m σ H, W k m σ H →
      ((Itr i' (j' - i').toNat).stop k H ∧ D.nx σ H) ∨ ((Itr i' (j' - i').toNat).go k H ∧ ∃ N : L2.St → Hp → Prop, (∀ σ' H', N σ' H' → ∃ m', m' < m ∧ W (k + 1) m' σ' H') ∧ ∀ x H', (Itr i' (j' - i').toNat).yld k H x H' → g x σ H' fun σ2 H2 => tb { D with nx := N, ct := N, bk := D.nx } σ2 H2) := by
  subst e
  exact ⟨i, j, rfl, for_range (lo := i) (n := (j - i).toNat) Pv h0 hs hd⟩
theorem rMin2 {i j : Int} {H : Hp} {Q : VK} (h : Q (.int (if j < i then j else i)) H) : ∃ i' j', [V.int i, V.int j] = [V.int i', V.int j'] ∧ Q (.int (if j' < i' then j' else i')) H := ⟨i, j, rfl, h⟩
section
variable {D : Ends} {σ : L2.St} {H : Hp} {Q : VK} {sp : Sp} {dvs : List V} {W : WX} {t : TA} {ta tb te : TE} {C : Addr} {R : XK} {K : PySem.W.Frag} {f m : Str}
instance : Rd (tCallX sp dvs W t σ H Q) (t σ H fun vs H1 => sp (vs ++ dvs) H1 Q (wAt W σ)) := ⟨fun h => h⟩
instance : Rd (tMakeX C sp dvs W t σ H Q) (t σ H fun vs H1 => ∀ x dx, H1 x = none → H1 dx = none → dx ≠ x →
  sp (.ref x :: (vs ++ dvs)) (upd (upd H1 dx (.own x)) x (.ins C dx [])) (fun v H2 => v = .non ∧ Q (.ref x) H2) (wAt W σ)) := ⟨fun h => h⟩
instance : Rd (tMethX C m sp dvs W ta t σ H Q) (ta σ H fun x H1 => ∃ a dx fs, x = .ref a ∧ H1 a = some (.ins C dx fs) ∧ fs.lookup m = none ∧ t σ H1 fun vs H2 => sp (x :: (vs ++ dvs)) H2 Q (wAt W σ)) := ⟨fun h => h⟩
instance {to : TE} : Rd (tSMth C sp to t σ H Q) (to σ H fun x H1 => x = .ref C ∧ t σ H1 fun vs H2 => sp (vs ++ []) H2 Q E0) := ⟨fun h => h⟩
instance {r : L2.St → R2} : Rd (tOpS r ta tb σ H Q) (ta σ H fun x H1 => tb σ H1 fun y H2 => r σ x y H2 Q) := ⟨fun h => h⟩
instance : Rd (tMkO C sp dvs t σ H R) (t σ H fun vs H1 => vs.length ≤ 1000 ∧ ∀ a, H1 a = none → sp (.ref a :: (vs ++ dvs)) (upd H1 a (exo a C none))
  (fun v H2 => v = .non ∧ ∃ (d : Addr) (fs : List (Str × V)), H2 a = some (exo a C (some d)) ∧ H2 d = some (exd d fs) ∧ H1 d = none ∧ R (.ref C) (some d) (upd (del H2 a) d (.xd fs))) (fun _ _ _ => False)) := ⟨fun h => h⟩
instance : Rd (tVeI K t σ H Q) (t σ H fun vs H1 => ∃ (a C : Addr) (ws : List V), vs = .ref a :: ws ∧ ws.length ≤ 1000 ∧ OexC K C ∧ H1 a = some (exo a C none) ∧ Q .non H1) := ⟨fun h => h⟩
instance : Rd (tOst K f ta te D σ H) (te σ H fun y H1 => ta σ H1 fun x H2 => ∃ a C : Addr, x = .ref a ∧ OexC K C ∧ PySem.W.findIn K (.ref C) f = some none ∧
  ((H2 a = some (exo a C none) ∧ ∀ dx, H2 dx = none → dx ≠ a → D.nx σ (upd (upd H2 dx (exd dx [(f, y)])) a (exo a C (some dx)))) ∨
    ∃ (dx : Addr) (fs : List (Str × V)), H2 a = some (exo a C (some dx)) ∧ H2 dx = some (exd dx fs) ∧ fs.length ≤ 900 ∧ D.nx σ (upd H2 dx (exd dx ((f, y) :: fs))))) := ⟨fun h => h⟩
instance {a : Addr} {cls : Value} {d : Option Addr} : Rd (tXf a cls d C f te σ H Q) (te σ H fun x H1 => x = .ref a ∧ cls = .ref C ∧ ∃ (dd : Addr) (fs : List (Str × V)) (v : V), d = some dd ∧ H1 dd = some (.xd fs) ∧ fs.lookup f = some v ∧ Q v H1) := ⟨fun h => h⟩
instance {n m : Nat} {gV : List V → List V → List V} {E : XK} {tk : TA} : Rd (tMakeN C n m sp gV E t tk σ H Q) (t σ H fun vs H1 => tk σ H1 fun zs H2 => vs.length = n ∧ zs.length = m ∧
  ∀ x dx, H2 x = none → H2 dx = none → dx ≠ x → sp (gV (.ref x :: vs) zs) (upd (upd H2 dx (.own x)) x (.ins C dx [])) (fun v H3 => v = .non ∧ Q (.ref x) H3) E) := ⟨fun h => h⟩
instance {i j : Nat} : Rd (tPar i j t D σ H) (t σ H fun vs H1 => ∃ v w, vs = [v, w] ∧ D.nx ((σ.set i (some v)).set j (some w)) H1) := ⟨fun h => h⟩
instance {x y : V} {R : V → V → Prop} : Rd (∃ v w, [x, y] = [v, w] ∧ R v w) (R x y) := ⟨fun h => ⟨x, y, rfl, h⟩⟩
instance {QI : It → Hp → Prop} : Rd (iRngW t σ H QI) (t σ H fun vs H1 => ∃ i j : Int, vs = [.int i, .int j] ∧ QI (Itr i (j - i).toNat) H1) := ⟨fun h => h⟩
instance : Rd (tRevL K te σ H Q) (te σ H fun x H1 => ∃ a xs, x = .ref a ∧ SqL K H1 a xs ∧ ∀ p, H1 p = none → Q (.ref p) (upd H1 p (.lst xs.reverse))) := ⟨fun h => h⟩
instance {y : V} {ys : List V} {S : V → List V → Prop} : Rd (∃ v r, (y :: ys) = v :: r ∧ S v r) (S y ys) := ⟨fun h => ⟨y, ys, rfl, h⟩⟩
instance {R : Prop} : Rd (([] : List V) = [] ∧ R) R := ⟨fun h => ⟨rfl, h⟩⟩
instance {tg : TG} {u : TGs} {vs : List V} {QS : L2.St → Hp → Prop} : Rd (gCons tg u vs σ H QS) (∃ v r, vs = v :: r ∧ tg v σ H fun σ' H' => u r σ' H' QS) := ⟨fun h => h⟩
instance {vs : List V} {QS : L2.St → Hp → Prop} : Rd (gNil vs σ H QS) (vs = [] ∧ QS σ H) := ⟨fun h => h⟩
instance {d : Option Addr} {cls : Value} : Rd (wAt W σ cls d H) (W cls d σ H) := ⟨fun h => h⟩
end
section
variable {σ τ : L2.St} {H : Hp} {g : TG} {tt : TT} {te : TE} {vs : List Nat}
/-- over a tuple that stands still -/
theorem lcT {K : PySem.W.Frag} {a : Addr} {xs : List V} {R : Addr → Hp → Prop} (ew : wipe σ vs = τ) (hx : SqT K H a xs)
    (h : ∀ D, H D = none → ∃ Pv : Nat → Hp → Prop, Pv 0 (upd H D (.lst [])) ∧ (∀ i H', i ≤ xs.length → Pv i H' → SqT K H' a xs) ∧
      (∀ i x H', xs[i]? = some x → Pv i H' → g x τ H' fun σ2 H2 => wipe σ2 vs = τ ∧ tt σ2 H2 fun b H3 =>
        if b = true then te σ2 H3 fun y H4 => ∃ acc, H4 D = some (.lst acc) ∧ acc.length < sizeLine ∧ Pv (i + 1) (upd H4 D (.lst (acc ++ [y]))) else Pv (i + 1) H3) ∧ ∀ H', Pv xs.length H' → R D H') :
    ∃ a', V.ref a = V.ref a' ∧ (∃ xs, SqT K H a' xs) ∧ ∀ D, H D = none → ∃ W : Nat → Nat → Hp → Prop, (∃ m, W 0 m (upd H D (.lst []))) ∧ ∀ i m H, W i m H →
      ((Itt K a').stop i H ∧ R D H) ∨ ((Itt K a').go i H ∧ ∃ Nx : Hp → Prop, (∀ H', Nx H' → ∃ m', m' < m ∧ W (i + 1) m' H') ∧ ∀ x H', (Itt K a').yld i H x H' → g x (wipe σ vs) H' fun σ2 H2 => wipe σ2 vs = wipe σ vs ∧ tt σ2 H2 fun b H3 =>
        if b = true then te σ2 H3 fun y H4 => ∃ acc, H4 D = some (.lst acc) ∧ acc.length < sizeLine ∧ Nx (upd H4 D (.lst (acc ++ [y]))) else Nx H3) := by
  subst ew
  refine ⟨a, rfl, ⟨xs, hx⟩, fun D hD => ?_⟩
  obtain ⟨Pv, h0, hl, hs, hd⟩ := h D hD
  exact lc_tup Pv h0 hl hs hd
end
end Bar

set_option linter.all false
set_option maxRecDepth 100000
open PySem L2 Bar
namespace Bar
theorem meets_enumT (t : Addr) (items : Array Value) : Meets (Builtin.«enumerate.__new__» { pos := [.type "enumerate", .ref t] }) fun _ R s => s.heap.IsTuple t items ∧
    R (.ok (.ret (.ref (s.heap.push { cls := .type "tuple_iterator", data := .fields #[.ref t, .int 0 0] }).objs.size)))
      { s with heap := (s.heap.push { cls := .type "tuple_iterator", data := .fields #[.ref t, .int 0 0] }).push { cls := .type "enumerate", data := .fields #[.none, .bool false, .ref s.heap.objs.size, rawInt 0, .none, .none] } } :=
  Meets.of_wp fun prog w A R s h => by
  obtain ⟨hp, g, d, tk, os⟩ := s
  obtain ⟨hL, h⟩ := h
  refine wpAny_bind (wpAny_bind (wpAny_pure (wpAny_ite_false rfl (wpAny_bind (wpAny_of_eq sub_enumerate (wpAny_ite_false rfl (wpAny_pure (wpAny_ite_true rfl ?_))))))))
  refine wpAny_bind (wpAny_bind (wpAny_stack_any fun st => wpAny_pure ?_))
  have fin : ∀ {E}, wpAny (model prog w) A.in1 (do
      let it ← Builtin.SmallTypes.newRecord (.type "enumerate") (Builtin.SmallTypes.ownedTupleFields ++ [.ref hp.objs.size, rawInt 0, .none, .none])
      ret it) (fun fin s' => ∃ v, fin = Fin.done (Flow.ret v) ∧ R (.ok (.ret v)) s') E { heap := hp.push { cls := .type "tuple_iterator", data := .fields #[.ref t, .int 0 0] }, gens := g, drawn := d, toks := tk, os := os } := by
    intro E
    refine wpAny_bind ?_
    show wpAny _ _ (newObj (.type "enumerate") (.fields (Builtin.SmallTypes.ownedTupleFields ++ [Value.ref hp.objs.size, rawInt 0, .none, .none]).toArray)) _ _ _
    unfold newObj
    dsimp only
    refine wpAny_ite_false rfl ?_

    exact wpAny_bind (wpAny_alloc' (wpAny_pure (wpAny_pure ⟨_, rfl, h⟩)))
  split
  · next c tl kw p tl2 hst =>
    cases q : (c == Value.type "enumerate") with
    | false =>
      refine wpAny_ite_false rfl (wpAny_bind (show wpAny _ _ (pure (Value.ref t, (none : Option Value))) _ _ _ from wpAny_pure ?_))
      exact wpAny_bind (wpAny_pyIter_tuple hL fin)
    | true =>
      refine wpAny_ite_true rfl (wpAny_bind (show wpAny _ _ (pure (Value.ref t, (none : Option Value))) _ _ _ from wpAny_pure ?_))
      exact wpAny_bind (wpAny_pyIter_tuple hL fin)
  · refine wpAny_ite_false rfl (wpAny_bind (show wpAny _ _ (pure (Value.ref t, (none : Option Value))) _ _ _ from wpAny_pure ?_))
    exact wpAny_bind (wpAny_pyIter_tuple hL fin)
theorem nextOf_tuple_item {prog : Program} {w : World} {A : Around} {E : Value → Shared → Prop} {s : Shared} {it l : Addr} {i : Nat} {items : Array Value} {x : Value} {Q : Value → Shared → Prop} (hit : s.heap.IsTupleIter it l i) (hl : s.heap.IsTuple l items) (hx : items[i]? = some x)
    (hQ : ∀ h' : Heap, h'.IsTupleIter it l (i + 1) → Heap.SameBut it s.heap h' → Q x { s with heap := h' }) : wpAny (model prog w) A (Builtin.SmallTypes.nextOf (.ref it)) Q E s := by
  obtain ⟨o, ho, hc, hd⟩ := id hit
  obtain ⟨ol, hol, hcl, nl, hdl⟩ := hl
  show wpAny _ _ (do
    let r ← callSpecial? (.ref it) "__next__"
    match r with
    | some v => pure v
    | none => _) _ _ _
  refine wpAny_bind (wpAny_callSpecial?_slot hit.typeIs F.slot_tuple_iterator_next (wpAny_call_entry F.slot_tuple_iterator_next hit.typeIs F.entry_tuple_iterator_next ?_ (F.args_tuple_iterator_next_1 _)))
  refine wpAny_bind (show wpAny _ _ (pure (Value.ref it, ([] : List Value))) _ _ _ from wpAny_pure ?_)
  refine wpAny_bind (wpAny_field ho hd rfl ?_)
  refine wpAny_ite_false rfl ?_
  refine wpAny_bind (wpAny_field ho hd rfl ?_)
  refine wpAny_bind (wpAny_seqItems hol hdl ?_)
  simp only [Int.toNat_natCast, hx]
  refine wpAny_bind (wpAny_setField ho hd (show 1 < 2 by decide) ?_)
  refine wpAny_pure ⟨x, rfl, wpAny_pure (hQ _ ⟨_, Heap.get?_update_self _ ho (Obj.isFreed_of_fields (Obj.data_mapFields hd _)), (Obj.cls_mapFields o _).trans hc, (Obj.data_mapFields hd _).trans rfl⟩ (Heap.SameBut.update _ _ _))⟩
theorem nextOf_tuple_end {prog : Program} {w : World} {A : Around} {E : Value → Shared → Prop} {s : Shared} {it l : Addr} {i : Nat} {items : Array Value} {Q : Value → Shared → Prop} (hh : A.handled = none) (hit : s.heap.IsTupleIter it l i) (hl : s.heap.IsTuple l items) (hx : items[i]? = none)
    (hE : ∀ (h' : Heap) (e : Addr), Heap.ExtBut it s.heap h' → (∃ o, h'.get? e = some o ∧ o.cls = Value.type "StopIteration") → E (.ref e) { s with heap := h' }) : wpAny (model prog w) A (Builtin.SmallTypes.nextOf (.ref it)) Q E s := by
  obtain ⟨o, ho, hc, hd⟩ := id hit
  obtain ⟨ol, hol, hcl, nl, hdl⟩ := hl
  show wpAny _ _ (do
    let r ← callSpecial? (.ref it) "__next__"
    match r with
    | some v => pure v
    | none => _) _ _ _
  refine wpAny_bind (wpAny_callSpecial?_slot hit.typeIs F.slot_tuple_iterator_next (wpAny_call_entry F.slot_tuple_iterator_next hit.typeIs F.entry_tuple_iterator_next ?_ (F.args_tuple_iterator_next_1 _)))
  refine wpAny_bind (show wpAny _ _ (pure (Value.ref it, ([] : List Value))) _ _ _ from wpAny_pure ?_)
  refine wpAny_bind (wpAny_field ho hd rfl ?_)
  refine wpAny_ite_false rfl ?_
  refine wpAny_bind (wpAny_field ho hd rfl ?_)
  refine wpAny_bind (wpAny_seqItems hol hdl ?_)
  simp only [Int.toNat_natCast, hx]

  refine wpAny_bind (wpAny_rule ?_)
  refine wpAny_bind (wpAny_setField ho hd (show 0 < 2 by decide) ?_)
  unfold Builtin.SmallTypes.stopIteration newExc raiseNew
  refine wpAny_bind ?_
  refine wpAny_bind (wpAny_newObj_type ?_ (by show 0 ≤ _; omega))
  refine wpAny_bind (wpAny_of_eq (show firstArgMember (.type "StopIteration") [] = pure Value.none from rfl) (wpAny_newObj_type ?_ (sizeOk_excFields ..)))
  refine wpAny_bind (wpAny_handled ?_)
  rw [show A.in1.handled = none from hh]
  refine wpAny_throw (hE _ _ (fun b ob hb q => ?_) ⟨_, Heap.get?_push_size _ rfl, rfl⟩)
  exact Heap.get?_push_of_some _ (Heap.get?_push_of_some _ ((Heap.SameBut.update s.heap it _).extBut b ob hb q))
theorem Draws.tuple {prog : Program} {w : World} {A : Around} (hh : A.handled = none) (it l : Addr) (hne : l ≠ it) (items : Array Value) : Draws prog w A it [it, l] items.size (fun i v => items[i]? = some v) fun i h => h.IsTupleIter it l i ∧ h.IsTuple l items where
  live := fun i h ⟨⟨o, ho, _⟩, _⟩ => ⟨o, ho⟩
  frame := fun i h h' st hk => ⟨st.1.at fun o e => hk it (by simp) o e, st.2.at fun o e => hk l (by simp) o e⟩
  item := fun i s Q E hi st hQ => nextOf_tuple_item (x := items[i]) st.1 st.2 (by simp [hi]) fun h' hit' hs' => hQ items[i] h' s.toks (by simp [hi]) ⟨hit', st.2.extBut hs'.extBut hne⟩ hs'
  done := fun s Q E st hE => nextOf_tuple_end hh st.1 st.2 (by simp) hE
theorem call_enumT {prog : Program} {w : World} {A : Around} {E : Value → Shared → Prop} {s : Shared} {l : Addr} {items : Array Value} {Q : Value → Shared → Prop} (hl : s.heap.IsTuple l items)
    (h : ∀ h' : Heap, IsEnum h' (s.heap.objs.size + 1) s.heap.objs.size 0 .none → h'.IsTupleIter s.heap.objs.size l 0 → h'.objs.size = s.heap.objs.size + 2 → (∀ b o, s.heap.get? b = some o → h'.get? b = some o) → Q (.ref (s.heap.objs.size + 1)) { s with heap := h' }) :
    wpAny (model prog w) A (call (.type "enumerate") [.ref l]) Q E s := by
  refine callType_new F.called_enumerate (by decide) (F.typeCall_enumerate_1 (.ref l)) (F.newCall_enumerate_1 (.ref l)) (fun obj => F.args_object_init_2 obj (.ref l)) F.entry_enumerate_new (meets_enumT l items) ⟨hl, ?_⟩
  have hz := Heap.size_push s.heap { cls := .type "tuple_iterator", data := .fields #[.ref l, .int 0 0] }
  have he := Heap.get?_push_size (s.heap.push { cls := .type "tuple_iterator", data := .fields #[.ref l, .int 0 0] }) (o := { cls := .type "enumerate", data := .fields #[.none, .bool false, .ref s.heap.objs.size, rawInt 0, .none, .none] }) rfl
  rw [hz] at he ⊢
  refine ⟨⟨_, he, rfl⟩, h _ he ⟨_, Heap.get?_push_of_some _ (Heap.get?_push_size s.heap rfl), rfl, rfl⟩ ?_ fun b o x => Heap.get?_push_of_some _ (Heap.get?_push_of_some _ x)⟩
  rw [Heap.size_push, hz]
def Itet (K : PySem.W.Frag) (a : Addr) : It where
  go := fun i H => ∃ xs x, SqT K H a xs ∧ xs[i]? = some x
  yld := fun i H v H' => ∃ (T : Addr) (x : V), v = .ref T ∧ H T = none ∧ H' = upd H T (.tup [.int (i : Nat), x]) ∧ ∀ xs, SqT K H a xs → xs[i]? = some x
  stop := fun i H => ∃ xs, SqT K H a xs ∧ xs.length ≤ i
theorem turn_enumT {P : Program} {w : World} {K : PySem.W.Frag} {elts : List Expr} {kk : Nat} {tpos : Pos} (a e it : Addr) : Turn P w K (Expr.Tuple elts kk tpos) (Itet K a) [e, it] e (fun i h => (∃ old, IsEnum h e it ((i : Nat) : Int) old) ∧ h.IsTupleIter it a i ∧ e ≠ it) where
  mem := by simp
  obj := fun i h st b hb => by
    obtain ⟨⟨old, he⟩, ⟨o, ho, hc, hd⟩, hne⟩ := st
    have hb' : b = e ∨ b = it := by simpa using hb
    rcases hb' with rfl | rfl
    · exact ⟨_, he, fun v q => nomatch q⟩
    · refine ⟨o, ho, fun v q => ?_⟩
      rw [hd] at q
      nomatch q
  keep := fun i h h' st k => by
    obtain ⟨⟨old, he⟩, hi, hne⟩ := st
    exact ⟨⟨old, k e (by simp) _ he⟩, hi.at fun o q => k it (by simp) o q, hne⟩
  item := by
    rintro X rfl rfl rfl hc i pins s σ H E I hf ⟨⟨old, he⟩, hit, hne⟩ ⟨xs, x, hq, hx⟩
    obtain ⟨its, rv, p, hz⟩ := I.tuple hq
    obtain ⟨u, hu, ru⟩ := Vals.get rv hx
    have hel := Heap.lt_size he
    have hil : it < s.heap.objs.size := by
      obtain ⟨w, q, _⟩ := hit
      exact Heap.lt_size q
    have hai : a ≠ it := fun z => by
      obtain ⟨o1, h1, c1, _⟩ := hit
      obtain ⟨o2, h2, c2, _⟩ := p
      rw [z, h1] at h2
      cases h2
      have q := c1.symm.trans c2
      injection q with q
      exact absurd q (by decide)
    have hea : e ≠ a := fun z => by
      obtain ⟨o2, h2, c2, _⟩ := p
      rw [← z, he] at h2
      cases h2
      injection c2 with q
      exact absurd q (by decide)
    have hil2 : i < its.toArray.size := by
      rw [List.size_toArray]
      exact (List.getElem?_eq_some_iff.mp hu).1
    have dr := Draws.tuple (prog := X.prog) (w := X.w) (A := X.A.in1) (I.ok.hd hc) it a hai its.toArray
    refine wpAny_pyNext_enum_itemD dr he ⟨hit, p⟩ hil2 hne (by simp [hne, hea]) fun u' h' tk hu' ho hst hT hsz hk => ?_
    have eu : u' = u := by
      rw [List.getElem?_toArray, hu] at hu'
      exact (Option.some.inj hu').symm
    subst eu
    refine ⟨.ref s.heap.objs.size, rfl, wpAny_letOwnedTupleGo_enum ho fun h'' he' sb => ?_⟩
    have hT2 := (sb.2 s.heap.objs.size (Nat.ne_of_gt hel)).trans hT
    have I1 := Inv.turnedNew (t' := tk + 1) (h' := h'') (ch := [e, it]) (T := s.heap.objs.size) (ob := .tup [.int (i : Nat), x]) I (fun b ob hb q => by
      have h1 : b ≠ e := fun z => hb (by simp [z])
      have h2 : b ≠ it := fun z => hb (by simp [z])
      exact (sb.2 b h1).trans (hk b ob h1 h2 q)) hf (Nat.le_refl _) ⟨(show 2 ≤ sizeLine by decide), [.int (i : Nat) tk, u'], .cons ⟨tk, rfl⟩ (.cons ru .nil), _, hT2, rfl, 0, rfl⟩
    refine ⟨.ref s.heap.objs.size, _, I1, rfl, ⟨s.heap.objs.size, x, rfl, I.hok.fresh (Nat.le_refl _), rfl, fun ys hy => ?_⟩, ⟨⟨u', he'⟩, hst.1.at fun o q => (sb.2 it (Ne.symm hne)).trans q, hne⟩, fun b hb => ?_⟩
    · rw [I.tuple_inj hy hq]
      exact hx
    · have hb' : b < s.heap.objs.size := by
        have : b = e ∨ b = it := by simpa using hb
        rcases this with rfl | rfl
        · exact hel
        · exact hil
      rw [upd_ne (Nat.ne_of_lt hb')]
      exact (hf b hb).1
  done := by
    rintro X rfl rfl rfl hc i pins s σ H E I hf ⟨⟨old, he⟩, hit, hne⟩ ⟨xs, hq, hx⟩
    obtain ⟨its, rv, p, hz⟩ := I.tuple hq
    obtain ⟨f0, f1, f2, f3, f4, f5⟩ := hf it (by simp)
    have hl := Vals.length rv
    have no : its.toArray[i]? = none := by
      rw [List.getElem?_toArray]
      exact List.getElem?_eq_none (by omega)
    have dr : Draws X.prog X.w X.A.in1 it [it, a] 0 (fun _ _ => True) (fun _ h => h.IsTupleIter it a i ∧ h.IsTuple a its.toArray) := {
      live := fun i h ⟨⟨o, ho, _⟩, _⟩ => ⟨o, ho⟩
      frame := fun i h h' st hk => ⟨st.1.at fun o e => hk it (by simp) o e, st.2.at fun o e => hk a (by simp) o e⟩
      item := fun i s Q E hi _ _ => absurd hi (Nat.not_lt_zero _)
      done := fun s Q E st hE => nextOf_tuple_end (I.ok.hd hc) st.1 st.2 no hE }
    exact wpAny_pyNext_enum_endD dr he ⟨hit, p⟩ fun h' eb => ⟨rfl, I.turned (t' := s.toks) (fun b o hb q => eb b o hb q) f0 f1 f3 f4 f5⟩
  self := fun A i s Q E st h => by
    obtain ⟨⟨old, he⟩, _⟩ := st
    exact wpAny_pyIter_enum he h
def iEnumT (K : PySem.W.Frag) (ta : TA) : TI := fun σ H R => ta σ H fun vs H1 => ∃ a xs, vs = [.ref a] ∧ SqT K H1 a xs ∧ R (Itet K a) H1
theorem pi_enumT {X : Cx} {e : Expr} {ta : TA} {p pos tpos : Pos} {elts : List Expr} {kk : Nat} (hg : Gl X "enumerate") (hm : X.mg "enumerate" = none) (ha : PA X [e] ta) (hs : starEach [e] X.env = [(false, eval e X.env)] := by rfl) :
    PI X (Expr.Tuple elts kk tpos) (.Call (.Name "enumerate" p) [e] [] pos) (iEnumT X.K ta) := ⟨fun pins s σ H R I h => by
  refine PyProof.Rows.Call_ (ld_blt I hg hm PyProof.Rows.boot_enumerate (PyProof.Rows.callWith_type1 (thn (ha.run pos pins s σ H _ I h) fun us s1 hu => ?_) (by rw [hs]; rfl) rfl))
  obtain ⟨vs, H1, I1, r1, a, xs, ex, hq, q⟩ := hu
  subst ex
  match us, r1 with
  | [_], .cons r .nil =>
    cases r
    obtain ⟨its, rv, p', hz⟩ := I1.tuple hq
    refine call_enumT p' fun h' he hit hsz hk => wpAny_pyIter_enum he ?_
    have I2 := I1.kept (t' := s1.toks) hk
    refine ⟨s1.heap.objs.size + 1, [s1.heap.objs.size + 1, s1.heap.objs.size], _, Itet X.K a, H1, rfl, I2, turn_enumT a _ _, ⟨⟨_, he⟩, hit, Nat.succ_ne_self _⟩, fun b hb => ?_, q⟩
    have hb' : b = s1.heap.objs.size + 1 ∨ b = s1.heap.objs.size := by simpa using hb
    have hge : s1.heap.objs.size ≤ b := by
      rcases hb' with z | z
      · rw [z]
        exact Nat.le_succ _
      · rw [z]
        exact Nat.le_refl _
    exact I1.fpOk hge (I1.hok.fresh hge)⟩
theorem walk_enumT {K : PySem.W.Frag} {a : Addr} {xs : List V} : Walk (Itet K a) xs.length (fun H => SqT K H a xs) (YPair (fun i => some (.int (i : Nat))) fun i => xs[i]?) where
  goes := fun i H hi q => ⟨xs, xs[i], q, by simp [hi]⟩
  stops := fun H q => ⟨xs, q, Nat.le_refl _⟩
  yields := fun i H v H' _ q y => by
    obtain ⟨T, x, h1, h2, h3, h4⟩ := y
    exact ⟨T, .int (i : Nat), x, h1, h2, h3, rfl, h4 xs q⟩
section
variable {σ τ : L2.St} {H : Hp} {g : TG} {tt : TT} {te : TE} {vs : List Nat} {K : PySem.W.Frag} {ta : TA} {QI : It → Hp → Prop}
instance : Rd (iEnumT K ta σ H QI) (ta σ H fun vs H1 => ∃ a xs, vs = [.ref a] ∧ SqT K H1 a xs ∧ QI (Itet K a) H1) := ⟨fun h => h⟩
instance : Rd (iEnum K ta σ H QI) (ta σ H fun vs H1 => ∃ a xs, vs = [.ref a] ∧ SqL K H1 a xs ∧ QI (Ite K a) H1) := ⟨fun h => h⟩
/-- a comprehension over enumerate(a list) -/
theorem lcE {K : PySem.W.Frag} {a : Addr} {xs : List V} {R : Addr → Hp → Prop} (ew : wipe σ vs = τ) (hx : SqL K H a xs)
    (h : ∀ D, H D = none → ∃ Pv : Nat → Hp → Prop, Pv 0 (upd H D (.lst [])) ∧ (∀ i H', i ≤ xs.length → Pv i H' → SqL K H' a xs) ∧
      (∀ i x H' T, xs[i]? = some x → Pv i H' → H' T = none → g (.ref T) τ (upd H' T (.tup [.int (i : Nat), x])) fun σ2 H2 => wipe σ2 vs = τ ∧ tt σ2 H2 fun b H3 =>
        if b = true then te σ2 H3 fun y H4 => ∃ acc, H4 D = some (.lst acc) ∧ acc.length < sizeLine ∧ Pv (i + 1) (upd H4 D (.lst (acc ++ [y]))) else Pv (i + 1) H3) ∧ ∀ H', Pv xs.length H' → R D H') :
    ∃ a' xs', [V.ref a] = [V.ref a'] ∧ SqL K H a' xs' ∧ ∀ D, H D = none → ∃ W : Nat → Nat → Hp → Prop, (∃ m, W 0 m (upd H D (.lst []))) ∧ ∀ i m H, W i m H →
      ((Ite K a').stop i H ∧ R D H) ∨ ((Ite K a').go i H ∧ ∃ Nx : Hp → Prop, (∀ H', Nx H' → ∃ m', m' < m ∧ W (i + 1) m' H') ∧ ∀ x H', (Ite K a').yld i H x H' → g x (wipe σ vs) H' fun σ2 H2 => wipe σ2 vs = wipe σ vs ∧ tt σ2 H2 fun b H3 =>
        if b = true then te σ2 H3 fun y H4 => ∃ acc, H4 D = some (.lst acc) ∧ acc.length < sizeLine ∧ Nx (upd H4 D (.lst (acc ++ [y]))) else Nx H3) := by
  subst ew
  refine ⟨a, xs, rfl, hx, fun D hD => ?_⟩
  obtain ⟨Pv, h0, hl, hs, hd⟩ := h D hD
  refine lc_it walk_enum Pv h0 hl (fun i v H1 H2 hi p y => ?_) hd
  obtain ⟨T, u, x, rfl, hT, rfl, eu, ex⟩ := y
  cases eu
  exact hs i x H1 T ex p hT
/-- a comprehension over enumerate(a tuple) -/
theorem lcET {K : PySem.W.Frag} {a : Addr} {xs : List V} {R : Addr → Hp → Prop} (ew : wipe σ vs = τ) (hx : SqT K H a xs)
    (h : ∀ D, H D = none → ∃ Pv : Nat → Hp → Prop, Pv 0 (upd H D (.lst [])) ∧ (∀ i H', i ≤ xs.length → Pv i H' → SqT K H' a xs) ∧
      (∀ i x H' T, xs[i]? = some x → Pv i H' → H' T = none → g (.ref T) τ (upd H' T (.tup [.int (i : Nat), x])) fun σ2 H2 => wipe σ2 vs = τ ∧ tt σ2 H2 fun b H3 =>
        if b = true then te σ2 H3 fun y H4 => ∃ acc, H4 D = some (.lst acc) ∧ acc.length < sizeLine ∧ Pv (i + 1) (upd H4 D (.lst (acc ++ [y]))) else Pv (i + 1) H3) ∧ ∀ H', Pv xs.length H' → R D H') :
    ∃ a' xs', [V.ref a] = [V.ref a'] ∧ SqT K H a' xs' ∧ ∀ D, H D = none → ∃ W : Nat → Nat → Hp → Prop, (∃ m, W 0 m (upd H D (.lst []))) ∧ ∀ i m H, W i m H →
      ((Itet K a').stop i H ∧ R D H) ∨ ((Itet K a').go i H ∧ ∃ Nx : Hp → Prop, (∀ H', Nx H' → ∃ m', m' < m ∧ W (i + 1) m' H') ∧ ∀ x H', (Itet K a').yld i H x H' → g x (wipe σ vs) H' fun σ2 H2 => wipe σ2 vs = wipe σ vs ∧ tt σ2 H2 fun b H3 =>
        if b = true then te σ2 H3 fun y H4 => ∃ acc, H4 D = some (.lst acc) ∧ acc.length < sizeLine ∧ Nx (upd H4 D (.lst (acc ++ [y]))) else Nx H3) := by
  subst ew
  refine ⟨a, xs, rfl, hx, fun D hD => ?_⟩
  obtain ⟨Pv, h0, hl, hs, hd⟩ := h D hD
  refine lc_it walk_enumT Pv h0 hl (fun i v H1 H2 hi p y => ?_) hd
  obtain ⟨T, u, x, rfl, hT, rfl, eu, ex⟩ := y
  cases eu
  exact hs i x H1 T ex p hT
/-- a for over enumerate(a list), over enumerate(a tuple) -/
theorem forE {g : TG} {tb : TS} {D : Ends} {a : Addr} {xs : List V} (Pv : Nat → L2.St → Hp → Prop) (hx : SqL K H a xs) (h0 : Pv 0 σ H) (hl : ∀ i σ H, i ≤ xs.length → Pv i σ H → SqL K H a xs)
    (hs : ∀ i x σ H T, xs[i]? = some x → Pv i σ H → H T = none → g (.ref T) σ (upd H T (.tup [.int (i : Nat), x])) fun σ2 H2 => tb ⟨Pv (i + 1), D.rt, D.nx, Pv (i + 1)⟩ σ2 H2) (hd : ∀ σ H, Pv xs.length σ H → D.nx σ H) :
    ∃ a' xs', [V.ref a] = [V.ref a'] ∧ SqL K H a' xs' ∧ ∃ W : Nat → Nat → L2.St → Hp → Prop, (∃ m, W 0 m σ H) ∧ ∀ i m σ H, W i m σ H →
      ((Ite K a').stop i H ∧ D.nx σ H) ∨ ((Ite K a').go i H ∧ ∃ N : L2.St → Hp → Prop, (∀ σ' H', N σ' H' → ∃ m', m' < m ∧ W (i + 1) m' σ' H') ∧ ∀ x H', (Ite K a').yld i H x H' → g x σ H' fun σ2 H2 => tb { D with nx := N, ct := N, bk := D.nx } σ2 H2) := by
  refine ⟨a, xs, rfl, hx, for_it walk_enum Pv h0 hl (fun i v σ1 H1 H2 hi p y => ?_) hd⟩
  obtain ⟨T, u, x, rfl, hT, rfl, eu, ex⟩ := y
  cases eu
  exact hs i x σ1 H1 T ex p hT
theorem forET {g : TG} {tb : TS} {D : Ends} {a : Addr} {xs : List V} (Pv : Nat → L2.St → Hp → Prop) (hx : SqT K H a xs) (h0 : Pv 0 σ H) (hl : ∀ i σ H, i ≤ xs.length → Pv i σ H → SqT K H a xs)
    (hs : ∀ i x σ H T, xs[i]? = some x → Pv i σ H → H T = none → g (.ref T) σ (upd H T (.tup [.int (i : Nat), x])) fun σ2 H2 => tb ⟨Pv (i + 1), D.rt, D.nx, Pv (i + 1)⟩ σ2 H2) (hd : ∀ σ H, Pv xs.length σ H → D.nx σ H) :
    ∃ a' xs', [V.ref a] = [V.ref a'] ∧ SqT K H a' xs' ∧ ∃ W : Nat → Nat → L2.St → Hp → Prop, (∃ m, W 0 m σ H) ∧ ∀ i m σ H, W i m σ H →
      ((Itet K a').stop i H ∧ D.nx σ H) ∨ ((Itet K a').go i H ∧ ∃ N : L2.St → Hp → Prop, (∀ σ' H', N σ' H' → ∃ m', m' < m ∧ W (i + 1) m' σ' H') ∧ ∀ x H', (Itet K a').yld i H x H' → g x σ H' fun σ2 H2 => tb { D with nx := N, ct := N, bk := D.nx } σ2 H2) := by
  refine ⟨a, xs, rfl, hx, for_it walk_enumT Pv h0 hl (fun i v σ1 H1 H2 hi p y => ?_) hd⟩
  obtain ⟨T, u, x, rfl, hT, rfl, eu, ex⟩ := y
  cases eu
  exact hs i x σ1 H1 T ex p hT
end
theorem pg_tupK {X : Cx} {K : PySem.W.Frag} {pos : Pos} {es : List Expr} {k : Nat} {t : TGs} {n : Nat} (hK : X.K = K) (hc : X.calm = true) (h : PGs X es t) (h1 : (assignEach es X.env).length = n := by rfl) (h2 : List.findIdx? (fun x => x.fst) (assignEach es X.env) = none := by rfl) : PG X (Expr.Tuple es k pos) (gTup K n t) := by
  subst hK
  exact pg_tup hc h h1 h2
end Bar

local macro_rules | `(tactic| walk_at "rc") => `(tactic| first
  | decide | assumption | omega
  | exact Or.inr ⟨by decide, by decide⟩ | exact Or.inl ⟨by decide, by decide⟩ | exact ⟨by decide, by decide⟩)
local macro_rules | `(tactic| walk_at "lk1") => `(tactic| ((with_reducible refine Bar.lkNew ?hp ?h); (case hp => with_reducible assumption); (case h => walk_at "lk")))
local macro_rules | `(tactic| walk_at "lk2") => `(tactic| ((with_reducible refine Bar.lkNe ?n ?h); (case n => with_reducible first | assumption | exact Ne.symm (by assumption)); (case h => walk_at "lk")))
local macro_rules | `(tactic| walk_at "lk3") => `(tactic| ((with_reducible refine Bar.lkMut (o' := ?o) ?h ?hp ?d); (case h => walk_at "lk"); (case hp => walk_at "lk"); (case d => (intro z; cases z))))
local macro_rules | `(tactic| walk_at "lk4") => `(tactic| ((with_reducible refine Bar.lkKn (b := ?b) (H := ?H) ?k ?n ?h); (case k => with_reducible assumption); (case n => with_reducible first | assumption | exact Ne.symm (by assumption)); (case h => walk_at "lk")))
local macro_rules | `(tactic| walk_at "lk5") => `(tactic| ((with_reducible refine Bar.lkKp (b := ?b) (H := ?H) (u := ?u) ?k ?h ?hb ?d); (case k => with_reducible assumption); (case h => walk_at "lk"); (case hb => walk_at "lk"); (case d => (intro z; cases z))))
local macro_rules | `(tactic| walk_at "lk6") => `(tactic| ((with_reducible refine Bar.lkSm (H := ?H) ?k ?h); (case k => with_reducible assumption); (case h => walk_at "lk")))
local macro_rules | `(tactic| walk_at "lk") => `(tactic| first
  | with_reducible assumption | with_reducible exact L2.upd_same | walk_at "lk1" | walk_at "lk2" | walk_at "lk3" | walk_at "lk4" | walk_at "lk5" | walk_at "lk6")
local macro_rules | `(tactic| walk_at "sqL") => `(tactic| first | with_reducible assumption | ((with_reducible refine L2.SqL.of ?_); walk_at "lk") | assumption)
local macro_rules | `(tactic| walk_at "sqT") => `(tactic| first | with_reducible assumption | ((with_reducible refine L2.SqT.of ?_); walk_at "lk") | assumption)
local macro_rules | `(tactic| walk_at "kit") => `(tactic| first | exact Bar.kit_list_int | exact Bar.kit_list_bool | exact Bar.kit_list_str | exact Bar.kit_list_list | exact Bar.kit_list_tuple | exact Bar.kit_tuple_int | exact Bar.kit_tuple_bool | exact Bar.kit_tuple_str | exact Bar.kit_tuple_list | exact Bar.kit_tuple_tuple)
local macro_rules | `(tactic| walk_at "rx1") => `(tactic| ((with_reducible refine Bar.rI_ ?c ?_); (case c => walk_at "rc")))
local macro_rules | `(tactic| walk_at "rx2") => `(tactic| ((with_reducible refine Bar.rEq_ ?e ?_); (case e => exact rfl)))
local macro_rules | `(tactic| walk_at "rx3") => `(tactic| ((with_reducible refine Bar.rNe_ ?e ?_); (case e => exact rfl)))
local macro_rules | `(tactic| walk_at "rx4") => `(tactic| ((with_reducible refine Bar.rIxL_ (v := ?v) (xs := ?xs) ?h1 ?h2 ?_); (case h1 => walk_at "sqL"); (case h2 => exact rfl)))
local macro_rules | `(tactic| walk_at "rx5") => `(tactic| ((with_reducible refine Bar.rIxT_ (v := ?v) (xs := ?xs) ?h1 ?h2 ?_); (case h1 => walk_at "sqT"); (case h2 => exact rfl)))
local macro_rules | `(tactic| walk_at "rx6") => `(tactic| ((with_reducible refine Bar.rSetL_ (xs := ?xs) (j := ?j) ?h1 ?h2 ?_); (case h1 => walk_at "lk"); (case h2 => exact rfl)))
local macro_rules | `(tactic| walk_at "rx7") => `(tactic| ((with_reducible refine Bar.rLenL (ys := ?ys) ?h1 ?_); (case h1 => walk_at "sqL")))
local macro_rules | `(tactic| walk_at "rx8") => `(tactic| ((with_reducible refine Bar.tyL (xs := ?xs) ?h1 ?_); (case h1 => walk_at "sqL")))
local macro_rules | `(tactic| walk_at "rx9") => `(tactic| ((with_reducible refine Bar.rNew ?e ?_); (case e => exact Bar.szLe (by simp))))
local macro_rules | `(tactic| walk_at "rx10") => `(tactic| ((with_reducible refine Bar.rIxSL (xs := ?xs) (v := ?v) ?h1 ?h2 ?_); (case h1 => walk_at "lk"); (case h2 => exact rfl)))
local macro_rules | `(tactic| walk_at "rx11") => `(tactic| ((with_reducible refine Bar.rIxST (xs := ?xs) (v := ?v) ?h1 ?h2 ?_); (case h1 => walk_at "lk"); (case h2 => exact rfl)))
local macro_rules | `(tactic| walk_at "rx12") => `(tactic| ((with_reducible refine Bar.rLenT (ys := ?ys) ?h1 ?_); (case h1 => walk_at "sqT")))
local macro_rules | `(tactic| walk_at "rx13") => `(tactic| ((with_reducible refine Bar.rTupU (xs := ?xs) ?h1 ?h2 ?_); (case h1 => walk_at "sqT"); (case h2 => exact rfl)))
local macro_rules | `(tactic| walk_at "ry4") => `(tactic| ((with_reducible refine Bar.isiL (xs := ?xs) (r := ?r) ?e ?h ?_); (case e => walk_at "lk"); (case h => walk_at "kit")))
local macro_rules | `(tactic| walk_at "ry5") => `(tactic| ((with_reducible refine Bar.isiT (xs := ?xs) (r := ?r) ?e ?h ?_); (case e => walk_at "lk"); (case h => walk_at "kit")))
local macro_rules | `(tactic| walk_at "rs") => `(tactic| first | with_reducible refine Bar.rd ?_ | walk_at "rx1" | walk_at "rx4" | walk_at "rx5" | walk_at "rx6" | walk_at "rx7" | walk_at "rx8" | walk_at "rx9" | walk_at "rx10" | walk_at "rx11" | walk_at "rx12" | walk_at "rx13" | walk_at "ry4" | walk_at "ry5" | walk_at "rx2" | walk_at "rx3")
local macro_rules | `(tactic| walk_at "rd") => `(tactic| repeat walk_at "rs")

namespace Lw
open PySem L2 Bar
def top (i : Nat) : Stmt := PySem.Challenge.pw_barclips_k14_whole_gap_or_cycle.main.body.getD i (.Pass ⟨0, 0, 0, 0⟩)
abbrev s_law_box : Stmt := top 24
abbrev N_law_box : List Str := ["_law_script", "_law_at", "_law_cell", "_law_salt", "_law_one"]
abbrev P_law_box : List Str := ["_law_script", "_law_at"]
theorem sc_law_box : FnScope N_law_box P_law_box (defScope s_law_box) := ⟨rfl, rfl, rfl, by decide +kernel, rfl, by decide +kernel, by decide +kernel⟩
abbrev s_law_draw : Stmt := top 25
abbrev N_law_draw : List Str := ["_law_box_here", "_law_many", "_law_found", "_law_total", "_law_turn", "_law_once", "_law_twice"]
abbrev P_law_draw : List Str := ["_law_box_here", "_law_many"]
theorem sc_law_draw : FnScope N_law_draw P_law_draw (defScope s_law_draw) := ⟨rfl, rfl, rfl, by decide +kernel, rfl, by decide +kernel, by decide +kernel⟩
abbrev s_law_size : Stmt := top 27
abbrev N_law_size : List Str := ["_law_box_here", "_law_big", "_law_kinds"]
abbrev P_law_size : List Str := ["_law_box_here"]
theorem sc_law_size : FnScope N_law_size P_law_size (defScope s_law_size) := ⟨rfl, rfl, rfl, by decide +kernel, rfl, by decide +kernel, by decide +kernel⟩
abbrev s_law_number : Stmt := top 28
abbrev N_law_number : List Str := ["_law_box_here", "_law_found"]
abbrev P_law_number : List Str := ["_law_box_here"]
theorem sc_law_number : FnScope N_law_number P_law_number (defScope s_law_number) := ⟨rfl, rfl, rfl, by decide +kernel, rfl, by decide +kernel, by decide +kernel⟩
abbrev s_law_int : Stmt := top 26
abbrev N_law_int : List Str := ["_law_x"]
abbrev P_law_int : List Str := ["_law_x"]
theorem sc_law_int : FnScope N_law_int P_law_int (defScope s_law_int) := ⟨rfl, rfl, rfl, by decide +kernel, rfl, by decide +kernel, by decide +kernel⟩
abbrev s_law_in : Stmt := top 29
abbrev N_law_in : List Str := ["_law_row", "_law_tick"]
abbrev P_law_in : List Str := ["_law_row", "_law_tick"]
theorem sc_law_in : FnScope N_law_in P_law_in (defScope s_law_in) := ⟨rfl, rfl, rfl, by decide +kernel, rfl, by decide +kernel, by decide +kernel⟩
abbrev s_law_hit : Stmt := top 30
abbrev N_law_hit : List Str := ["_law_rows", "_law_tick", "_law_row"]
abbrev P_law_hit : List Str := ["_law_rows", "_law_tick"]
theorem sc_law_hit : FnScope N_law_hit P_law_hit (defScope s_law_hit) := ⟨rfl, rfl, rfl, by decide +kernel, rfl, by decide +kernel, by decide +kernel⟩
abbrev s_law_cover : Stmt := top 31
abbrev N_law_cover : List Str := ["_law_box_here", "_law_many", "_law_kind", "_law_rows", "_law_step", "_law_k", "_law_turn", "_law_parts", "_law_at", "_law_old"]
abbrev P_law_cover : List Str := ["_law_box_here", "_law_many"]
theorem sc_law_cover : FnScope N_law_cover P_law_cover (defScope s_law_cover) := ⟨rfl, rfl, rfl, by decide +kernel, rfl, by decide +kernel, by decide +kernel⟩
abbrev s_law_pair : Stmt := top 32
abbrev N_law_pair : List Str := ["_law_box_here", "_law_step"]
abbrev P_law_pair : List Str := ["_law_box_here"]
theorem sc_law_pair : FnScope N_law_pair P_law_pair (defScope s_law_pair) := ⟨rfl, rfl, rfl, by decide +kernel, rfl, by decide +kernel, by decide +kernel⟩
abbrev s_law_grids : Stmt := top 33
abbrev N_law_grids : List Str := ["_law_box_here", "_law_many", "_law_rows", "_law_at", "_law_unit", "_law_shift", "_law_k", "_law_turn", "_law_row"]
abbrev P_law_grids : List Str := ["_law_box_here", "_law_many"]
theorem sc_law_grids : FnScope N_law_grids P_law_grids (defScope s_law_grids) := ⟨rfl, rfl, rfl, by decide +kernel, rfl, by decide +kernel, by decide +kernel⟩
abbrev s_law_made : Stmt := top 34
abbrev N_law_made : List Str := ["_law_rows", "_law_row"]
abbrev P_law_made : List Str := ["_law_rows"]
theorem sc_law_made : FnScope N_law_made P_law_made (defScope s_law_made) := ⟨rfl, rfl, rfl, by decide +kernel, rfl, by decide +kernel, by decide +kernel⟩
abbrev s_law_one_of_two : Stmt := top 35
abbrev N_law_one_of_two : List Str := ["_law_rows", "_law_start", "_law_far", "_law_made_here", "_law_most", "_law_row", "_law_told", "_law_owners", "_law_k", "_law_tick"]
abbrev P_law_one_of_two : List Str := ["_law_rows", "_law_start", "_law_far"]
theorem sc_law_one_of_two : FnScope N_law_one_of_two P_law_one_of_two (defScope s_law_one_of_two) := ⟨rfl, rfl, rfl, by decide +kernel, rfl, by decide +kernel, by decide +kernel⟩
abbrev s_Grid___init__ : Stmt := inClass (top 14) 0
abbrev N_Grid___init__ : List Str := ["self", "step", "offset"]
abbrev P_Grid___init__ : List Str := ["self", "step", "offset"]
theorem sc_Grid___init__ : FnScope N_Grid___init__ P_Grid___init__ (defScope s_Grid___init__) := ⟨rfl, rfl, rfl, by decide +kernel, rfl, by decide +kernel, by decide +kernel⟩
abbrev s_Grid___contains__ : Stmt := inClass (top 14) 1
abbrev N_Grid___contains__ : List Str := ["self", "x"]
abbrev P_Grid___contains__ : List Str := ["self", "x"]
theorem sc_Grid___contains__ : FnScope N_Grid___contains__ P_Grid___contains__ (defScope s_Grid___contains__) := ⟨rfl, rfl, rfl, by decide +kernel, rfl, by decide +kernel, by decide +kernel⟩
abbrev s_Grid_within : Stmt := inClass (top 14) 17
abbrev N_Grid_within : List Str := ["self", "second"]
abbrev P_Grid_within : List Str := ["self", "second"]
theorem sc_Grid_within : FnScope N_Grid_within P_Grid_within (defScope s_Grid_within) := ⟨rfl, rfl, rfl, by decide +kernel, rfl, by decide +kernel, by decide +kernel⟩
abbrev s_check_grids : Stmt := top 17
abbrev N_check_grids : List Str := ["grids"]
abbrev P_check_grids : List Str := ["grids"]
theorem sc_check_grids : FnScope N_check_grids P_check_grids (defScope s_check_grids) := ⟨rfl, rfl, rfl, by decide +kernel, rfl, by decide +kernel, by decide +kernel⟩
abbrev s_is_gap : Stmt := top 18
abbrev N_is_gap : List Str := ["grids", "integer", "grid"]
abbrev P_is_gap : List Str := ["grids", "integer"]
theorem sc_is_gap : FnScope N_is_gap P_is_gap (defScope s_is_gap) := ⟨rfl, rfl, rfl, by decide +kernel, rfl, by decide +kernel, by decide +kernel⟩
abbrev s_first_gap : Stmt := top 19
abbrev N_first_gap : List Str := ["grids", "start", "integer"]
abbrev P_first_gap : List Str := ["grids", "start"]
theorem sc_first_gap : FnScope N_first_gap P_first_gap (defScope s_first_gap) := ⟨rfl, rfl, rfl, by decide +kernel, rfl, by decide +kernel, by decide +kernel⟩
abbrev s_first_around : Stmt := top 22
abbrev N_first_around : List Str := ["grids", "inner", "index", "grid"]
abbrev P_first_around : List Str := ["grids", "inner"]
theorem sc_first_around : FnScope N_first_around P_first_around (defScope s_first_around) := ⟨rfl, rfl, rfl, by decide +kernel, rfl, by decide +kernel, by decide +kernel⟩
abbrev s_owners_of : Stmt := top 21
abbrev N_owners_of : List Str := ["grids", "size", "owners", "remainder", "owner"]
abbrev P_owners_of : List Str := ["grids", "size"]
theorem sc_owners_of : FnScope N_owners_of P_owners_of (defScope s_owners_of) := ⟨rfl, rfl, rfl, by decide +kernel, rfl, by decide +kernel, by decide +kernel⟩
abbrev s_cycle_of : Stmt := top 20
abbrev N_cycle_of : List Str := ["grids", "size", "owners"]
abbrev P_cycle_of : List Str := ["grids"]
theorem sc_cycle_of : FnScope N_cycle_of P_cycle_of (defScope s_cycle_of) := ⟨rfl, rfl, rfl, by decide +kernel, rfl, by decide +kernel, by decide +kernel⟩
abbrev s_law : Stmt := top 36
abbrev N_law : List Str := ["_law_script", "_law_box_here", "_law_rows", "_law_start", "_law_far", "_law_k"]
abbrev P_law : List Str := ["_law_script"]
theorem sc_law : FnScope N_law P_law (defScope s_law) := ⟨rfl, rfl, rfl, by decide +kernel, rfl, by decide +kernel, by decide +kernel⟩

/-! ### the law's draws -/
/-- the facts of the built-in names -/
structure Txt (mg : Str → Option Value) : Prop where
  b_len : mg "len" = none
  b_int : mg "int" = none
  b_abs : mg "abs" = none
  b_str : mg "str" = none
  b_range : mg "range" = none
  b_isinstance : mg "isinstance" = none
  b_bool : mg "bool" = none
  b_list : mg "list" = none
  b_tuple : mg "tuple" = none
  b_sum : mg "sum" = none
  b_min : mg "min" = none
  b_max : mg "max" = none
  b_any : mg "any" = none
  b_all : mg "all" = none
  b_sorted : mg "sorted" = none
  b_enumerate : mg "enumerate" = none
abbrev big : Int := 10 ^ 399
abbrev box (c s n : Int) : HO := .lst [.int c, .int s, .int n]
abbrev kinds : List V := [.int 60, .int (10 ^ Int.toNat 6), .int (10 ^ Int.toNat 30), .int 60, .int (10 ^ Int.toNat 6), .int ((10 ^ Int.toNat 57) ^ Int.toNat 7), .int (10 ^ Int.toNat 6), .int 60, .int (10 ^ Int.toNat 30), .int 60, .int (10 ^ Int.toNat 6), .int 60]
theorem kinds_at {r : Int} (h0 : 0 ≤ r) (h1 : r < 12) : ∃ m, atI kinds r = some (.int m) ∧ 0 < m ∧ m ≤ big := by
  have h : r = 0 ∨ r = 1 ∨ r = 2 ∨ r = 3 ∨ r = 4 ∨ r = 5 ∨ r = 6 ∨ r = 7 ∨ r = 8 ∨ r = 9 ∨ r = 10 ∨ r = 11 := by omega
  rcases h with h | h | h | h | h | h | h | h | h | h | h | h <;> (subst h; exact ⟨_, rfl, by decide, by decide⟩)
def spDraw : Sp := fun vs H Q _ => ∃ (b : Addr) (c s n m : Int), vs = [.ref b, .int m] ∧ H b = some (box c s n) ∧ 0 < m ∧ m ≤ big ∧
  ∀ r c' n', 0 ≤ r → r < m → Q (.int r) (upd H b (box c' s n'))
theorem log_big {m : Int} (h0 : 0 < m) (h : m ≤ big) : m.natAbs < 2 ^ 1326 := by
  have h1 : m.natAbs ≤ 10 ^ 399 := by
    have e : big = ((10 ^ 399 : Nat) : Int) := by decide
    omega
  exact Nat.lt_of_le_of_lt h1 (by decide)
section
variable {P : Program} {w : World} {K : PySem.W.Frag} {mg : Str → Option Value} {base : Heap}
theorem ok_draw {f : Addr} {fd : FuncData} (F : Fun K "_law_draw" "_law_draw" s_law_draw f fd) (T : Txt mg) : FnOk P w K mg base CX0 1 f fd P_law_draw spDraw := by
  refine F.ok sc_law_draw (fun vs H Q E h => ?_) (fun cdv A outer s H vs Q E hr h => ?_)
  · obtain ⟨b, c, z, n, m, rfl, _⟩ := h
    rfl
  · obtain ⟨b, c, z, n, m, rfl, hb, m0, m1, k⟩ := h
    have lb := log_big m0 m1
    refine ⟨_, (pss_cons (ps_if (pt_cmpR op_gt (pe_ix ix_list (pv 0) pe_int (fun _ _ => rfl)) pe_int (nomark _)) (pss_cons (ps_set (i := 2) sc_law_draw.nd rfl (Or.inl rfl) (pe_op op_mod (pe_callTy c_int rfl T.b_int (by decide +kernel) (pa_cons (pe_ix ix_list (pv 0) pe_int (fun _ _ => rfl)) pa_nil)) (pv 1)))
    (pss_cons (ps_asg (pe_op op_fdivW (pe_ix ix_list (pv 0) pe_int (fun _ _ => rfl)) (pv 1)) (pg_sub (pv 0) pe_int set_list))
    (pss_one (ps_ret (pv 2))))) pss_nil)
    (pss_cons (ps_asg (pe_op op_add (pe_ix ix_list (pv 0) pe_int (fun _ _ => rfl)) pe_int) (pg_sub (pv 0) pe_int set_list))
    (pss_cons (ps_set (i := 3) sc_law_draw.nd rfl (Or.inl rfl) pe_int)
    (pss_cons (ps_for PassesOwn.never rfl  (pi_range1 rfl T.b_range (pa_cons (pe_op op_add pe_int (pe_op op_fdiv (pe_callB c_lenStr rfl T.b_len PySem.boot_len (pa_cons (pe_callTy c_str rfl T.b_str (by decide +kernel) (pa_cons (pv 1) pa_nil)) pa_nil)) pe_int)) pa_nil)) (pg_name (i := 4) sc_law_draw.nd rfl (Or.inl rfl)) (pss_cons (ps_set (i := 5) sc_law_draw.nd rfl (Or.inl rfl) (pe_op op_mod (pe_callTy c_int rfl T.b_int (by decide +kernel) (pa_cons (pe_op op_add (pe_op op_add (pe_op op_add (pe_op op_mul (pe_ix ix_list (pv 0) pe_int (fun _ _ => rfl)) pe_int) (pe_op op_mul (pe_ix ix_list (pv 0) pe_int (fun _ _ => rfl)) pe_int)) (pe_op op_mul (pv 4) pe_int)) pe_int) pa_nil)) pe_int))
    (pss_cons (ps_set (i := 5) sc_law_draw.nd rfl (Or.inl rfl) (pe_op op_mod (pe_callTy c_int rfl T.b_int (by decide +kernel) (pa_cons (pe_op op_add (pe_op op_add (pe_op op_mulW (pv 5) (pv 5)) (pe_op op_mul pe_int (pe_ix ix_list (pv 0) pe_int (fun _ _ => rfl)))) (pv 4)) pa_nil)) pe_int))
    (pss_cons (ps_set (i := 6) sc_law_draw.nd rfl (Or.inl rfl) (pe_op op_mod (pe_callTy c_int rfl T.b_int (by decide +kernel) (pa_cons (pe_op op_add (pe_op op_add (pe_op op_mulW (pv 5) (pv 5)) (pe_op op_mul pe_int (pv 5))) (pe_ix ix_list (pv 0) pe_int (fun _ _ => rfl))) pa_nil)) pe_int))
    (pss_one (ps_set (i := 3) sc_law_draw.nd rfl (Or.inl rfl) (pe_op op_add (pe_op op_mul (pv 3) pe_int) (pv 6))))))))
    (pss_one (ps_ret (pe_op op_mod (pe_callTy c_int rfl T.b_int (by decide +kernel) (pa_cons (pv 3) pa_nil)) (pv 1)))))))), ?_⟩
    refine Bar.rStart (σ := [some (.ref b), some (.int m), none, none, none, none, none]) rfl ?_
    have lg : m.natAbs.log2 < 1920 := Nat.lt_of_lt_of_le (PySem.Flt.log2_lt_of (by decide) lb) (by decide)
    have ls := PyProof.Rows.int_text_len_1921 lg
    walk_at "rd"
    refine ite2 (fun h => ?_) (fun h => ?_)
    · walk_at "rd"
      refine Bar.rI_ (wide_div m0 lb (by decide) (by decide)) ?_
      walk_at "rd"
      exact k _ _ _ (Int.emod_nonneg _ (by omega)) (Int.emod_lt_of_pos _ m0)
    · walk_at "rd"
      refine Bar.rStr_ lg ?_
      walk_at "rd"
      refine Bar.rLenStr_ (Nat.le_trans ls (by decide)) ?_
      walk_at "rd"
      refine Bar.forR _ rfl (fun _ σ H' => H' = upd H b (box c z (n + 1)) ∧ ∃ (t : Int) (x y u : Option V), σ = [some (.ref b), some (.int m), none, some (.int t), x, y, u]) (by omega) ⟨rfl, 0, none, none, none, rfl⟩ ?_ ?_
      · rintro i σ H' hi ⟨rfl, t, x, y, u, rfl⟩
        walk_at "rd"
        refine Bar.rI_ (sqW _ (by decide) (by decide)) ?_
        walk_at "rd"
        refine Bar.rI_ (sqW _ (by decide) (by decide)) ?_
        walk_at "rd"
        exact ⟨rfl, _, _, _, _, rfl⟩
      · rintro σ H' ⟨rfl, t, x, y, u, rfl⟩
        walk_at "rd"
        exact k _ _ _ (Int.emod_nonneg _ (by omega)) (Int.emod_lt_of_pos _ m0)
def spBox (K : PySem.W.Frag) : Sp := fun vs H Q _ => ∃ (a : Addr) (ns : List Int) (j : Nat), vs = [.ref a, .int (j : Int)] ∧ SqL K H a (ns.map V.int) ∧
  ∀ p H' c s, Same H H' → H p = none → H' p = some (box c s 0) → Q (.ref p) H'
theorem ok_box {f : Addr} {fd : FuncData} (F : Fun K "_law_box" "_law_box" s_law_box f fd) (T : Txt mg) : FnOk P w K mg base CX0 1 f fd P_law_box (spBox K) := by
  refine F.ok sc_law_box (fun vs H Q E h => ?_) (fun cdv A outer s H vs Q E hr h => ?_)
  · obtain ⟨a, ns, j, rfl, _⟩ := h
    rfl
  · obtain ⟨a, ns, j, rfl, ha, k⟩ := h
    refine ⟨_, (pss_cons (ps_set (i := 2) sc_law_box.nd rfl (Or.inl rfl) pe_int)
    (pss_cons (ps_if (pt_cmpR op_lt (pv 1) (pe_callB c_len rfl T.b_len PySem.boot_len (pa_cons (pv 0) pa_nil)) (nomark _)) (pss_one (ps_set (i := 2) sc_law_box.nd rfl (Or.inl rfl) (pe_callB c_abs rfl T.b_abs (by decide +kernel) (pa_cons (pe_ix ix_list (pv 0) (pv 1) (fun _ _ => rfl)) pa_nil)))) pss_nil)
    (pss_cons (ps_set (i := 3) sc_law_box.nd rfl (Or.inl rfl) (pe_op op_add (pe_op op_add (pe_op op_mul (pe_callB c_len rfl T.b_len PySem.boot_len (pa_cons (pv 0) pa_nil)) pe_int) (pe_op op_mul (pv 1) pe_int)) pe_int))
    (pss_cons (ps_for PassesOwn.never rfl  (pi_list (pe_slice sl_list (pv 0) po_none (po_some pe_int))) (pg_name (i := 4) sc_law_box.nd rfl (Or.inl rfl)) (pss_one (ps_set (i := 3) sc_law_box.nd rfl (Or.inl rfl) (pe_op op_mod (pe_callTy c_int rfl T.b_int (by decide +kernel) (pa_cons (pe_op op_add (pe_op op_mul (pv 3) pe_int) (pe_callB c_abs rfl T.b_abs (by decide +kernel) (pa_cons (pv 4) pa_nil))) pa_nil)) pe_int))))
    (pss_cons (ps_if (pt_cmpR op_ge (pv 2) (pe_op op_powW pe_int pe_int) (nomark _)) (pss_one (ps_ret (pe_lst (pa_cons (pv 2) (pa_cons (pv 3) (pa_cons pe_int pa_nil)))))) pss_nil)
    (pss_one (ps_ret (pe_lst (pa_cons pe_int (pa_cons (pe_op op_mod (pe_callTy c_int rfl T.b_int (by decide +kernel) (pa_cons (pe_op op_add (pv 3) (pe_op op_mul (pv 2) pe_int)) pa_nil)) pe_int) (pa_cons pe_int pa_nil))))))))))), ?_⟩
    refine Bar.rStart (σ := [some (.ref a), some (.int (j : Int)), none, none, none]) rfl ?_
    walk_at "rd"
    refine ite2 (fun h => ?_) (fun h => ?_)
    · have hj : j < ns.length := by
        have h1 := of_decide_eq_true h
        rw [List.length_map] at h1
        omega
      walk_at "rd"
      refine Bar.rIxL_ ha (Bar.at_map hj) ?_
      walk_at "rd"
      generalize (if ns[j] < 0 then -ns[j] else ns[j]) = cc
      refine Bar.rSlL_ ha fun q hq => ?_
      generalize (((ns.map V.int).length : Nat) : Int) * 97 + (j : Int) * 131 + 7 = salt
      refine Bar.forL (xs := cutV (ns.map V.int) none (some 16)) (fun _ σ H' => H' = upd H q (.lst (cutV (ns.map V.int) none (some 16))) ∧ ∃ (z : Int) (x : Option V), σ = [some (.ref a), some (.int (j : Int)), some (.int cc), some (.int z), x]) (SqL.of upd_same)
        ⟨rfl, salt, none, rfl⟩ (fun i σ H' _ ⟨e, _⟩ => by rw [e]; exact SqL.of upd_same) ?_ ?_
      · rintro i v σ H' hv ⟨rfl, z, x, rfl⟩
        obtain ⟨u, rfl⟩ := Bar.cut_int hv
        walk_at "rd"
        exact ⟨rfl, _, _, rfl⟩
      · rintro σ H' ⟨rfl, z, x, rfl⟩
        walk_at "rd"
        refine ite2 (fun h => ?_) (fun h => ?_)
        all_goals
          walk_at "rd"
          intro p hp
          walk_at "rd"
          refine k _ _ _ _ (fun b o e => Bar.lkNew hp (Bar.lkNew hq e)) (Bar.freeNew hp) upd_same
    · walk_at "rd"
      refine Bar.rSlL_ ha fun q hq => ?_
      generalize (((ns.map V.int).length : Nat) : Int) * 97 + (j : Int) * 131 + 7 = salt
      refine Bar.forL (xs := cutV (ns.map V.int) none (some 16)) (fun _ σ H' => H' = upd H q (.lst (cutV (ns.map V.int) none (some 16))) ∧ ∃ (z : Int) (x : Option V), σ = [some (.ref a), some (.int (j : Int)), some (.int 0), some (.int z), x]) (SqL.of upd_same)
        ⟨rfl, salt, none, rfl⟩ (fun i σ H' _ ⟨e, _⟩ => by rw [e]; exact SqL.of upd_same) ?_ ?_
      · rintro i v σ H' hv ⟨rfl, z, x, rfl⟩
        obtain ⟨u, rfl⟩ := Bar.cut_int hv
        walk_at "rd"
        exact ⟨rfl, _, _, rfl⟩
      · rintro σ H' ⟨rfl, z, x, rfl⟩
        walk_at "rd"
        refine ite2 (fun h => ?_) (fun h => ?_)
        all_goals
          walk_at "rd"
          intro p hp
          walk_at "rd"
          refine k _ _ _ _ (fun b o e => Bar.lkNew hp (Bar.lkNew hq e)) (Bar.freeNew hp) upd_same
def KpB (b : Addr) (s : Int) (H H' : Hp) : Prop := Kp b H H' ∧ ∃ c n, H' b = some (box c s n)
def spSize : Sp := fun vs H Q _ => ∃ (b : Addr) (c s n : Int), vs = [.ref b] ∧ H b = some (box c s n) ∧ ∀ r H', 0 ≤ r → r < big → KpB b s H H' → Q (.int r) H'
theorem ok_size {f : Addr} {fd : FuncData} (F : Fun K "_law_size" "_law_size" s_law_size f fd) (T : Txt mg) (f_law_draw : Fn P w K mg base "_law_draw" P_law_draw [] 1 spDraw) : FnOk P w K mg base CX0 2 f fd P_law_size spSize := by
  refine F.ok sc_law_size (fun vs H Q E h => ?_) (fun cdv A outer s H vs Q E hr h => ?_)
  · obtain ⟨b, c, z, n, rfl, _⟩ := h
    rfl
  · obtain ⟨b, c, z, n, rfl, hb, k⟩ := h
    refine ⟨_, (pss_cons (ps_set (i := 1) sc_law_size.nd rfl (Or.inl rfl) (pe_op op_powW (pe_op op_powW pe_int pe_int) pe_int))
    (pss_cons (ps_set (i := 2) sc_law_size.nd rfl (Or.inl rfl) (pe_tup (pa_cons pe_int (pa_cons (pe_op op_powW pe_int pe_int) (pa_cons (pe_op op_powW pe_int pe_int) (pa_cons pe_int (pa_cons (pe_op op_powW pe_int pe_int) (pa_cons (pv 1) (pa_cons (pe_op op_powW pe_int pe_int) (pa_cons pe_int (pa_cons (pe_op op_powW pe_int pe_int) (pa_cons pe_int (pa_cons (pe_op op_powW pe_int pe_int) (pa_cons pe_int pa_nil))))))))))))))
    (pss_one (ps_ret (pe_fn f_law_draw (hr.mono (by omega)) rfl (pa_cons (pv 0) (pa_cons (pe_ix ix_tup (pv 2) (pe_fn f_law_draw (hr.mono (by omega)) rfl (pa_cons (pv 0) (pa_cons pe_int pa_nil))) (fun _ _ => rfl)) pa_nil))))))), ?_⟩
    refine Bar.rStart (σ := [some (.ref b), none, none]) rfl ?_
    walk_at "rd"
    intro p hp
    walk_at "rd"
    refine ⟨b, c, z, n, 12, rfl, (by walk_at "lk"), by decide, by decide, fun r c' n' r0 r1 => ?_⟩
    obtain ⟨m, hm, m0, m1⟩ := kinds_at r0 r1
    refine Bar.rIxT_ (SqT.of (by walk_at "lk")) hm ?_
    walk_at "rd"
    refine ⟨b, c', z, n', m, rfl, upd_same, m0, m1, fun r c' n' r0 r1 => ?_⟩
    refine k _ _ r0 (Int.lt_of_lt_of_le r1 m1) ⟨fun a o na e => ?_, _, _, upd_same⟩
    exact Bar.lkNe na (Bar.lkNe na (Bar.lkNew hp e))
def spDrawA : Sp := fun vs H Q _ => ∃ (b : Addr) (c s n m : Int), vs = [.ref b, .int m] ∧ H b = some (box c s n) ∧ 0 < m ∧ m ≤ big ∧ ∀ r H', 0 ≤ r → r < m → KpB b s H H' → Q (.int r) H'
theorem drawA (F : Fn P w K mg base "_law_draw" P_law_draw [] 1 spDraw) : Fn P w K mg base "_law_draw" P_law_draw [] 1 spDrawA := by
  obtain ⟨f, fd, ds, h1, h2, h3, h4, ok⟩ := F.ex
  refine ⟨f, fd, ds, h1, h2, h3, h4, ok.imp fun vs H Q E h => ?_⟩
  obtain ⟨b, c, s, n, m, e, hb, m0, m1, k⟩ := h
  exact ⟨b, c, s, n, m, e, hb, m0, m1, fun r c' n' r0 r1 => k r _ r0 r1 ⟨Kp.upd, _, _, upd_same⟩⟩
def spNum : Sp := fun vs H Q _ => ∃ (b : Addr) (c s n : Int), vs = [.ref b] ∧ H b = some (box c s n) ∧ ∀ r H', -big < r → r < big → KpB b s H H' → Q (.int r) H'
theorem ok_number {f : Addr} {fd : FuncData} (F : Fun K "_law_number" "_law_number" s_law_number f fd) (T : Txt mg) (f_law_draw : Fn P w K mg base "_law_draw" P_law_draw [] 1 spDraw) (f_law_size : Fn P w K mg base "_law_size" P_law_size [] 2 spSize) :
    FnOk P w K mg base CX0 3 f fd P_law_number spNum := by
  refine F.ok sc_law_number (fun vs H Q E h => ?_) (fun cdv A outer s H vs Q E hr h => ?_)
  · obtain ⟨b, c, z, n, rfl, _⟩ := h
    rfl
  · obtain ⟨b, c, z, n, rfl, hb, k⟩ := h
    refine ⟨_, (pss_cons (ps_set (i := 1) sc_law_number.nd rfl (Or.inl rfl) (pe_fn f_law_size (hr.mono (by omega)) rfl (pa_cons (pv 0) pa_nil)))
    (pss_cons (ps_if (pt_cmpR op_eq (pe_fn f_law_draw (hr.mono (by omega)) rfl (pa_cons (pv 0) (pa_cons pe_int pa_nil))) pe_int (nomark _)) (pss_one (ps_ret (pv 1))) pss_nil)
    (pss_one (ps_ret (pe_un un_neg (pv 1)))))), ?_⟩
    refine Bar.rStart (σ := [some (.ref b), none]) rfl ?_
    walk_at "rd"
    refine ⟨b, c, z, n, rfl, hb, fun r H1 r0 r1 ⟨K1, c1, n1, hb1⟩ => ?_⟩
    walk_at "rd"
    refine ⟨b, c1, z, n1, 2, rfl, hb1, by decide, by decide, fun r2 c2 n2 _ _ => ?_⟩
    have KK : KpB b z H (upd H1 b (box c2 z n2)) := ⟨K1.trans Kp.upd, _, _, upd_same⟩
    walk_at "rd"
    refine ite2 (fun h => ?_) (fun h => ?_)
    · walk_at "rd"
      exact k _ _ (by omega) r1 KK
    · walk_at "rd"
      exact k _ _ (by omega) (by omega) KK
end

end Lw
namespace Lw
open PySem L2 Bar

/-! ### lists of pairs, as the law draws them -/
/-- at R a list of n pairs, all of them good -/
def RowsP (H : Hp) (R : Addr) (n : Nat) (Gd : Int → Int → Prop) : Prop := ∃ ts : List Addr, H R = some (.lst (ts.map V.ref)) ∧ ts.length = n ∧ ∀ t ∈ ts, ∃ a b, H t = some (.tup [.int a, .int b]) ∧ Gd a b
section
variable {H H' : Hp} {R b : Addr} {n m : Nat} {Gd Ge : Int → Int → Prop}
theorem RowsP.imp (h : RowsP H R n Gd) (k : ∀ a b, Gd a b → Ge a b) : RowsP H R n Ge := by
  obtain ⟨ts, e, l, g⟩ := h
  refine ⟨ts, e, l, fun t ht => ?_⟩
  obtain ⟨x, y, z, w⟩ := g t ht
  exact ⟨x, y, z, k _ _ w⟩
theorem RowsP.keep (h : RowsP H R n Gd) (kR : ∀ o, H R = some o → H' R = some o) (kT : ∀ t xs, H t = some (.tup xs) → H' t = some (.tup xs)) : RowsP H' R n Gd := by
  obtain ⟨ts, e, l, g⟩ := h
  refine ⟨ts, kR _ e, l, fun t ht => ?_⟩
  obtain ⟨x, y, z, w⟩ := g t ht
  exact ⟨x, y, kT _ _ z, w⟩
theorem RowsP.same (S : Same H H') (h : RowsP H R n Gd) : RowsP H' R n Gd := h.keep (fun _ => S _ _) fun _ _ => S _ _
theorem RowsP.new {p : Addr} {o : HO} (hp : H p = none) (h : RowsP H R n Gd) : RowsP (upd H p o) R n Gd := h.same fun _ _ z => Bar.lkNew hp z
theorem RowsP.kp {xs : List V} (k : Kp b H H') (hb : H b = some (.lst xs)) (nR : R ≠ b) (h : RowsP H R n Gd) : RowsP H' R n Gd :=
  h.keep (fun _ z => k _ _ nR z) fun _ _ z => k _ _ (ne_of z hb (by intro w; cases w)) z
theorem RowsP.ne {xs : List V} (hb : H b = some (.lst xs)) (d : ∀ ts : List Addr, xs ≠ ts.map V.ref) (h : RowsP H R n Gd) : R ≠ b := by
  obtain ⟨ts, e, _⟩ := h
  exact ne_of e hb (fun z => d ts (HO.lst.inj z).symm)
/-- what is made of pairs of two lists is such a list again -/
theorem rows_of {ts us : List Addr} {p : Addr} (hp : H p = none) (h : ∀ t ∈ ts, ∃ a b, H t = some (.tup [.int a, .int b]) ∧ Gd a b) (sub : ∀ t ∈ us, t ∈ ts) : RowsP (upd H p (.lst (us.map V.ref))) p us.length Gd := by
  refine ⟨us, upd_same, rfl, fun t ht => ?_⟩
  obtain ⟨x, y, z, w⟩ := h t (sub t ht)
  exact ⟨x, y, Bar.lkNew hp z, w⟩
/-- one pair more -/
theorem RowsP.app {t : Addr} {x y : Int} {ts : List Addr} (e : H R = some (.lst (ts.map V.ref))) (l : ts.length = n) (g : ∀ t ∈ ts, ∃ a b, H t = some (.tup [.int a, .int b]) ∧ Gd a b) (ht : H t = some (.tup [.int x, .int y])) (gt : Gd x y) :
    RowsP (upd H R (.lst (ts.map V.ref ++ [.ref t]))) R (n + 1) Gd := by
  have kT : ∀ u xs, H u = some (.tup xs) → upd H R (.lst (ts.map V.ref ++ [V.ref t])) u = some (.tup xs) := fun u xs z => by
    rw [upd_ne (ne_of z e (by intro w; cases w))]
    exact z
  refine ⟨ts ++ [t], by rw [upd_same, List.map_append]; rfl, by rw [List.length_append, l]; rfl, fun u hu => ?_⟩
  rcases List.mem_append.mp hu with hu | hu
  · obtain ⟨a, c, z, w⟩ := g u hu
    exact ⟨a, c, kT _ _ z, w⟩
  · cases List.mem_singleton.mp hu
    exact ⟨x, y, kT _ _ ht, gt⟩
theorem box_ne {c s q : Int} : ∀ ts : List Addr, [V.int c, .int s, .int q] ≠ ts.map V.ref
  | [], z => by cases z
  | _ :: _, z => by
    have := (List.cons.inj z).1
    cases this
end
theorem cut_map (ts : List Addr) (lo hi : Option Int) : ∃ us : List Addr, cutV (ts.map V.ref) lo hi = us.map V.ref ∧ ∀ t ∈ us, t ∈ ts := by
  unfold cutV
  refine ⟨(ts.drop (HT.sIx (ts.map V.ref).length 0 lo)).take (HT.sIx (ts.map V.ref).length (ts.map V.ref).length hi - HT.sIx (ts.map V.ref).length 0 lo), by rw [List.map_take, List.map_drop], fun t ht => List.mem_of_mem_drop (List.mem_of_mem_take ht)⟩
theorem cut_lo {xs : List V} {i : Int} (h0 : 0 ≤ i) (h1 : i ≤ xs.length) : (cutV xs none (some i)).length = i.toNat := by
  unfold cutV
  simp only [HT.sIx, List.length_take, List.length_drop]
  split <;> omega
theorem cut_hi {xs : List V} {i : Int} (h0 : 0 ≤ i) (h1 : i ≤ xs.length) : (cutV xs (some i) none).length = xs.length - i.toNat := by
  unfold cutV
  simp only [HT.sIx, List.length_take, List.length_drop]
  split <;> omega
theorem small_mul {x y : Int} (h1 : x.natAbs ≤ 10 ^ 60) (h2 : y.natAbs ≤ 10 ^ 60) : CMulW x y := wide_mul (Nat.lt_of_le_of_lt h1 (show 10 ^ 60 < 2 ^ 200 by decide)) (Nat.lt_of_le_of_lt h2 (show 10 ^ 60 < 2 ^ 200 by decide)) (by decide) (by decide) (by decide)
abbrev Gb (B : Int) : Int → Int → Prop := fun a b => 1 ≤ a ∧ a ≤ B ∧ 0 ≤ b ∧ b ≤ B
/-- a drawing that makes a new list of pairs -/
def spRows (Gd : Int → Int → Prop) (lo : Nat) : Sp := fun vs H Q _ => ∃ (b : Addr) (c s n m : Int), vs = [.ref b, .int m] ∧ H b = some (box c s n) ∧ 1 ≤ m ∧ m ≤ 6 ∧ ∀ R (q : Nat) H', H R = none → KpB b s H H' → lo ≤ q → (q : Int) ≤ m → RowsP H' R q Gd → Q (.ref R) H'
theorem eight_at {r : Int} (h0 : 0 ≤ r) (h1 : r < 8) : ∃ m, atI [V.int 1, V.int 2, V.int 3, V.int 4, V.int 5, V.int 5, V.int 6, V.int 6] r = some (.int m) ∧ 1 ≤ m ∧ m ≤ 6 := by
  have h : r = 0 ∨ r = 1 ∨ r = 2 ∨ r = 3 ∨ r = 4 ∨ r = 5 ∨ r = 6 ∨ r = 7 := by omega
  rcases h with h | h | h | h | h | h | h | h <;> (subst h; exact ⟨_, rfl, by decide, by decide⟩)
theorem four_at {r : Int} (h0 : 0 ≤ r) (h1 : r < 4) : ∃ m, atI [V.int 2, V.int 2, V.int 3, V.int 5] r = some (.int m) ∧ 2 ≤ m ∧ m ≤ 5 := by
  have h : r = 0 ∨ r = 1 ∨ r = 2 ∨ r = 3 := by omega
  rcases h with h | h | h | h <;> (subst h; exact ⟨_, rfl, by decide, by decide⟩)


section
variable {P : Program} {w : World} {K : PySem.W.Frag} {mg : Str → Option Value} {base : Heap} {C : Addr}
theorem ok_cover {f : Addr} {fd : FuncData} (F : Fun K "_law_cover" "_law_cover" s_law_cover f fd) (T : Txt mg) (f_law_draw : Fn P w K mg base "_law_draw" P_law_draw [] 1 spDrawA) : FnOk P w K mg base CX0 2 f fd P_law_cover (spRows (Gb 1000) 1) := by
  refine F.ok sc_law_cover (fun vs H Q E h => ?_) (fun cdv A outer s H vs Q E hr h => ?_)
  · obtain ⟨b, c, z, n, m, rfl, _⟩ := h
    rfl
  · obtain ⟨b, c, z, n, m, rfl, hb, m1, m6, k⟩ := h
    refine ⟨_, (pss_cons (ps_set (i := 2) sc_law_cover.nd rfl (Or.inl rfl) (pe_fn f_law_draw (hr.mono (by omega)) rfl (pa_cons (pv 0) (pa_cons pe_int pa_nil))))
    (pss_mid (ps_if (PW.pt (pw_and (pt_cmpR op_lt (pv 2) pe_int (nomark _)) (pw_and1 (pt_cmpR op_gt (pv 1) pe_int (nomark _))))) (pss_cons (ps_set (i := 3) sc_law_cover.nd rfl (Or.inl rfl) (pe_lst pa_nil))
    (pss_cons (ps_set (i := 4) sc_law_cover.nd rfl (Or.inl rfl) pe_int)
    (pss_cons (ps_for PassesOwn.never rfl  (pi_range1 rfl T.b_range (pa_cons (pe_callB (call_min2 rfl) rfl T.b_min (by decide +kernel) (pa_cons (pv 1) (pa_cons (pe_ix ix_tup (pe_tup (pa_cons pe_int (pa_cons pe_int (pa_cons pe_int (pa_cons pe_int (pa_cons pe_int (pa_cons pe_int (pa_cons pe_int (pa_cons pe_int pa_nil))))))))) (pe_fn f_law_draw (hr.mono (by omega)) rfl (pa_cons (pv 0) (pa_cons pe_int pa_nil))) (fun _ _ => rfl)) pa_nil))) pa_nil)) (pg_name (i := 5) sc_law_cover.nd rfl (Or.inl rfl)) (pss_cons (ps_expr (pe_bm PySem.F.plainAttrs_list PySem.F.slot_list_append PySem.F.type_list_append mt_append (pv 3) (pa_cons (pe_tup (pa_cons (pv 4) (pa_cons (pe_op op_sub (pe_op op_fdiv (pv 4) pe_int) pe_int) pa_nil))) pa_nil)))
    (pss_one (ps_set (i := 4) sc_law_cover.nd rfl (Or.inl rfl) (pe_op op_mul (pv 4) pe_int)))))
    (pss_mid (ps_if (pt_cmpR op_lt (pe_callB c_len rfl T.b_len PySem.boot_len (pa_cons (pv 3) pa_nil)) (pv 1) (nomark _)) (pss_one (ps_expr (pe_bm PySem.F.plainAttrs_list PySem.F.slot_list_append PySem.F.type_list_append mt_append (pv 3) (pa_cons (pe_tup (pa_cons (pe_op op_fdiv (pv 4) pe_int) (pa_cons (pe_op op_sub (pe_op op_fdiv (pv 4) pe_int) pe_int) pa_nil))) pa_nil)))) pss_nil)
    (pss_one (ps_ret (pv 3))))))) pss_nil)
    (pss_mid (ps_if (PW.pt (pw_and (pt_cmpR op_eq (pv 2) pe_int (nomark _)) (pw_and1 (pt_cmpR op_gt (pv 1) pe_int (nomark _))))) (pss_one (ps_ret (pe_lst (pa_cons (pe_tup (pa_cons pe_int (pa_cons pe_int pa_nil))) (pa_cons (pe_tup (pa_cons pe_int (pa_cons pe_int pa_nil))) (pa_cons (pe_tup (pa_cons pe_int (pa_cons pe_int pa_nil))) (pa_cons (pe_tup (pa_cons pe_int (pa_cons pe_int pa_nil))) (pa_cons (pe_tup (pa_cons pe_int (pa_cons pe_int pa_nil))) pa_nil)))))))) pss_nil)
    (pss_cons (ps_set (i := 3) sc_law_cover.nd rfl (Or.inl rfl) (pe_lst (pa_cons (pe_tup (pa_cons pe_int (pa_cons pe_int pa_nil))) pa_nil)))
    (pss_cons (ps_for PassesOwn.never rfl  (pi_range1 rfl T.b_range (pa_cons pe_int pa_nil)) (pg_name (i := 6) sc_law_cover.nd rfl (Or.inl rfl)) (pss_cons (ps_set (i := 7) sc_law_cover.nd rfl (Or.inr rfl) (pe_ix ix_tup (pe_tup (pa_cons pe_int (pa_cons pe_int (pa_cons pe_int (pa_cons pe_int pa_nil))))) (pe_fn f_law_draw (hr.mono (by omega)) rfl (pa_cons (pv 0) (pa_cons pe_int pa_nil))) (fun _ _ => rfl)))
    (pss_one (ps_if (pt_cmpR op_le (pe_op op_sub (pe_op op_add (pe_callB c_len rfl T.b_len PySem.boot_len (pa_cons (pv 3) pa_nil)) (pv 7)) pe_int) (pv 1) (nomark _)) (pss_cons (ps_set (i := 8) sc_law_cover.nd rfl (Or.inl rfl) (pe_fn f_law_draw (hr.mono (by omega)) rfl (pa_cons (pv 0) (pa_cons (pe_callB c_len rfl T.b_len PySem.boot_len (pa_cons (pv 3) pa_nil)) pa_nil))))
    (pss_cons (ps_set (i := 9) sc_law_cover.nd rfl (Or.inr rfl) (pe_ix ix_list (pv 3) (pv 8) (fun _ _ => rfl)))
    (pss_one (ps_set (i := 3) sc_law_cover.nd rfl (Or.inl rfl) (pe_op op_cat (pe_op op_cat (pe_slice sl_list (pv 3) po_none (po_some (pv 8))) (pe_slice sl_list (pv 3) (po_some (pe_op op_add (pv 8) pe_int)) po_none)) (pe_lc (own := [("_law_k", 5)]) (g := gName 5) rfl sc_law_cover.nd (pi_range1 rfl T.b_range (pa_cons (pv 7) pa_nil)) (blkOk_by (own := [("_law_k", 5)]) (N := N_law_cover) (sc := defScope s_law_cover) (by decide +kernel)) (fun _ _ _ _ _ => pg_name (i := 5) sc_law_cover.nd rfl (Or.inl rfl)) (fun _ _ _ _ _ => pts_nil) (fun _ _ _ _ _ => (pe_tup (pa_cons (pe_op op_mulW (pe_ix (r := rIxT K) ix_tup (pv 9) pe_int (fun _ _ => rfl)) (pv 7)) (pa_cons (pe_op op_add (pe_ix (r := rIxT K) ix_tup (pv 9) pe_int (fun _ _ => rfl)) (pe_op op_mulW (pe_ix (r := rIxT K) ix_tup (pv 9) pe_int (fun _ _ => rfl)) (pv 5))) pa_nil)))))))))) pss_nil))))
    (pss_one (ps_ret (pv 3)))))))), ?_⟩
    refine Bar.rStart (σ := [some (.ref b), some (.int m), none, none, none, none, none, none, none, none]) rfl ?_
    walk_at "rd"
    refine ⟨b, c, z, n, 6, rfl, hb, by decide, by decide, fun kd H1 kl ku ⟨K1, c1, n1, hb1⟩ => ?_⟩
    walk_at "rd"
    refine ⟨fun σ H' => H1 = H' ∧ σ = [some (.ref b), some (.int m), some (.int kd), none, none, none, none, none, none, none], ?_, ?_⟩
    · walk_at "rd"
      refine ite2 (fun h => ?_) (fun h => ?_)
      · walk_at "rd"
        refine ite2 (fun h2 => ?_) (fun h2 => ?_)
        · have m2 : 1 < m := of_decide_eq_true h2
          walk_at "rd"
          intro R hR
          walk_at "rd"
          intro tq htq
          walk_at "rd"
          have hRq : upd (upd H1 R (.lst [])) tq (.tup [.int 1, .int 2, .int 3, .int 4, .int 5, .int 5, .int 6, .int 6]) R = some (.lst []) := Bar.lkNew htq upd_same
          have nRb : R ≠ b := fun e => by
            rw [e, hb1] at hR
            cases hR
          have htq1 : H1 tq = none := Bar.freeNew htq
          have nqb : tq ≠ b := fun e => by
            rw [e, hb1] at htq1
            cases htq1
          refine ⟨b, c1, z, n1, 8, rfl, Bar.lkNew htq (Bar.lkNew hR hb1), by decide, by decide, fun r8 H2 l8 u8 ⟨K2, c2, n2, hb2⟩ => ?_⟩
          obtain ⟨v, hv, v1, v6⟩ := eight_at l8 u8
          refine Bar.rIxT_ (SqT.of (K2 _ _ nqb upd_same)) hv ?_
          walk_at "rd"
          refine ⟨_, _, rfl, ?_⟩
          walk_at "rd"
          have hR2 := K2 _ _ nRb hRq
          have KK : Kp b H H2 := ((K1.trans (Kp.new hR)).trans (Kp.new htq)).trans K2
          generalize hcn : (if v < m then v else m) = cn
          have cn1 : 1 ≤ cn ∧ cn ≤ m := by
            rw [← hcn]
            split <;> omega
          have hRH : H R = none := K1.free hb hb1 hR
          clear hcn hv hRq
          refine Bar.forR cn.toNat rfl (fun i σ H' => Kp R H2 H' ∧ RowsP H' R i (Gb 1000) ∧ ∃ (s : Int) (x : Option V), s = ((2 ^ (i + 1) : Nat) : Int) ∧ σ = [some (.ref b), some (.int m), some (.int kd), some (.ref R), some (.int s), x, none, none, none, none]) (by omega) ⟨Kp.refl, ⟨[], hR2, rfl, fun _ z => nomatch z⟩, 2, none, rfl, rfl⟩ ?_ ?_
          · rintro i σ H' hi ⟨K3, ⟨ts, e, l, g⟩, s, x, hs, rfl⟩
            have sb : 2 ≤ s ∧ s ≤ 128 := by
              have h1 : 2 ^ (i + 1) ≤ 2 ^ 7 := Nat.pow_le_pow_right (by decide) (by omega)
              have h2 : 2 ^ 1 ≤ 2 ^ (i + 1) := Nat.pow_le_pow_right (by decide) (by omega)
              omega
            walk_at "rd"
            intro t ht
            walk_at "rd"
            have nt : ∀ {p : Addr} {o : HO}, H' p = some o → p ≠ t := fun z => ne_of_none z ht
            have e' := Bar.lkNew (o := .tup [.int s, .int (s / 2 - 1)]) ht e
            refine Bar.rAppend_ e' (Bar.szLt (by rw [List.length_map]; omega)) ?_
            walk_at "rd"
            refine ⟨fun p o np z => by rw [upd_ne np]; exact Bar.lkNew ht (K3 _ _ np z), ?_, s * 2, _, ?_, rfl⟩
            · refine RowsP.app e' l (fun u hu => ?_) upd_same ⟨by omega, by omega, by omega, by omega⟩
              obtain ⟨a, c, y, w⟩ := g u hu
              exact ⟨a, c, Bar.lkNew ht y, w⟩
            · rw [hs]
              show _ = ((2 ^ (i + 1 + 1) : Nat) : Int)
              rw [Nat.pow_succ 2 (i + 1)]
              omega
          · rintro σ H' ⟨K3, RP, s, x, hs, rfl⟩
            have sb : 2 ≤ s ∧ s ≤ 128 := by
              have h1 : 2 ^ (cn.toNat + 1) ≤ 2 ^ 7 := Nat.pow_le_pow_right (by decide) (by omega)
              have h2 : 2 ^ 1 ≤ 2 ^ (cn.toNat + 1) := Nat.pow_le_pow_right (by decide) (by omega)
              omega
            have hb3 := K3 _ _ nRb.symm hb2
            have KR : ∀ {H4 : Hp}, Kp R H' H4 → Kp b H H4 := fun {H4} k4 p o np z => by
              have nR : p ≠ R := ne_of_none z hRH
              exact k4 _ _ nR (K3 _ _ nR (KK _ _ np z))
            have RP' := id RP
            obtain ⟨ts, e, l, g⟩ := RP
            walk_at "rd"
            refine ⟨fun σ H4 => Kp R H' H4 ∧ ∃ q : Nat, 1 ≤ q ∧ (q : Int) ≤ m ∧ RowsP H4 R q (Gb 1000) ∧ σ = [some (.ref b), some (.int m), some (.int kd), some (.ref R), some (.int s), x, none, none, none, none], ?_, ?_⟩
            · walk_at "rd"
              refine ite2 (fun h3 => ?_) (fun h3 => ?_)
              · have lt := of_decide_eq_true h3
                rw [List.length_map] at lt
                walk_at "rd"
                intro t ht
                walk_at "rd"
                have e' := Bar.lkNew (o := .tup [.int (s / 2), .int (s / 2 - 1)]) ht e
                refine Bar.rAppend_ e' (Bar.szLt (by rw [List.length_map]; omega)) ?_
                walk_at "rd"
                refine ⟨fun p o np z => by rw [upd_ne np]; exact Bar.lkNew ht z, cn.toNat + 1, by omega, by omega, ?_, rfl⟩
                refine RowsP.app e' l (fun u hu => ?_) upd_same ⟨by omega, by omega, by omega, by omega⟩
                obtain ⟨a, c, y, w⟩ := g u hu
                exact ⟨a, c, Bar.lkNew ht y, w⟩
              · walk_at "rd"
                exact ⟨Kp.refl, cn.toNat, by omega, by omega, RP', rfl⟩
            · rintro σ H4 ⟨K4, q, q1, q2, RQ, rfl⟩
              walk_at "rd"
              exact k R q H4 hRH ⟨KR K4, _, _, K4 _ _ nRb.symm hb3⟩ q1 q2 RQ
        · walk_at "rd"
          exact ⟨rfl, rfl⟩
      · walk_at "rd"
        exact ⟨rfl, rfl⟩
    · rintro σ H' ⟨rfl, rfl⟩
      walk_at "rd"
      refine ⟨fun σ H' => H1 = H' ∧ σ = [some (.ref b), some (.int m), some (.int kd), none, none, none, none, none, none, none], ?_, ?_⟩
      · walk_at "rd"
        refine ite2 (fun h => ?_) (fun h => ?_)
        · walk_at "rd"
          refine ite2 (fun h2 => ?_) (fun h2 => ?_)
          · have m5 : 4 < m := of_decide_eq_true h2
            walk_at "rd"
            intro t1 h1
            walk_at "rd"
            intro t2 h2
            walk_at "rd"
            intro t3 h3
            walk_at "rd"
            intro t4 h4
            walk_at "rd"
            intro t5 h5
            walk_at "rd"
            intro R hR
            have hR0 := freeNew (freeNew (freeNew (freeNew (freeNew hR))))
            refine k R 5 _ (K1.free hb hb1 hR0) ⟨((((((K1.trans (Kp.new h1)).trans (Kp.new h2)).trans (Kp.new h3)).trans (Kp.new h4)).trans (Kp.new h5)).trans (Kp.new hR)), _, _, Bar.lkNew hR (Bar.lkNew h5 (Bar.lkNew h4 (Bar.lkNew h3 (Bar.lkNew h2 (Bar.lkNew h1 hb1)))))⟩ (by decide) (by omega) ⟨[t1, t2, t3, t4, t5], upd_same, rfl, fun t ht => ?_⟩
            simp only [List.mem_cons, List.not_mem_nil, or_false] at ht
            rcases ht with e | e | e | e | e <;> subst e
            · exact ⟨2, 0, Bar.lkNew hR (Bar.lkNew h5 (Bar.lkNew h4 (Bar.lkNew h3 (Bar.lkNew h2 upd_same)))), by decide⟩
            · exact ⟨3, 0, Bar.lkNew hR (Bar.lkNew h5 (Bar.lkNew h4 (Bar.lkNew h3 upd_same))), by decide⟩
            · exact ⟨4, 1, Bar.lkNew hR (Bar.lkNew h5 (Bar.lkNew h4 upd_same)), by decide⟩
            · exact ⟨6, 5, Bar.lkNew hR (Bar.lkNew h5 upd_same), by decide⟩
            · exact ⟨12, 7, Bar.lkNew hR upd_same, by decide⟩
          · walk_at "rd"
            exact ⟨rfl, rfl⟩
        · walk_at "rd"
          exact ⟨rfl, rfl⟩
      · rintro σ H' ⟨rfl, rfl⟩
        walk_at "rd"
        intro t0 ht0
        walk_at "rd"
        intro R0 hR0
        walk_at "rd"
        have hR0' := freeNew hR0
        refine Bar.forR 4 rfl (fun i σ H' => Kp b H H' ∧ (∃ c n, H' b = some (box c z n)) ∧ ∃ (R : Addr) (q : Nat) (x5 x6 x7 x8 x9 : Option V), H R = none ∧ 1 ≤ q ∧ (q : Int) ≤ m ∧ RowsP H' R q (Gb ((5 ^ i : Nat) : Int)) ∧ σ = [some (.ref b), some (.int m), some (.int kd), some (.ref R), none, x5, x6, x7, x8, x9]) (by decide)
          ⟨(K1.trans (Kp.new ht0)).trans (Kp.new hR0), ⟨_, _, Bar.lkNew hR0 (Bar.lkNew ht0 hb1)⟩, R0, 1, _, _, _, _, _, K1.free hb hb1 hR0', by decide, m1, ⟨[t0], upd_same, rfl, fun t ht => ?_⟩, rfl⟩ ?_ ?_
        · cases List.mem_singleton.mp ht
          exact ⟨1, 0, Bar.lkNew hR0 upd_same, by decide⟩
        · rintro i σ H' hi ⟨KK, ⟨c2, n2, hb2⟩, R, q, x5, x6, x7, x8, x9, hRH, q1, qm, RP, rfl⟩
          have pw : (1 : Int) ≤ ((5 ^ i : Nat) : Int) ∧ ((5 ^ i : Nat) : Int) ≤ 625 := by
            have h1 : 5 ^ i ≤ 5 ^ 4 := Nat.pow_le_pow_right (by decide) (by omega)
            have h2 : 5 ^ 0 ≤ 5 ^ i := Nat.pow_le_pow_right (by decide) (by omega)
            omega
          have pw5 : ((5 ^ (i + 1) : Nat) : Int) = ((5 ^ i : Nat) : Int) * 5 := by
            rw [Nat.pow_succ]
            omega
          have nRb : R ≠ b := RP.ne hb2 box_ne
          walk_at "rd"
          intro tq htq
          walk_at "rd"
          have nqb : tq ≠ b := fun e => by
            rw [e, hb2] at htq
            cases htq
          refine ⟨b, c2, z, n2, 4, rfl, Bar.lkNew htq hb2, by decide, by decide, fun r4 H2 l4 u4 ⟨K2, c3, n3, hb3⟩ => ?_⟩
          obtain ⟨v, hv, v2, v5⟩ := four_at l4 u4
          refine Bar.rIxT_ (SqT.of (K2 _ _ nqb upd_same)) hv ?_
          have RP2 := (RP.new (o := .tup [.int 2, .int 2, .int 3, .int 5]) htq).kp K2 (Bar.lkNew htq hb2) nRb
          have KK2 := (KK.trans (Kp.new (o := .tup [.int 2, .int 2, .int 3, .int 5]) htq)).trans K2
          clear K2 htq hb2 hv RP KK
          generalize ((5 ^ i : Nat) : Int) = B at pw pw5 RP2
          have up : RowsP H2 R q (Gb ((5 ^ (i + 1) : Nat) : Int)) := RP2.imp fun a b ⟨h1, h2, h3, h4⟩ => ⟨h1, by omega, h3, by omega⟩
          have RP3 := id RP2
          obtain ⟨ts, e, l, g⟩ := RP2
          walk_at "rd"
          refine ite2 (fun h => ?_) (fun h => ?_)
          · have fit := of_decide_eq_true h
            rw [List.length_map, l] at fit
            walk_at "rd"
            refine ⟨b, c3, z, n3, ((ts.map V.ref).length : Nat), rfl, hb3, by rw [List.length_map]; omega, by rw [List.length_map]; exact Int.le_trans (show (ts.length : Int) ≤ 6 by omega) (by decide), fun at' H3 al au ⟨K3, c4, n4, hb4⟩ => ?_⟩
            rw [List.length_map] at au
            have e3 := K3 _ _ nRb e
            obtain ⟨told, hold⟩ : ∃ t, ts[at'.toNat]? = some t := ⟨_, List.getElem?_eq_getElem (by omega)⟩
            have hix : atI (ts.map V.ref) at' = some (.ref told) := by
              have := atI_nat (xs := ts.map V.ref) (j := at'.toNat) (v := V.ref told) (by rw [List.getElem?_map, hold]; rfl)
              rwa [Int.toNat_of_nonneg al] at this
            obtain ⟨oa, ob, ho, w1, w2, w3, w4⟩ := g told (List.mem_of_getElem? hold)
            have kT3 : ∀ {t : Addr} {xs : List V}, H2 t = some (.tup xs) → H3 t = some (.tup xs) := fun y => K3 _ _ (ne_of y hb3 (by intro w; cases w)) y
            have ho3 := kT3 ho
            walk_at "rd"
            refine Bar.rIxL_ (SqL.of e3) hix ?_
            walk_at "rd"
            refine Bar.rSlL_ (SqL.of e3) fun s1 hs1 => ?_
            walk_at "rd"
            refine Bar.rSlL_ (SqL.of (Bar.lkNew hs1 e3)) fun s2 hs2 => ?_
            walk_at "rd"
            obtain ⟨u1, eu1, su1⟩ := cut_map ts none (some at')
            obtain ⟨u2, eu2, su2⟩ := cut_map ts (some (at' + 1)) none
            have lu1 : u1.length = at'.toNat := by
              rw [← List.length_map (f := V.ref), ← eu1, cut_lo al (by rw [List.length_map]; omega)]
            have lu2 : u2.length = ts.length - (at' + 1).toNat := by
              rw [← List.length_map (f := V.ref), ← eu2, cut_hi (by omega) (by rw [List.length_map]; omega), List.length_map]
            rw [eu1] at hs2
            rw [eu1, eu2]
            refine rCat_ (Bar.lkNew hs2 upd_same) upd_same (Nat.le_trans (show _ ≤ 1000 by rw [List.length_map, List.length_map]; omega) (by decide)) fun s3 hs3 => ?_
            walk_at "rd"
            have H5e : ∀ {p : Addr} {o : HO}, H3 p = some o → upd (upd (upd H3 s1 (.lst (u1.map V.ref))) s2 (.lst (u2.map V.ref))) s3 (.lst (u1.map V.ref ++ u2.map V.ref)) p = some o := fun y => Bar.lkNew hs3 (Bar.lkNew hs2 (Bar.lkNew hs1 y))
            have hs3e : upd (upd (upd H3 s1 (.lst (u1.map V.ref))) s2 (.lst (u2.map V.ref))) s3 (.lst (u1.map V.ref ++ u2.map V.ref)) s3 = some (.lst (u1.map V.ref ++ u2.map V.ref)) := upd_same
            have n5 : ∀ {p : Addr}, upd (upd (upd H3 s1 (.lst (u1.map V.ref))) s2 (.lst (u2.map V.ref))) s3 (.lst (u1.map V.ref ++ u2.map V.ref)) p = none → H3 p = none := fun y => freeNew (freeNew (freeNew y))
            generalize upd (upd (upd H3 s1 (.lst (u1.map V.ref))) s2 (.lst (u2.map V.ref))) s3 (.lst (u1.map V.ref ++ u2.map V.ref)) = H5 at H5e hs3e n5 ⊢
            have ho5 := H5e ho3
            refine Bar.lcR (τ := [some (.ref b), some (.int m), some (.int kd), some (.ref R), none, none, some (.int i), some (.int v), some (.int at'), some (.ref told)]) v.toNat rfl rfl (by omega) (fun D hD => ⟨fun j H' => Same H5 H' ∧ ∃ us : List Addr, H' D = some (.lst (us.map V.ref)) ∧ us.length = j ∧ ∀ t ∈ us, ∃ a c, H' t = some (.tup [.int a, .int c]) ∧ Gb ((5 ^ (i + 1) : Nat) : Int) a c,
              ⟨fun _ _ y => Bar.lkNew hD y, [], upd_same, rfl, fun _ z => nomatch z⟩, ?_, ?_⟩)
            · rintro j H' hj ⟨S, us, hD', lus, gus⟩
              have ho6 := S _ _ ho5
              have wv : CMulW oa v := small_mul (Nat.le_trans (show oa.natAbs ≤ 1000 by omega) (by decide)) (Nat.le_trans (show v.natAbs ≤ 1000 by omega) (by decide))
              have wj : CMulW oa (j : Int) := small_mul (Nat.le_trans (show oa.natAbs ≤ 1000 by omega) (by decide)) (Nat.le_trans (show (j : Int).natAbs ≤ 1000 by omega) (by decide))
              walk_at "rd"
              refine ⟨rfl, ?_⟩
              walk_at "rd"
              intro t ht
              refine ⟨_, Bar.lkNew ht hD', Bar.szLt (by rw [List.length_map]; omega), fun p o y => ?_, us ++ [t], by rw [upd_same, List.map_append]; rfl, by rw [List.length_append, lus]; rfl, fun u hu => ?_⟩
              · rw [upd_ne (ne_of_none y hD)]
                exact Bar.lkNew ht (S _ _ y)
              · have kT : ∀ {t' : Addr} {xs : List V}, upd H' t (.tup [.int (oa * v), .int (ob + oa * j)]) t' = some (.tup xs) → upd (upd H' t (.tup [.int (oa * v), .int (ob + oa * j)])) D (.lst (us.map V.ref ++ [.ref t])) t' = some (.tup xs) := fun y => by
                  rw [upd_ne (ne_of y (Bar.lkNew ht hD') (by intro w; cases w))]
                  exact y
                rcases List.mem_append.mp hu with hu | hu
                · obtain ⟨a, c, y, w⟩ := gus u hu
                  exact ⟨a, c, kT (Bar.lkNew ht y), w⟩
                · cases List.mem_singleton.mp hu
                  refine ⟨_, _, kT upd_same, ?_⟩
                  rw [pw5]
                  have q0 : 1 * v ≤ oa * v := Int.mul_le_mul_of_nonneg_right w1 (by omega)
                  have q1 : oa * v ≤ B * v := Int.mul_le_mul_of_nonneg_right w2 (by omega)
                  have q2 : B * v ≤ B * 5 := Int.mul_le_mul_of_nonneg_left v5 (by omega)
                  have q3 : 0 ≤ oa * (j : Int) := Int.mul_nonneg (by omega) (by omega)
                  have q4 : oa * (j : Int) ≤ oa * 4 := Int.mul_le_mul_of_nonneg_left (by omega) (by omega)
                  exact ⟨by omega, by omega, by omega, by omega⟩
            · rintro H6 ⟨S, us, hD', lus, gus⟩
              have hs36 := S _ _ hs3e
              refine rCat_ hs36 hD' (Nat.le_trans (show _ ≤ 1000 by rw [List.length_append, List.length_map, List.length_map, List.length_map]; omega) (by decide)) fun s4 hs4 => ?_
              walk_at "rd"
              have keep : ∀ {p : Addr} {o : HO}, H3 p = some o → upd H6 s4 (.lst ((u1.map V.ref ++ u2.map V.ref) ++ us.map V.ref)) p = some o := fun y => Bar.lkNew hs4 (S _ _ (H5e y))
              refine ⟨fun p o n y => keep (K3 _ _ n (KK2 _ _ n y)), ⟨_, _, keep hb4⟩, s4, u1.length + u2.length + us.length, _, _, _, _, _, ?_, by omega, by omega, ⟨(u1 ++ u2) ++ us, ?_, by rw [List.length_append, List.length_append], fun t ht => ?_⟩, rfl⟩
              · cases q : H s4 with
                | none => rfl
                | some o =>
                  have nb : s4 ≠ b := fun e => by
                    rw [e, S _ _ (H5e hb4)] at hs4
                    cases hs4
                  rw [S _ _ (H5e (K3 _ _ nb (KK2 _ _ nb q)))] at hs4
                  cases hs4
              · rw [upd_same, List.map_append, List.map_append]
              · rcases List.mem_append.mp ht with ht | ht
                · obtain ⟨a, c, y, w⟩ : ∃ a c, H2 t = some (.tup [.int a, .int c]) ∧ Gb B a c := by
                    rcases List.mem_append.mp ht with ht | ht
                    · exact g t (su1 t ht)
                    · exact g t (su2 t ht)
                  exact ⟨a, c, keep (kT3 y), w.1, by have := w.2.1; omega, w.2.2.1, by have := w.2.2.2; omega⟩
                · obtain ⟨a, c, y, w⟩ := gus t ht
                  exact ⟨a, c, Bar.lkNew hs4 y, w⟩
          · walk_at "rd"
            exact ⟨KK2, ⟨_, _, hb3⟩, R, q, _, _, _, _, _, hRH, q1, qm, up, rfl⟩
        · rintro σ H' ⟨KK, ⟨c2, n2, hb2⟩, R, q, x5, x6, x7, x8, x9, hRH, q1, qm, RP, rfl⟩
          walk_at "rd"
          exact k R q H' hRH ⟨KK, _, _, hb2⟩ q1 qm (RP.imp fun a b ⟨h1, h2, h3, h4⟩ => ⟨h1, Int.le_trans h2 (by decide), h3, Int.le_trans h4 (by decide)⟩)
end

end Lw
namespace Lw
open PySem L2 Bar

theorem fourP_at {r : Int} (h0 : 0 ≤ r) (h1 : r < 4) : ∃ m, atI [V.int (10 ^ Int.toNat 30), V.int (10 ^ Int.toNat 6), V.int 60, V.int ((10 ^ Int.toNat 57) ^ Int.toNat 7)] r = some (.int m) ∧ 1 ≤ m ∧ m ≤ big := by
  have h : r = 0 ∨ r = 1 ∨ r = 2 ∨ r = 3 := by omega
  rcases h with h | h | h | h <;> (subst h; exact ⟨_, rfl, by decide, by decide⟩)
theorem threeU_at {r : Int} (h0 : 0 ≤ r) (h1 : r < 3) : ∃ m, atI [V.int 12, V.int (10 ^ Int.toNat 6), V.int (10 ^ Int.toNat 30)] r = some (.int m) ∧ 1 ≤ m ∧ m ≤ 10 ^ 30 := by
  have h : r = 0 ∨ r = 1 ∨ r = 2 := by omega
  rcases h with h | h | h <;> (subst h; exact ⟨_, rfl, by decide, by decide⟩)
def spPairD : Sp := fun vs H Q _ => ∃ (b : Addr) (c s n : Int), vs = [.ref b] ∧ H b = some (box c s n) ∧ ∀ t x y H', H t = none → KpB b s H H' → H' t = some (.tup [.int x, .int y]) → 1 ≤ x → x ≤ big → 0 ≤ y → y ≤ big → Q (.ref t) H'
section
variable {P : Program} {w : World} {K : PySem.W.Frag} {mg : Str → Option Value} {base : Heap} {C : Addr}
theorem ok_pair {f : Addr} {fd : FuncData} (F : Fun K "_law_pair" "_law_pair" s_law_pair f fd) (T : Txt mg) (f_law_draw : Fn P w K mg base "_law_draw" P_law_draw [] 1 spDrawA) : FnOk P w K mg base CX0 2 f fd P_law_pair spPairD := by
  refine F.ok sc_law_pair (fun vs H Q E h => ?_) (fun cdv A outer s H vs Q E hr h => ?_)
  · obtain ⟨b, c, z, n, rfl, _⟩ := h
    rfl
  · obtain ⟨b, c, z, n, rfl, hb, k⟩ := h
    refine ⟨_, (pss_cons (ps_set (i := 1) sc_law_pair.nd rfl (Or.inl rfl) (pe_op op_add pe_int (pe_fn f_law_draw (hr.mono (by omega)) rfl (pa_cons (pv 0) (pa_cons pe_int pa_nil)))))
    (pss_cons (ps_if (pt_cmpR op_eq (pe_fn f_law_draw (hr.mono (by omega)) rfl (pa_cons (pv 0) (pa_cons pe_int pa_nil))) pe_int (nomark _)) (pss_one (ps_set (i := 1) sc_law_pair.nd rfl (Or.inl rfl) (pe_op op_add pe_int (pe_fn f_law_draw (hr.mono (by omega)) rfl (pa_cons (pv 0) (pa_cons (pe_ix ix_tup (pe_tup (pa_cons (pe_op op_powW pe_int pe_int) (pa_cons (pe_op op_powW pe_int pe_int) (pa_cons pe_int (pa_cons (pe_op op_powW (pe_op op_powW pe_int pe_int) pe_int) pa_nil))))) (pe_fn f_law_draw (hr.mono (by omega)) rfl (pa_cons (pv 0) (pa_cons pe_int pa_nil))) (fun _ _ => rfl)) pa_nil)))))) pss_nil)
    (pss_one (ps_ret (pe_tup (pa_cons (pv 1) (pa_cons (pe_fn f_law_draw (hr.mono (by omega)) rfl (pa_cons (pv 0) (pa_cons (pv 1) pa_nil))) pa_nil))))))), ?_⟩
    refine Bar.rStart (σ := [some (.ref b), none]) rfl ?_
    have b60 : (60 : Int) ≤ big := by decide
    walk_at "rd"
    refine ⟨b, c, z, n, 12, rfl, hb, by decide, by decide, fun r1 H1 l1 u1 ⟨K1, c1, n1, hb1⟩ => ?_⟩
    walk_at "rd"
    refine ⟨b, c1, z, n1, 4, rfl, hb1, by decide, by decide, fun r2 H2 l2 u2 ⟨K2, c2, n2, hb2⟩ => ?_⟩
    walk_at "rd"
    refine ite2 (fun h => ?_) (fun h => ?_)
    · walk_at "rd"
      intro tq htq
      walk_at "rd"
      have nqb : tq ≠ b := fun e => by
        rw [e, hb2] at htq
        cases htq
      refine ⟨b, c2, z, n2, 4, rfl, Bar.lkNew htq hb2, by decide, by decide, fun r3 H3 l3 u3 ⟨K3, c3, n3, hb3⟩ => ?_⟩
      obtain ⟨v, hv, v1, v2⟩ := fourP_at l3 u3
      refine Bar.rIxT_ (SqT.of (K3 _ _ nqb upd_same)) hv ?_
      walk_at "rd"
      refine ⟨b, c3, z, n3, v, rfl, hb3, by omega, v2, fun r4 H4 l4 u4 ⟨K4, c4, n4, hb4⟩ => ?_⟩
      walk_at "rd"
      refine ⟨b, c4, z, n4, 1 + r4, rfl, hb4, by omega, by omega, fun r5 H5 l5 u5 ⟨K5, c5, n5, hb5⟩ => ?_⟩
      walk_at "rd"
      intro t ht
      have KK : Kp b H H5 := ((((K1.trans K2).trans (Kp.new htq)).trans K3).trans K4).trans K5
      exact k t _ _ _ (KK.free hb hb5 ht) ⟨KK.trans (Kp.new ht), _, _, Bar.lkNew ht hb5⟩ upd_same (by omega) (by omega) l5 (by omega)
    · walk_at "rd"
      refine ⟨b, c2, z, n2, 1 + r1, rfl, hb2, by omega, by omega, fun r5 H5 l5 u5 ⟨K5, c5, n5, hb5⟩ => ?_⟩
      walk_at "rd"
      intro t ht
      have KK : Kp b H H5 := (K1.trans K2).trans K5
      exact k t _ _ _ (KK.free hb hb5 ht) ⟨KK.trans (Kp.new ht), _, _, Bar.lkNew ht hb5⟩ upd_same (by omega) (by omega) l5 (by omega)
/-- a drawn pair, ready: its remainder taken -/
abbrev Gm : Int → Int → Prop := fun a b => 1 ≤ a ∧ a ≤ big ∧ 0 ≤ b ∧ b < a
abbrev Gr : Int → Int → Prop := fun a b => 1 ≤ a ∧ a ≤ big ∧ 0 ≤ b ∧ b ≤ big
theorem ok_grids {f : Addr} {fd : FuncData} (F : Fun K "_law_grids" "_law_grids" s_law_grids f fd) (T : Txt mg) (f_law_draw : Fn P w K mg base "_law_draw" P_law_draw [] 1 spDrawA) (f_law_cover : Fn P w K mg base "_law_cover" P_law_cover [] 2 (spRows (Gb 1000) 1)) (f_law_pair : Fn P w K mg base "_law_pair" P_law_pair [] 2 spPairD) :
    FnOk P w K mg base CX0 3 f fd P_law_grids (spRows Gm 0) := by
  refine F.ok sc_law_grids (fun vs H Q E h => ?_) (fun cdv A outer s H vs Q E hr h => ?_)
  · obtain ⟨b, c, z, n, m, rfl, _⟩ := h
    rfl
  · obtain ⟨b, c, z, n, m, rfl, hb, m1, m6, k⟩ := h
    refine ⟨_, (pss_cons (ps_set (i := 2) sc_law_grids.nd rfl (Or.inl rfl) (pe_lst pa_nil))
    (pss_mid (ps_if (pt_cmpR op_gt (pe_fn f_law_draw (hr.mono (by omega)) rfl (pa_cons (pv 0) (pa_cons pe_int pa_nil))) pe_int (nomark _)) (pss_cons (ps_set (i := 2) sc_law_grids.nd rfl (Or.inl rfl) (pe_fn f_law_cover (hr.mono (by omega)) rfl (pa_cons (pv 0) (pa_cons (pv 1) pa_nil))))
    (pss_mid (ps_if (pt_cmpR op_eq (pe_fn f_law_draw (hr.mono (by omega)) rfl (pa_cons (pv 0) (pa_cons pe_int pa_nil))) pe_int (nomark _)) (pss_cons (ps_set (i := 3) sc_law_grids.nd rfl (Or.inl rfl) (pe_fn f_law_draw (hr.mono (by omega)) rfl (pa_cons (pv 0) (pa_cons (pe_callB c_len rfl T.b_len PySem.boot_len (pa_cons (pv 2) pa_nil)) pa_nil))))
    (pss_one (ps_set (i := 2) sc_law_grids.nd rfl (Or.inl rfl) (pe_op op_cat (pe_slice sl_list (pv 2) po_none (po_some (pv 3))) (pe_slice sl_list (pv 2) (po_some (pe_op op_add (pv 3) pe_int)) po_none))))) pss_nil)
    (pss_one (ps_if (pt_cmpR op_eq (pe_fn f_law_draw (hr.mono (by omega)) rfl (pa_cons (pv 0) (pa_cons pe_int pa_nil))) pe_int (nomark _)) (pss_cons (ps_set (i := 4) sc_law_grids.nd rfl (Or.inr rfl) (pe_op op_add pe_int (pe_fn f_law_draw (hr.mono (by omega)) rfl (pa_cons (pv 0) (pa_cons (pe_ix ix_tup (pe_tup (pa_cons pe_int (pa_cons (pe_op op_powW pe_int pe_int) (pa_cons (pe_op op_powW pe_int pe_int) pa_nil)))) (pe_fn f_law_draw (hr.mono (by omega)) rfl (pa_cons (pv 0) (pa_cons pe_int pa_nil))) (fun _ _ => rfl)) pa_nil)))))
    (pss_cons (ps_set (i := 5) sc_law_grids.nd rfl (Or.inr rfl) (pe_fn f_law_draw (hr.mono (by omega)) rfl (pa_cons (pv 0) (pa_cons (pv 4) pa_nil))))
    (pss_one (ps_setLc (i := 2) (own := [("_law_row", 8)]) (g := gName 8) rfl sc_law_grids.nd rfl rfl (sw_true rfl rfl rfl (by decide +kernel)) (pi_list (pv 2)) (blkOk_by (own := [("_law_row", 8)]) (N := N_law_grids) (sc := defScope s_law_grids) (by decide +kernel)) (fun _ _ _ _ _ => pg_name (i := 8) sc_law_grids.nd rfl (Or.inl rfl)) (fun _ _ _ _ _ => pts_nil) (fun _ _ _ _ _ => (pe_tup (pa_cons (pe_op op_mulW (pe_ix (r := rIxT K) ix_tup (pv 8) pe_int (fun _ _ => rfl)) (pv 4)) (pa_cons (pe_op op_add (pe_op op_mulW (pe_ix (r := rIxT K) ix_tup (pv 8) pe_int (fun _ _ => rfl)) (pv 4)) (pv 5)) pa_nil)))))))) pss_nil)))) pss_nil)
    (pss_cons (ps_for PassesOwn.never rfl  (pi_range1 rfl T.b_range (pa_cons (pe_fn f_law_draw (hr.mono (by omega)) rfl (pa_cons (pv 0) (pa_cons (pe_op op_add (pe_op op_sub (pv 1) (pe_callB c_len rfl T.b_len PySem.boot_len (pa_cons (pv 2) pa_nil))) pe_int) pa_nil))) pa_nil)) (pg_name (i := 6) sc_law_grids.nd rfl (Or.inl rfl)) (pss_one (ps_expr (pe_bm PySem.F.plainAttrs_list PySem.F.slot_list_append PySem.F.type_list_append mt_append (pv 2) (pa_cons (pe_fn f_law_pair (hr.mono (by omega)) rfl (pa_cons (pv 0) pa_nil)) pa_nil)))))
    (pss_mid (ps_if (PW.pt (pw_and (pt_chain op_lt op_lt pe_int (pe_callB c_len rfl T.b_len PySem.boot_len (pa_cons (pv 2) pa_nil)) (pv 1)) (pw_and1 (pt_cmpR op_eq (pe_fn f_law_draw (hr.mono (by omega)) rfl (pa_cons (pv 0) (pa_cons pe_int pa_nil))) pe_int (nomark _))))) (pss_one (ps_expr (pe_bm PySem.F.plainAttrs_list PySem.F.slot_list_append PySem.F.type_list_append mt_append (pv 2) (pa_cons (pe_ix ix_list (pv 2) (pe_fn f_law_draw (hr.mono (by omega)) rfl (pa_cons (pv 0) (pa_cons (pe_callB c_len rfl T.b_len PySem.boot_len (pa_cons (pv 2) pa_nil)) pa_nil))) (fun _ _ => rfl)) pa_nil)))) pss_nil)
    (pss_cons (ps_set (i := 5) sc_law_grids.nd rfl (Or.inr rfl) (pe_fn f_law_draw (hr.mono (by omega)) rfl (pa_cons (pv 0) (pa_cons (pe_op op_powW pe_int pe_int) pa_nil))))
    (pss_cons (ps_set (i := 7) sc_law_grids.nd rfl (Or.inl rfl) (pe_fn f_law_draw (hr.mono (by omega)) rfl (pa_cons (pv 0) (pa_cons (pe_op op_add (pe_callB c_len rfl T.b_len PySem.boot_len (pa_cons (pv 2) pa_nil)) pe_int) pa_nil))))
    (pss_cons (ps_set (i := 2) sc_law_grids.nd rfl (Or.inl rfl) (pe_op op_cat (pe_slice sl_list (pv 2) (po_some (pv 7)) po_none) (pe_slice sl_list (pv 2) po_none (po_some (pv 7)))))
    (pss_mid (ps_if (pt_cmpR op_eq (pe_fn f_law_draw (hr.mono (by omega)) rfl (pa_cons (pv 0) (pa_cons pe_int pa_nil))) pe_int (nomark _)) (pss_one (ps_set (i := 2) sc_law_grids.nd rfl (Or.inl rfl) (pe_revL (pv 2)))) pss_nil)
    (pss_one (ps_ret (pe_lc (own := [("_law_row", 8)]) (g := gName 8) rfl sc_law_grids.nd (pi_list (pv 2)) (blkOk_by (own := [("_law_row", 8)]) (N := N_law_grids) (sc := defScope s_law_grids) (by decide +kernel)) (fun _ _ _ _ _ => pg_name (i := 8) sc_law_grids.nd rfl (Or.inl rfl)) (fun _ _ _ _ _ => pts_nil) (fun _ _ _ _ _ => (pe_tup (pa_cons (pe_ix (r := rIxT K) ix_tup (pv 8) pe_int (fun _ _ => rfl)) (pa_cons (pe_op op_mod (pe_callTy c_int rfl T.b_int (by decide +kernel) (pa_cons (pe_op op_add (pe_ix (r := rIxT K) ix_tup (pv 8) pe_int (fun _ _ => rfl)) (pv 5)) pa_nil)) (pe_ix (r := rIxT K) ix_tup (pv 8) pe_int (fun _ _ => rfl))) pa_nil))))))))))))))), ?_⟩
    refine Bar.rStart (σ := [some (.ref b), some (.int m), none, none, none, none, none, none, none]) rfl ?_
    walk_at "rd"
    intro R0 hR0
    walk_at "rd"
    have nR0 : R0 ≠ b := fun e => by
      rw [e, hb] at hR0
      cases hR0
    refine ⟨fun σ H' => Kp b H H' ∧ (∃ c n, H' b = some (box c z n)) ∧ ∃ (R : Addr) (q : Nat) (x3 x4 x5 : Option V), H R = none ∧ (q : Int) ≤ m ∧ RowsP H' R q (Gb (10 ^ 34)) ∧ σ = [some (.ref b), some (.int m), some (.ref R), x3, x4, x5, none, none, none], ?_, ?_⟩
    · walk_at "rd"
      refine ⟨b, c, z, n, 4, rfl, Bar.lkNew hR0 hb, by decide, by decide, fun r1 H1 l1 u1 ⟨K1, c1, n1, hb1⟩ => ?_⟩
      have K1' : Kp b H H1 := (Kp.new hR0).trans K1
      walk_at "rd"
      refine ite2 (fun h => ?_) (fun h => ?_)
      · walk_at "rd"
        refine ⟨b, c1, z, n1, m, rfl, hb1, m1, m6, fun R q H2 hR2 ⟨K2, c2, n2, hb2⟩ q1 qm RP => ?_⟩
        have hRH := K1'.free hb hb1 hR2
        have K2' := K1'.trans K2
        clear K1 K2 K1' hR2 hb1 hR0 nR0 h
        walk_at "rd"
        refine ⟨fun σ H' => Kp b H H' ∧ (∃ c n, H' b = some (box c z n)) ∧ ∃ (R : Addr) (q : Nat) (x3 : Option V), H R = none ∧ (q : Int) ≤ m ∧ RowsP H' R q (Gb 1000) ∧ σ = [some (.ref b), some (.int m), some (.ref R), x3, none, none, none, none, none], ?_, ?_⟩
        · walk_at "rd"
          refine ⟨b, c2, z, n2, 4, rfl, hb2, by decide, by decide, fun r3 H3 _ _ ⟨K3, c3, n3, hb3⟩ => ?_⟩
          have nRb : R ≠ b := RP.ne hb2 box_ne
          replace RP := RP.kp K3 hb2 nRb
          replace K3 := K2'.trans K3
          clear hb2 K2'
          walk_at "rd"
          refine ite2 (fun h => ?_) (fun h => ?_)
          · obtain ⟨ts, e, l, g⟩ := id RP
            walk_at "rd"
            refine ⟨b, c3, z, n3, ((ts.map V.ref).length : Nat), rfl, hb3, by rw [List.length_map]; omega, by rw [List.length_map]; exact Int.le_trans (show (ts.length : Int) ≤ 6 by omega) (by decide), fun at' H4 al au ⟨K4, c4, n4, hb4⟩ => ?_⟩
            rw [List.length_map] at au
            have e4 := K4 _ _ nRb e
            walk_at "rd"
            refine Bar.rSlL_ (SqL.of e4) fun s1 hs1 => ?_
            walk_at "rd"
            refine Bar.rSlL_ (SqL.of (Bar.lkNew hs1 e4)) fun s2 hs2 => ?_
            walk_at "rd"
            obtain ⟨u1, eu1, su1⟩ := cut_map ts none (some at')
            obtain ⟨u2, eu2, su2⟩ := cut_map ts (some (at' + 1)) none
            have lu1 : u1.length = at'.toNat := by
              rw [← List.length_map (f := V.ref), ← eu1, cut_lo al (by rw [List.length_map]; omega)]
            have lu2 : u2.length = ts.length - (at' + 1).toNat := by
              rw [← List.length_map (f := V.ref), ← eu2, cut_hi (by omega) (by rw [List.length_map]; omega), List.length_map]
            rw [eu1] at hs2
            rw [eu1, eu2]
            refine rCat_ (Bar.lkNew hs2 upd_same) upd_same (Nat.le_trans (show _ ≤ 1000 by rw [List.length_map, List.length_map]; omega) (by decide)) fun s3 hs3 => ?_
            walk_at "rd"
            have keep : ∀ {p : Addr} {o : HO}, H4 p = some o → upd (upd (upd H4 s1 (.lst (u1.map V.ref))) s2 (.lst (u2.map V.ref))) s3 (.lst (u1.map V.ref ++ u2.map V.ref)) p = some o := fun y => Bar.lkNew hs3 (Bar.lkNew hs2 (Bar.lkNew hs1 y))
            refine ⟨fun p o np y => keep (K4 _ _ np (K3 _ _ np y)), ⟨_, _, keep hb4⟩, s3, (u1 ++ u2).length, _, ?_, by rw [List.length_append]; omega, ⟨u1 ++ u2, ?_, rfl, fun t ht => ?_⟩, rfl⟩
            · exact (K3.trans K4).free hb hb4 (freeNew (freeNew hs3))
            · rw [upd_same, List.map_append]
            · obtain ⟨a, c, y, w⟩ := g t (by
                rcases List.mem_append.mp ht with ht | ht
                · exact su1 t ht
                · exact su2 t ht)
              exact ⟨a, c, keep (K4 _ _ (ne_of y hb3 (by intro w; cases w)) y), w⟩
          · walk_at "rd"
            exact ⟨K3, ⟨_, _, hb3⟩, R, q, _, hRH, qm, RP, rfl⟩
        · rintro σ H3 ⟨K3, ⟨c3, n3, hb3⟩, R, q, x3, hRH, qm, RP, rfl⟩
          clear K2' hb2
          have nRb : R ≠ b := RP.ne hb3 box_ne
          walk_at "rd"
          refine ⟨b, c3, z, n3, 6, rfl, hb3, by decide, by decide, fun r4 H4 _ _ ⟨K4, c4, n4, hb4⟩ => ?_⟩
          replace RP := RP.kp K4 hb3 nRb
          replace K4 := K3.trans K4
          clear K3 hb3
          walk_at "rd"
          refine ite2 (fun h => ?_) (fun h => ?_)
          · walk_at "rd"
            intro tq htq
            walk_at "rd"
            have nqb : tq ≠ b := fun e => by
              rw [e, hb4] at htq
              cases htq
            refine ⟨b, c4, z, n4, 3, rfl, Bar.lkNew htq hb4, by decide, by decide, fun r5 H5 l5 u5 ⟨K5, c5, n5, hb5⟩ => ?_⟩
            obtain ⟨v, hv, v1, v2⟩ := threeU_at l5 u5
            refine Bar.rIxT_ (SqT.of (K5 _ _ nqb upd_same)) hv ?_
            replace RP := (RP.new (o := .tup [.int 12, .int (10 ^ Int.toNat 6), .int (10 ^ Int.toNat 30)]) htq).kp K5 (Bar.lkNew htq hb4) nRb
            replace K5 := (K4.trans (Kp.new (o := .tup [.int 12, .int (10 ^ Int.toNat 6), .int (10 ^ Int.toNat 30)]) htq)).trans K5
            clear htq hb4 hv K4
            walk_at "rd"
            refine ⟨b, c5, z, n5, v, rfl, hb5, by omega, Int.le_trans v2 (by decide), fun r6 H6 l6 u6 ⟨K6, c6, n6, hb6⟩ => ?_⟩
            replace RP := RP.kp K6 hb5 nRb
            replace K6 := K5.trans K6
            clear K5 hb5
            walk_at "rd"
            refine ⟨b, c6, z, n6, 1 + r6, rfl, hb6, by omega, Int.le_trans (show 1 + r6 ≤ 10 ^ 30 by omega) (by decide), fun r7 H7 l7 u7 ⟨K7, c7, n7, hb7⟩ => ?_⟩
            replace RP := RP.kp K7 hb6 nRb
            replace K7 := K6.trans K7
            clear K6 hb6
            obtain ⟨ts, e, l, g⟩ := RP
            walk_at "rd"
            refine Bar.lcL (xs := ts.map V.ref) (τ := [some (.ref b), some (.int m), some (.ref R), x3, some (.int (1 + r6)), some (.int r7), none, none, none]) rfl (SqL.of e) (fun D hD => ⟨fun j H' => Same H7 H' ∧ ∃ us : List Addr, H' D = some (.lst (us.map V.ref)) ∧ us.length = j ∧ ∀ t ∈ us, ∃ a c, H' t = some (.tup [.int a, .int c]) ∧ Gb (10 ^ 34) a c,
              ⟨fun _ _ y => Bar.lkNew hD y, [], upd_same, rfl, fun _ z => nomatch z⟩, fun i H' _ ⟨S, _⟩ => SqL.of (S _ _ e), ?_, ?_⟩)
            · rintro j x H' hx ⟨S, us, hD', lus, gus⟩
              obtain ⟨t, ht, rfl⟩ : ∃ t, t ∈ ts ∧ x = V.ref t := by
                obtain ⟨t, ht, e⟩ := List.mem_map.mp (List.mem_of_getElem? hx)
                exact ⟨t, ht, e.symm⟩
              have jl : j < ts.length := by
                have := (List.getElem?_eq_some_iff.mp hx).1
                rwa [List.length_map] at this
              obtain ⟨oa, ob, ho, w1, w2, w3, w4⟩ := g t ht
              have ho6 := S _ _ ho
              have us' : (1 + r6).natAbs ≤ 10 ^ 60 := Nat.le_trans (show (1 + r6).natAbs ≤ 10 ^ 30 by omega) (by decide)
              have wv : CMulW oa (1 + r6) := small_mul (Nat.le_trans (show oa.natAbs ≤ 1000 by omega) (by decide)) us'
              have wj : CMulW ob (1 + r6) := small_mul (Nat.le_trans (show ob.natAbs ≤ 1000 by omega) (by decide)) us'
              walk_at "rd"
              refine ⟨rfl, ?_⟩
              walk_at "rd"
              intro t' ht'
              refine ⟨_, Bar.lkNew ht' hD', Bar.szLt (by rw [List.length_map]; omega), fun p o y => ?_, us ++ [t'], by rw [upd_same, List.map_append]; rfl, by rw [List.length_append, lus]; rfl, fun u hu => ?_⟩
              · rw [upd_ne (ne_of_none y hD)]
                exact Bar.lkNew ht' (S _ _ y)
              · have kT : ∀ {t'' : Addr} {xs : List V}, upd H' t' (.tup [.int (oa * (1 + r6)), .int (ob * (1 + r6) + r7)]) t'' = some (.tup xs) → upd (upd H' t' (.tup [.int (oa * (1 + r6)), .int (ob * (1 + r6) + r7)])) D (.lst (us.map V.ref ++ [.ref t'])) t'' = some (.tup xs) := fun y => by
                  rw [upd_ne (ne_of y (Bar.lkNew ht' hD') (by intro w; cases w))]
                  exact y
                rcases List.mem_append.mp hu with hu | hu
                · obtain ⟨a, c, y, w⟩ := gus u hu
                  exact ⟨a, c, kT (Bar.lkNew ht' y), w⟩
                · cases List.mem_singleton.mp hu
                  refine ⟨_, _, kT upd_same, ?_⟩
                  have q0 : 1 * (1 + r6) ≤ oa * (1 + r6) := Int.mul_le_mul_of_nonneg_right w1 (by omega)
                  have q1 : oa * (1 + r6) ≤ 1000 * (1 + r6) := Int.mul_le_mul_of_nonneg_right w2 (by omega)
                  have q2 : ob * (1 + r6) ≤ 1000 * (1 + r6) := Int.mul_le_mul_of_nonneg_right w4 (by omega)
                  have q3 : 0 ≤ ob * (1 + r6) := Int.mul_nonneg w3 (by omega)
                  exact ⟨by omega, by omega, by omega, by omega⟩
            · rintro H8 ⟨S, us, hD', lus, gus⟩
              walk_at "rd"
              rw [List.length_map] at lus
              exact ⟨fun p o np y => S _ _ (K7 _ _ np y), ⟨_, _, S _ _ hb7⟩, D, us.length, _, _, _, K7.free hb hb7 hD, by omega, ⟨us, hD', rfl, gus⟩, rfl⟩
          · walk_at "rd"
            exact ⟨K4, ⟨_, _, hb4⟩, R, q, _, _, _, hRH, qm, RP.imp fun a b ⟨h1, h2, h3, h4⟩ => ⟨h1, Int.le_trans h2 (by decide), h3, Int.le_trans h4 (by decide)⟩, rfl⟩
      · walk_at "rd"
        exact ⟨K1', ⟨_, _, hb1⟩, R0, 0, _, _, _, hR0, by omega, ⟨[], K1 _ _ nR0 upd_same, rfl, fun _ z => nomatch z⟩, rfl⟩
    · rintro σ H1 ⟨K1, ⟨c1, n1, hb1⟩, R, q, x3, x4, x5, hRH, qm, RP, rfl⟩
      have nRb : R ≠ b := RP.ne hb1 box_ne
      replace RP : RowsP H1 R q Gr := RP.imp fun a b ⟨h1, h2, h3, h4⟩ => ⟨h1, Int.le_trans h2 (by decide), h3, Int.le_trans h4 (by decide)⟩
      have lq : ∃ ts : List Addr, H1 R = some (.lst (ts.map V.ref)) ∧ (ts.map V.ref).length = q := by
        obtain ⟨ts, e, l, _⟩ := RP
        exact ⟨ts, e, by rw [List.length_map, l]⟩
      obtain ⟨ts0, e0, l0⟩ := lq
      walk_at "rd"
      rw [l0]
      refine ⟨b, c1, z, n1, _, rfl, hb1, by omega, Int.le_trans (show m - (q : Int) + 1 ≤ 7 by omega) (by decide), fun r1 H2 r1l r1u ⟨K2, c2, n2, hb2⟩ => ?_⟩
      replace RP := RP.kp K2 hb1 nRb
      replace K2 := K1.trans K2
      clear K1 hb1 e0 l0 ts0
      refine Bar.forR r1.toNat rfl (fun i σ H' => Kp b H H' ∧ (∃ c n, H' b = some (box c z n)) ∧ RowsP H' R (q + i) Gr ∧ ∃ x6 : Option V, σ = [some (.ref b), some (.int m), some (.ref R), x3, x4, x5, x6, none, none]) (by omega) ⟨K2, ⟨_, _, hb2⟩, RP, none, rfl⟩ ?_ ?_
      · rintro i σ H' hi ⟨KK, ⟨c3, n3, hb3⟩, RP, x6, rfl⟩
        obtain ⟨ts0, e0, _⟩ := id RP
        walk_at "rd"
        refine ⟨b, c3, z, n3, rfl, hb3, fun t x y H3 ht ⟨K3, c4, n4, hb4⟩ hT x1 x2 y1 y2 => ?_⟩
        replace RP := RP.kp K3 hb3 nRb
        obtain ⟨ts, e, l, g⟩ := RP
        walk_at "rd"
        refine Bar.rAppend_ e (Bar.szLt (by rw [List.length_map]; omega)) ?_
        walk_at "rd"
        refine ⟨fun p o np y => ?_, ⟨_, _, (upd_ne nRb.symm).trans hb4⟩, RowsP.app e l g hT ⟨x1, x2, y1, y2⟩, _, rfl⟩
        rw [upd_ne (ne_of_none y hRH)]
        exact K3 _ _ np (KK _ _ np y)
      · rintro σ H3 ⟨K3, ⟨c3, n3, hb3⟩, RP, x6, rfl⟩
        clear K2 hb2
        have qm2 : ((q + r1.toNat : Nat) : Int) ≤ m := by omega
        generalize q + r1.toNat = q2 at RP qm2
        walk_at "rd"
        refine ⟨fun σ H' => Kp b H H' ∧ (∃ c n, H' b = some (box c z n)) ∧ (∃ q3 : Nat, (q3 : Int) ≤ m ∧ RowsP H' R q3 Gr) ∧ σ = [some (.ref b), some (.int m), some (.ref R), x3, x4, x5, x6, none, none], ?_, ?_⟩
        · obtain ⟨ts, e, l, g⟩ := id RP
          walk_at "rd"
          refine ite2 (fun h => ?_) (fun h => ?_)
          · have q0 := of_decide_eq_true h
            rw [List.length_map] at q0
            walk_at "rd"
            refine ite2 (fun h2 => ?_) (fun h2 => ?_)
            · have q1 := of_decide_eq_true h2
              rw [List.length_map] at q1
              walk_at "rd"
              refine ⟨b, c3, z, n3, 4, rfl, hb3, by decide, by decide, fun r4 H4 _ _ ⟨K4, c4, n4, hb4⟩ => ?_⟩
              have e4 := K4 _ _ nRb e
              walk_at "rd"
              refine ite2 (fun h3 => ?_) (fun h3 => ?_)
              · walk_at "rd"
                refine ⟨b, c4, z, n4, ((ts.map V.ref).length : Nat), rfl, hb4, by rw [List.length_map]; omega, by rw [List.length_map]; exact Int.le_trans (show (ts.length : Int) ≤ 6 by omega) (by decide), fun at' H5 al au ⟨K5, c5, n5, hb5⟩ => ?_⟩
                rw [List.length_map] at au
                have e5 := K5 _ _ nRb e4
                obtain ⟨told, hold⟩ : ∃ t, ts[at'.toNat]? = some t := ⟨_, List.getElem?_eq_getElem (by omega)⟩
                have hix : atI (ts.map V.ref) at' = some (.ref told) := by
                  have := atI_nat (xs := ts.map V.ref) (j := at'.toNat) (v := V.ref told) (by rw [List.getElem?_map, hold]; rfl)
                  rwa [Int.toNat_of_nonneg al] at this
                have g5 : ∀ t ∈ ts, ∃ a c, H5 t = some (.tup [.int a, .int c]) ∧ Gr a c := fun t ht => by
                  obtain ⟨a, c, y, w⟩ := g t ht
                  have nb := ne_of y hb3 (by intro w; cases w)
                  exact ⟨a, c, K5 _ _ nb (K4 _ _ nb y), w⟩
                obtain ⟨oa, ob, ho, w⟩ := g5 told (List.mem_of_getElem? hold)
                refine Bar.rIxL_ (SqL.of e5) hix ?_
                walk_at "rd"
                refine Bar.rAppend_ e5 (Bar.szLt (by rw [List.length_map]; omega)) ?_
                walk_at "rd"
                refine ⟨fun p o np y => ?_, ⟨_, _, (upd_ne nRb.symm).trans hb5⟩, ⟨q2 + 1, by omega, RowsP.app e5 l g5 ho w⟩, rfl⟩
                rw [upd_ne (ne_of_none y hRH)]
                exact K5 _ _ np (K4 _ _ np (K3 _ _ np y))
              · walk_at "rd"
                exact ⟨K3.trans K4, ⟨_, _, hb4⟩, ⟨q2, qm2, RP.kp K4 hb3 nRb⟩, rfl⟩
            · walk_at "rd"
              exact ⟨K3, ⟨_, _, hb3⟩, ⟨q2, qm2, RP⟩, rfl⟩
          · walk_at "rd"
            exact ⟨K3, ⟨_, _, hb3⟩, ⟨q2, qm2, RP⟩, rfl⟩
        · rintro σ H4 ⟨K4, ⟨c4, n4, hb4⟩, ⟨q3, qm3, RP⟩, rfl⟩
          clear K3 hb3 qm2
          walk_at "rd"
          refine ⟨b, c4, z, n4, _, rfl, hb4, by decide, by decide, fun r5 H5 r5l r5u ⟨K5, c5, n5, hb5⟩ => ?_⟩
          replace RP := RP.kp K5 hb4 nRb
          replace K5 := K4.trans K5
          clear K4 hb4
          obtain ⟨ts, e, l, g⟩ := RP
          walk_at "rd"
          refine ⟨b, c5, z, n5, _, rfl, hb5, by rw [List.length_map]; omega, by rw [List.length_map]; exact Int.le_trans (show (ts.length : Int) + 1 ≤ 7 by omega) (by decide), fun tn H6 tnl tnu ⟨K6, c6, n6, hb6⟩ => ?_⟩
          rw [List.length_map] at tnu
          have e6 := K6 _ _ nRb e
          have g6 : ∀ t ∈ ts, ∃ a c, H6 t = some (.tup [.int a, .int c]) ∧ Gr a c := fun t ht => by
            obtain ⟨a, c, y, w⟩ := g t ht
            exact ⟨a, c, K6 _ _ (ne_of y hb5 (by intro w; cases w)) y, w⟩
          replace K6 := K5.trans K6
          clear K5 hb5 e g
          walk_at "rd"
          refine Bar.rSlL_ (SqL.of e6) fun s1 hs1 => ?_
          walk_at "rd"
          refine Bar.rSlL_ (SqL.of (Bar.lkNew hs1 e6)) fun s2 hs2 => ?_
          walk_at "rd"
          obtain ⟨u1, eu1, su1⟩ := cut_map ts (some tn) none
          obtain ⟨u2, eu2, su2⟩ := cut_map ts none (some tn)
          have lu1 : u1.length = ts.length - tn.toNat := by
            rw [← List.length_map (f := V.ref), ← eu1, cut_hi tnl (by rw [List.length_map]; omega), List.length_map]
          have lu2 : u2.length = tn.toNat := by
            rw [← List.length_map (f := V.ref), ← eu2, cut_lo tnl (by rw [List.length_map]; omega)]
          rw [eu1] at hs2
          rw [eu1, eu2]
          refine rCat_ (Bar.lkNew hs2 upd_same) upd_same (Nat.le_trans (show _ ≤ 1000 by rw [List.length_map, List.length_map]; omega) (by decide)) fun s3 hs3 => ?_
          walk_at "rd"
          have keep : ∀ {p : Addr} {o : HO}, H6 p = some o → upd (upd (upd H6 s1 (.lst (u1.map V.ref))) s2 (.lst (u2.map V.ref))) s3 (.lst (u1.map V.ref ++ u2.map V.ref)) p = some o := fun y => Bar.lkNew hs3 (Bar.lkNew hs2 (Bar.lkNew hs1 y))
          have e7 : upd (upd (upd H6 s1 (.lst (u1.map V.ref))) s2 (.lst (u2.map V.ref))) s3 (.lst (u1.map V.ref ++ u2.map V.ref)) s3 = some (.lst ((u1 ++ u2).map V.ref)) := by
            rw [upd_same, List.map_append]
          have s3H : H s3 = none := K6.free hb hb6 (freeNew (freeNew hs3))
          generalize upd (upd (upd H6 s1 (.lst (u1.map V.ref))) s2 (.lst (u2.map V.ref))) s3 (.lst (u1.map V.ref ++ u2.map V.ref)) = H7 at keep e7 ⊢
          have g7 : ∀ t ∈ u1 ++ u2, ∃ a c, H7 t = some (.tup [.int a, .int c]) ∧ Gr a c := fun t ht => by
            obtain ⟨a, c, y, w⟩ := g6 t (by
              rcases List.mem_append.mp ht with ht | ht
              · exact su1 t ht
              · exact su2 t ht)
            exact ⟨a, c, keep y, w⟩
          have l7 : (u1 ++ u2).length = q3 := by
            rw [List.length_append]
            omega
          have K7 : Kp b H H7 := fun p o np y => keep (K6 _ _ np y)
          have hb7 := keep hb6
          have ns3 : s3 ≠ b := fun e => by
            rw [e, hb] at s3H
            cases s3H
          clear keep su1 su2 lu1 lu2 eu1 eu2 e6 g6 K6 hb6 hs3 hs2 hs1
          refine ⟨fun σ H' => Kp b H H' ∧ (∃ c n, H' b = some (box c z n)) ∧ ∃ (R : Addr), H R = none ∧ RowsP H' R q3 Gr ∧ ∃ x4' : Option V, σ = [some (.ref b), some (.int m), some (.ref R), x3, x4', some (.int r5), x6, some (.int tn), none], ?_, ?_⟩
          · walk_at "rd"
            refine ⟨b, c6, z, n6, 2, rfl, hb7, by decide, by decide, fun r8 H8 _ _ ⟨K8, c8, n8, hb8⟩ => ?_⟩
            have e8 := K8 _ _ ns3 e7
            have g8 : ∀ t ∈ u1 ++ u2, ∃ a c, H8 t = some (.tup [.int a, .int c]) ∧ Gr a c := fun t ht => by
              obtain ⟨a, c, y, w⟩ := g7 t ht
              exact ⟨a, c, K8 _ _ (ne_of y hb7 (by intro w; cases w)) y, w⟩
            walk_at "rd"
            refine ite2 (fun h3 => ?_) (fun h3 => ?_)
            · walk_at "rd"
              refine ⟨_, _, rfl, SqL.of e8, fun s4 hs4 => ?_⟩
              walk_at "rd"
              refine ⟨fun p o np y => Bar.lkNew hs4 (K8 _ _ np (K7 _ _ np y)), ⟨_, _, Bar.lkNew hs4 hb8⟩, s4, (K7.trans K8).free hb hb8 hs4, ⟨(u1 ++ u2).reverse, by rw [upd_same, List.map_reverse], by rw [List.length_reverse, l7], fun t ht => ?_⟩, _, rfl⟩
              obtain ⟨a, c, y, w⟩ := g8 t (List.mem_reverse.mp ht)
              exact ⟨a, c, Bar.lkNew hs4 y, w⟩
            · walk_at "rd"
              exact ⟨K7.trans K8, ⟨_, _, hb8⟩, s3, s3H, ⟨u1 ++ u2, e8, l7, g8⟩, _, rfl⟩
          · rintro σ H8 ⟨K8, ⟨c8, n8, hb8⟩, R8, R8H, ⟨ts, e, l, g⟩, x4', rfl⟩
            walk_at "rd"
            refine Bar.lcL (xs := ts.map V.ref) (τ := [some (.ref b), some (.int m), some (.ref R8), x3, x4', some (.int r5), x6, some (.int tn), none]) rfl (SqL.of e) (fun D hD => ⟨fun j H' => Same H8 H' ∧ ∃ us : List Addr, H' D = some (.lst (us.map V.ref)) ∧ us.length = j ∧ ∀ t ∈ us, ∃ a c, H' t = some (.tup [.int a, .int c]) ∧ Gm a c,
              ⟨fun _ _ y => Bar.lkNew hD y, [], upd_same, rfl, fun _ z => nomatch z⟩, fun i H' _ ⟨S, _⟩ => SqL.of (S _ _ e), ?_, ?_⟩)
            · rintro j x H' hx ⟨S, us, hD', lus, gus⟩
              obtain ⟨t, ht, rfl⟩ : ∃ t, t ∈ ts ∧ x = V.ref t := by
                obtain ⟨t, ht, e⟩ := List.mem_map.mp (List.mem_of_getElem? hx)
                exact ⟨t, ht, e.symm⟩
              have jl : j < ts.length := by
                have := (List.getElem?_eq_some_iff.mp hx).1
                rwa [List.length_map] at this
              obtain ⟨oa, ob, ho, w1, w2, w3, w4⟩ := g t ht
              have ho6 := S _ _ ho
              have ap : 0 < oa := by omega
              walk_at "rd"
              refine ⟨rfl, ?_⟩
              walk_at "rd"
              intro t' ht'
              refine ⟨_, Bar.lkNew ht' hD', Bar.szLt (by rw [List.length_map]; omega), fun p o y => ?_, us ++ [t'], by rw [upd_same, List.map_append]; rfl, by rw [List.length_append, lus]; rfl, fun u hu => ?_⟩
              · rw [upd_ne (ne_of_none y hD)]
                exact Bar.lkNew ht' (S _ _ y)
              · have kT : ∀ {t'' : Addr} {xs : List V}, upd H' t' (.tup [.int oa, .int ((ob + r5) % oa)]) t'' = some (.tup xs) → upd (upd H' t' (.tup [.int oa, .int ((ob + r5) % oa)])) D (.lst (us.map V.ref ++ [.ref t'])) t'' = some (.tup xs) := fun y => by
                  rw [upd_ne (ne_of y (Bar.lkNew ht' hD') (by intro w; cases w))]
                  exact y
                rcases List.mem_append.mp hu with hu | hu
                · obtain ⟨a, c, y, w⟩ := gus u hu
                  exact ⟨a, c, kT (Bar.lkNew ht' y), w⟩
                · cases List.mem_singleton.mp hu
                  exact ⟨_, _, kT upd_same, w1, w2, Int.emod_nonneg _ (by omega), Int.emod_lt_of_pos _ ap⟩
            · rintro H9 ⟨S, us, hD', lus, gus⟩
              walk_at "rd"
              rw [List.length_map] at lus
              exact k D us.length H9 (K8.free hb hb8 hD) ⟨fun p o np y => S _ _ (K8 _ _ np y), _, _, S _ _ hb8⟩ (Nat.zero_le _) (by omega) ⟨us, hD', rfl, gus⟩
end

end Lw
namespace Lw
open PySem L2 Bar

/-! ### grids -/
abbrev gf (st o : Int) : List (Str × V) := [("step", .int st), ("offset", .int o)]
def GridAt (C : Addr) (H : Hp) (g : Addr) (st o : Int) : Prop := ∃ dx, H g = some (.ins C dx (gf st o))
structure GTxt (K : PySem.W.Frag) (C : Addr) : Prop where
  cl : Cls K C
  nS : NoAttr K C "step"
  nO : NoAttr K C "offset"
theorem put_step (st : Int) : putF ("step" : Str) (.int st) [] = ([("step", V.int st)] : List (Str × V)) := rfl
theorem put_off (st o : Int) : putF ("offset" : Str) (.int o) ([("step", V.int st)] : List (Str × V)) = gf st o := by
  show (if ("step" : Str) = "offset" then _ else (("step" : Str), V.int st) :: putF "offset" (V.int o) []) = _
  rw [if_neg (show ¬ (("step" : Str) = "offset") by decide +kernel)]
  rfl
theorem gf_step (st o : Int) : (gf st o).lookup ("step" : Str) = some (.int st) := by
  rw [← put_off, lookup_putF, if_neg (show ¬ (("step" : Str) = "offset") by decide +kernel), ← put_step, lookup_putF, if_pos rfl]
theorem gf_off (st o : Int) : (gf st o).lookup ("offset" : Str) = some (.int o) := by
  rw [← put_off, lookup_putF, if_pos rfl]
/-- a new grid -/
def spInit (C : Addr) : Sp := fun vs H Q _ => ∃ (p dx : Addr) (st o : Int), vs = [.ref p, .int st, .int o] ∧ H p = some (.ins C dx []) ∧ 1 ≤ st ∧ ∀ H', Kp p H H' → H' p = some (.ins C dx (gf st (o % st))) → Q .non H'
def spIn (C : Addr) : Sp := fun vs H Q _ => ∃ (g : Addr) (st o x : Int), vs = [.ref g, .int x] ∧ GridAt C H g st o ∧ 1 ≤ st ∧ Q (.bl (decide (x % st = o))) H
section
variable {P : Program} {w : World} {K : PySem.W.Frag} {mg : Str → Option Value} {base : Heap} {C : Addr}
theorem mkG {H : Hp} {R : Addr → Hp → Prop} {E : XK} {st o : Int} (s1 : 1 ≤ st) (h : ∀ x H2, H x = none → Same H H2 → GridAt C H2 x st (o % st) → R x H2) :
    ∀ x dx, H x = none → H dx = none → dx ≠ x → spInit C [.ref x, .int st, .int o] (upd (upd H dx (.own x)) x (.ins C dx [])) (fun v H2 => v = .non ∧ R x H2) E := by
  intro x dx hx hdx ne
  refine ⟨x, dx, st, o, rfl, upd_same, s1, fun H' k hp => ⟨rfl, h x H' hx (fun b u e => ?_) ⟨dx, hp⟩⟩⟩
  have nb : b ≠ x := ne_of_none e hx
  refine k b u nb ?_
  rw [upd_ne nb]
  exact Bar.lkNew hdx e
theorem GridAt.same {H H' : Hp} {g : Addr} {st o : Int} (k : Same H H') (h : GridAt C H g st o) : GridAt C H' g st o := by
  obtain ⟨dx, h⟩ := h
  exact ⟨dx, k _ _ h⟩
theorem GridAt.kp {b : Addr} {xs : List V} {H H' : Hp} {g : Addr} {st o : Int} (k : Kp b H H') (hb : H b = some (.lst xs)) (h : GridAt C H g st o) : GridAt C H' g st o := by
  obtain ⟨dx, h⟩ := h
  exact ⟨dx, k _ _ (ne_of h hb (by intro z; cases z)) h⟩
theorem GridAt.kp2 {b l : Addr} {xs : List V} {H H' : Hp} {g : Addr} {st o : Int} (k : Kp2 b l H H') (hb : H b = some (.lst xs)) (hl : H l = none) (h : GridAt C H g st o) : GridAt C H' g st o := by
  obtain ⟨dx, h⟩ := h
  exact ⟨dx, k _ _ (ne_of h hb (by intro z; cases z)) (ne_of_none h hl) h⟩
theorem rIn_ {H : Hp} {g : Addr} {st o x : Int} {R : Bool → Prop} (h : GridAt C H g st o) (s1 : 1 ≤ st) (r : R (decide (x % st = o))) {Q : VK} (e : ∀ b, R b → Q (.bl b) H) : rOwnIn C (spIn C) (.int x) (.ref g) H Q := by
  obtain ⟨dx, hg⟩ := h
  exact ⟨g, dx, _, rfl, hg, g, st, o, x, rfl, ⟨dx, hg⟩, s1, _, rfl, e _ r⟩
theorem rInG {H : Hp} {g : Addr} {st o x : Int} {Q : VK} (h : GridAt C H g st o) (s1 : 1 ≤ st) (r : Q (.bl (decide (x % st = o))) H) : rOwnIn C (spIn C) (.int x) (.ref g) H Q := by
  obtain ⟨dx, hg⟩ := h
  exact ⟨g, dx, _, rfl, hg, g, st, o, x, rfl, ⟨dx, hg⟩, s1, _, rfl, r⟩
theorem in_iff (u b a : Int) : decide (u % a = b % a) = decide ((u - b) % a = 0) := decide_eq_decide.mpr Int.emod_eq_emod_iff_emod_sub_eq_zero
theorem in_ne (u b a : Int) : (!(decide (u % a = b % a) == decide ((u - b) % a = 0))) = false := by
  rw [in_iff]
  simp
theorem GridAt.new {H : Hp} {g p : Addr} {u : HO} {st o : Int} (hp : H p = none) (h : GridAt C H g st o) : GridAt C (upd H p u) g st o := by
  obtain ⟨dx, h⟩ := h
  exact ⟨dx, Bar.lkNew hp h⟩
theorem ok_init {f : Addr} {fd : FuncData} {dvs : List V} (F : FunD K "__init__" "Grid.__init__" (defArgs s_Grid___init__) (defBody s_Grid___init__) (defScope s_Grid___init__) dvs [] f fd) (G : GTxt K C) : FnOk P w K mg base CX0 1 f fd P_Grid___init__ (spInit C) := by
  refine F.ok sc_Grid___init__ (fun vs H Q E h => ?_) (fun cdv A outer s H vs Q E hr h => ?_)
  · obtain ⟨p, dx, st, o, rfl, _⟩ := h
    rfl
  · obtain ⟨p, dx, st, o, rfl, hp, s1, k⟩ := h
    refine ⟨_, PSs.nox (pss_cons (ps_if (pt_cmpR op_lt (pv 1) pe_int (nomark _)) (pss_one ps_never) pss_nil)
    (pss_cons (ps_fld (pv 0) (pv 1) rfl)
    (pss_one (ps_fld (pv 0) (pe_op op_mod (pv 2) (pv 1)) rfl)))), ?_⟩
    refine Bar.rStart (σ := [some (.ref p), some (.int st), some (.int o)]) rfl ?_
    walk_at "rd"
    refine ite2 (fun h => absurd (of_decide_eq_true h) (by omega)) (fun h => ?_)
    walk_at "rd"
    refine ⟨p, C, dx, _, rfl, hp, G.cl, G.nS, (by show 0 < 1000; decide), ?_⟩
    rw [put_step]
    walk_at "rd"
    refine ⟨p, C, dx, _, rfl, upd_same, G.cl, G.nO, (by show 1 < 1000; decide), ?_⟩
    rw [put_off]
    walk_at "rd"
    refine k _ (fun a o' n e => ?_) upd_same
    rw [upd_ne n, upd_ne n]
    exact e
theorem ok_in {f : Addr} {fd : FuncData} (F : Fun K "__contains__" "Grid.__contains__" s_Grid___contains__ f fd) (G : GTxt K C) : FnOk P w K mg base CX0 1 f fd P_Grid___contains__ (spIn C) := by
  refine F.ok sc_Grid___contains__ (fun vs H Q E h => ?_) (fun cdv A outer s H vs Q E hr h => ?_)
  · obtain ⟨g, st, o, x, rfl, _⟩ := h
    rfl
  · obtain ⟨g, st, o, x, rfl, ⟨dx, hg⟩, s1, k⟩ := h
    refine ⟨_, (pss_one (ps_ret (pe_cmpR op_eq (pe_op op_mod (pv 1) (pe_fld (pv 0) rfl)) (pe_fld (pv 0) rfl) (nomark _)))), ?_⟩
    refine Bar.rStart (σ := [some (.ref g), some (.int x)]) rfl ?_
    walk_at "rd"
    refine Bar.rFldV hg G.cl G.nS (gf_step _ _) ?_
    walk_at "rd"
    refine Bar.rFldV hg G.cl G.nO (gf_off _ _) ?_
    walk_at "rd"
    exact k
end


/-! ### k progressions that hold 2 ^ k integers in a row hold them all -/
section
/-- values at n, seen at y: y gives a shift for each progression -/
abbrev Fy := Int → (Nat → Int) → Int
def mv (e y : Nat → Int) : Nat → Int := fun i => y i - e i
/-- g keeps a recurrence with these shifts -/
def Rec : List (Nat → Int) → Fy → Prop
  | [], g => ∀ n y, g n y = 0
  | u :: l, g => Rec l (fun n y => g (n + 1) y - g n (mv u y))
theorem Rec.zero : ∀ (l : List (Nat → Int)), Rec l (fun _ _ => 0)
  | [] => fun _ _ => rfl
  | u :: l => by
    show Rec l (fun _ _ => (0 : Int) - 0)
    exact Rec.zero l
theorem Rec.congr : ∀ {l : List (Nat → Int)} {g h : Fy}, (∀ n y, g n y = h n y) → Rec l g → Rec l h
  | [], g, h, e, r => fun n y => (e n y).symm.trans (r n y)
  | u :: l, g, h, e, r => Rec.congr (l := l) (fun n y => by rw [e, e]) r
theorem Rec.sub : ∀ {l : List (Nat → Int)} {g h : Fy}, Rec l g → Rec l h → Rec l (fun n y => g n y - h n y)
  | [], g, h, a, b => fun n y => by
    show g n y - h n y = 0
    rw [a n y, b n y]
    rfl
  | u :: l, g, h, a, b => Rec.congr (l := l) (fun n y => by
    show (g (n + 1) y - g n (mv u y)) - (h (n + 1) y - h n (mv u y)) = (g (n + 1) y - h (n + 1) y) - (g n (mv u y) - h n (mv u y))
    omega) (Rec.sub (l := l) a b)
/-- a recurrence kept is kept with more shifts -/
theorem Rec.more : ∀ {l : List (Nat → Int)} (m : List (Nat → Int)) {g : Fy}, Rec l g → Rec (l ++ m) g
  | [], m, g, a => Rec.congr (fun n y => (a n y).symm) (Rec.zero m)
  | u :: l, m, g, a => Rec.more (l := l) m a
theorem Rec.next : ∀ (l : List (Nat → Int)) {g : Fy}, Rec l g → Rec l (fun n y => g (n + 1) y)
  | [], g, a => fun n y => a (n + 1) y
  | v :: l, g, a => Rec.next l (g := fun n y => g (n + 1) y - g n (mv v y)) a
theorem Rec.past (u : Nat → Int) : ∀ (l : List (Nat → Int)) {g : Fy}, Rec l g → Rec l (fun n y => g n (mv u y))
  | [], g, a => fun n y => a n (mv u y)
  | v :: l, g, a => by
    refine Rec.congr (l := l) (fun n y => ?_) (Rec.past u l (g := fun n y => g (n + 1) y - g n (mv v y)) a)
    have e : mv v (mv u y) = mv u (mv v y) := by
      funext i
      show y i - u i - v i = y i - v i - u i
      omega
    show g (n + 1) (mv u y) - g n (mv v (mv u y)) = g (n + 1) (mv u y) - g n (mv u (mv v y))
    rw [e]
theorem Rec.more' : ∀ (m : List (Nat → Int)) {l : List (Nat → Int)} {g : Fy}, Rec l g → Rec (m ++ l) g
  | [], l, g, a => a
  | u :: m, l, g, a => by
    show Rec (m ++ l) (fun n y => g (n + 1) y - g n (mv u y))
    exact Rec.more' m (l := l) ((Rec.next l a).sub (Rec.past u l a))
/-- the values shifted, along with n: the shifts all move by e -/
theorem Rec.turn (e : Nat → Int) : ∀ {l : List (Nat → Int)} {g : Fy}, Rec l g → ∀ c : Int, Rec (l.map fun u => fun i => u i + e i) (fun n y => g n (fun i => y i - (n + c) * e i))
  | [], g, a, c => fun n y => a n _
  | u :: l, g, a, c => by
    refine Rec.congr (l := l.map fun u => fun i => u i + e i) (fun n y => ?_) (Rec.turn e (l := l) a (c + 1))
    show g (n + 1) (fun i => y i - (n + (c + 1)) * e i) - g n (mv u (fun i => y i - (n + (c + 1)) * e i)) = g (n + 1) (fun i => y i - (n + 1 + c) * e i) - g n (fun i => (mv (fun i => u i + e i) y) i - (n + c) * e i)
    have e1 : (fun i => y i - (n + (c + 1)) * e i) = fun i => y i - (n + 1 + c) * e i := by
      funext i
      rw [show n + (c + 1) = n + 1 + c by omega]
    have e2 : mv u (fun i => y i - (n + (c + 1)) * e i) = fun i => (mv (fun i => u i + e i) y) i - (n + c) * e i := by
      funext i
      show y i - (n + (c + 1)) * e i - u i = y i - (u i + e i) - (n + c) * e i
      grind
    rw [e2, e1]
/-- zero at as many integers in a row as there are shifts: zero at all -/
theorem Rec.all : ∀ {l : List (Nat → Int)} {g : Fy}, Rec l g → ∀ a : Int, (∀ i : Nat, i < l.length → ∀ y, g (a + i) y = 0) → ∀ n y, g n y = 0
  | [], g, r, a, h, n, y => r n y
  | u :: l, g, r, a, h, n, y => by
    have z := Rec.all (l := l) r a (fun i hi y => by
      have h1 := h (i + 1) (by show i + 1 < l.length + 1; omega) y
      have h2 := h i (by show i < l.length + 1; omega) (mv u y)
      show g (a + i + 1) y - g (a + i) (mv u y) = 0
      rw [show a + (i : Int) + 1 = a + ((i + 1 : Nat) : Int) by omega, h1, h2]
      rfl)
    have st : ∀ n y, g (n + 1) y = g n (mv u y) := fun n y => by
      have := z n y
      omega
    have h0 : ∀ y, g a y = 0 := fun y => by
      have := h 0 (by show 0 < l.length + 1; omega) y
      rwa [show a + ((0 : Nat) : Int) = a by omega] at this
    have up : ∀ (k : Nat) y, g (a + k) y = 0 := by
      intro k
      induction k with
      | zero => intro y; rw [show a + ((0 : Nat) : Int) = a by omega]; exact h0 y
      | succ k ih =>
        intro y
        rw [show a + ((k + 1 : Nat) : Int) = a + k + 1 by omega, st]
        exact ih _
    have dn : ∀ (k : Nat) y, g (a - k) y = 0 := by
      intro k
      induction k with
      | zero => intro y; rw [show a - ((0 : Nat) : Int) = a by omega]; exact h0 y
      | succ k ih =>
        intro y
        have e := st (a - ((k + 1 : Nat) : Int)) (fun i => y i + u i)
        have e2 : mv u (fun i => y i + u i) = y := by
          funext i
          show y i + u i - u i = y i
          omega
        rw [e2, show a - ((k + 1 : Nat) : Int) + 1 = a - k by omega] at e
        rw [← e]
        exact ih _
    by_cases hn : a ≤ n
    · have := up (n - a).toNat y
      rwa [show a + ((n - a).toNat : Int) = n by omega] at this
    · have := dn (a - n).toNat y
      rwa [show a - ((a - n).toNat : Int) = n by omega] at this
/-- 1 where the shift of each progression is none, less where it is n's; the progressions stand from k on -/
def pf : List (Int × Int) → Nat → Fy
  | [], _ => fun _ _ => 1
  | (s, o) :: l, k => fun n y => ((if y k % s = 0 then 1 else 0) - (if (y k - (n - o)) % s = 0 then 1 else 0)) * pf l (k + 1) n y
def sh : List (Int × Int) → Nat → List (Nat → Int)
  | [], _ => [fun _ => 0]
  | _ :: l, k => sh l (k + 1) ++ (sh l (k + 1)).map fun u => fun i => u i + (if i = k then 1 else 0)
theorem sh_length : ∀ (l : List (Int × Int)) (k : Nat), (sh l k).length = 2 ^ l.length
  | [], k => rfl
  | p :: l, k => by
    show (sh l (k + 1) ++ (sh l (k + 1)).map _).length = 2 ^ (l.length + 1)
    rw [List.length_append, List.length_map, sh_length l (k + 1), Nat.pow_succ]
    omega
/-- an earlier shift changes nothing -/
theorem pf_away : ∀ (l : List (Int × Int)) (k j : Nat) (d : Int) (n : Int) (y : Nat → Int), j < k → pf l k n (fun i => y i - d * (if i = j then 1 else 0)) = pf l k n y
  | [], _, _, _, _, _, _ => rfl
  | (s, o) :: l, k, j, d, n, y, h => by
    show (_ - _) * pf l (k + 1) n _ = (_ - _) * pf l (k + 1) n y
    rw [pf_away l (k + 1) j d n y (by omega)]
    have e : y k - d * (if k = j then 1 else 0) = y k := by
      rw [if_neg (show ¬ k = j by omega)]
      omega
    show ((if (y k - d * (if k = j then 1 else 0)) % s = 0 then 1 else 0) - (if ((y k - d * (if k = j then 1 else 0)) - (n - o)) % s = 0 then 1 else 0)) * _ = _
    rw [e]
/-- a factor that the shifts don't touch -/
theorem Rec.times (c : (Nat → Int) → Int) : ∀ {l : List (Nat → Int)} {g : Fy}, (∀ u ∈ l, ∀ y, c (mv u y) = c y) → Rec l g → Rec l (fun n y => c y * g n y)
  | [], g, hc, r => fun n y => by
    show c y * g n y = 0
    rw [r n y, Int.mul_zero]
  | u :: l, g, hc, r => by
    refine Rec.congr (l := l) (fun n y => ?_) (Rec.times c (l := l) (fun v hv => hc v (List.mem_cons_of_mem _ hv)) r)
    show c y * (g (n + 1) y - g n (mv u y)) = c y * g (n + 1) y - c (mv u y) * g n (mv u y)
    rw [hc u (List.mem_cons_self ..) y, Int.mul_sub]
theorem sh_zero : ∀ (l : List (Int × Int)) (k j : Nat), j < k → ∀ u ∈ sh l k, u j = 0
  | [], k, j, h, u, hu => by
    cases List.mem_singleton.mp hu
    rfl
  | p :: l, k, j, h, u, hu => by
    rcases List.mem_append.mp hu with hu | hu
    · exact sh_zero l (k + 1) j (by omega) u hu
    · obtain ⟨v, hv, rfl⟩ := List.mem_map.mp hu
      show v j + (if j = k then 1 else 0) = 0
      rw [sh_zero l (k + 1) j (by omega) v hv, if_neg (by omega)]
      rfl
theorem pf_rec : ∀ (l : List (Int × Int)) (k : Nat), Rec (sh l k) (pf l k)
  | [], k => fun n y => by
    show (1 : Int) - 1 = 0
    rfl
  | (s, o) :: l, k => by
    have r := pf_rec l (k + 1)
    have z := sh_zero l (k + 1) k (by omega)
    have r1 : Rec (sh l (k + 1)) (fun n y => (if y k % s = 0 then 1 else 0) * pf l (k + 1) n y) := r.times (fun y => if y k % s = 0 then 1 else 0) fun u hu y => by
      show (if (y k - u k) % s = 0 then (1 : Int) else 0) = _
      rw [z u hu, Int.sub_zero]
    have r2 := r1.turn (fun i => if i = k then 1 else 0) (-o)
    have r3 : Rec ((sh l (k + 1)).map fun u => fun i => u i + (if i = k then 1 else 0)) (fun n y => (if (y k - (n - o)) % s = 0 then 1 else 0) * pf l (k + 1) n y) := by
      refine Rec.congr (fun n y => ?_) r2
      rw [pf_away l (k + 1) k (n + -o) n y (by omega)]
      have e : y k - (n + -o) * (if k = k then 1 else 0) = y k - (n - o) := by
        rw [if_pos rfl]
        omega
      show (if (y k - (n + -o) * (if k = k then 1 else 0)) % s = 0 then (1 : Int) else 0) * _ = _
      rw [e]
    exact Rec.congr (fun n y => by
      show _ - _ = (_ - _) * pf l (k + 1) n y
      rw [Int.sub_mul]) ((r1.more _).sub (r3.more' _))
/-- some progression holds x -/
def hits (ps : List (Int × Int)) (x : Int) : Bool := ps.any fun p => (x - p.2) % p.1 == 0
theorem pf_hit : ∀ (l : List (Int × Int)) (k : Nat) (n : Int), hits l n = true → ∀ y, pf l k n y = 0
  | [], _, _, h, _ => by cases h
  | (s, o) :: l, k, n, h, y => by
    show (_ - _) * pf l (k + 1) n y = 0
    by_cases e : (n - o) % s = 0
    · have e2 : (y k - (n - o)) % s = 0 ↔ y k % s = 0 := by
        have d := Int.dvd_of_emod_eq_zero e
        constructor
        · intro z
          have := Int.dvd_add (Int.dvd_of_emod_eq_zero z) d
          rw [Int.sub_add_cancel] at this
          exact Int.emod_eq_zero_of_dvd this
        · intro z
          exact Int.emod_eq_zero_of_dvd (Int.dvd_sub (Int.dvd_of_emod_eq_zero z) d)
      by_cases e3 : y k % s = 0
      · rw [if_pos e3, if_pos (e2.mpr e3)]
        omega
      · rw [if_neg e3, if_neg (fun z => e3 (e2.mp z))]
        omega
    · have h2 : hits l n = true := by
        unfold hits at h ⊢
        rw [List.any_cons] at h
        rcases Bool.or_eq_true_iff.mp h with h | h
        · exact absurd (beq_iff_eq.mp h) e
        · exact h
      rw [pf_hit l (k + 1) n h2 y, Int.mul_zero]
theorem pf_miss : ∀ (l : List (Int × Int)) (k : Nat) (n : Int), hits l n = false → pf l k n (fun _ => 0) = 1
  | [], _, _, _ => rfl
  | (s, o) :: l, k, n, h => by
    unfold hits at h
    rw [List.any_cons] at h
    obtain ⟨h1, h2⟩ := Bool.or_eq_false_iff.mp h
    show ((if (0 : Int) % s = 0 then 1 else 0) - (if ((0 : Int) - (n - o)) % s = 0 then 1 else 0)) * pf l (k + 1) n (fun _ => 0) = 1
    have e : ¬ ((0 : Int) - (n - o)) % s = 0 := fun z => by
      have d := Int.dvd_of_emod_eq_zero z
      rw [Int.zero_sub] at d
      have := Int.emod_eq_zero_of_dvd (Int.dvd_neg.mp d)
      rw [this] at h1
      cases h1
    rw [if_pos (Int.zero_emod s), if_neg e, pf_miss l (k + 1) n h2]
    rfl
/-- the fact of the document -/
theorem hits_all {ps : List (Int × Int)} {a : Int} (h : ∀ i : Nat, i < 2 ^ ps.length → hits ps (a + i) = true) (x : Int) : hits ps x = true := by
  cases q : hits ps x with
  | true => rfl
  | false =>
    have z := (pf_rec ps 0).all a (fun i hi y => pf_hit ps 0 _ (h i (by rwa [sh_length] at hi)) y) x (fun _ => 0)
    rw [pf_miss ps 0 x q] at z
    cases z
end


/-! ### lists of pairs and of grids -/
/-- at R the list of the pairs at ts -/
def RowsAt (H : Hp) (R : Addr) (ts : List Addr) (pr : Addr → Int × Int) : Prop := H R = some (.lst (ts.map V.ref)) ∧ ∀ t ∈ ts, H t = some (.tup [.int (pr t).1, .int (pr t).2]) ∧ Gm (pr t).1 (pr t).2
theorem RowsP.at {H : Hp} {R : Addr} {n : Nat} (h : RowsP H R n Gm) : ∃ ts pr, RowsAt H R ts pr ∧ ts.length = n := by
  obtain ⟨ts, e, l, g⟩ := h
  have q : ∀ t, ∃ p : Int × Int, t ∈ ts → H t = some (.tup [.int p.1, .int p.2]) ∧ Gm p.1 p.2 := fun t => by
    by_cases ht : t ∈ ts
    · obtain ⟨a, b, z, w⟩ := g t ht
      exact ⟨(a, b), fun _ => ⟨z, w⟩⟩
    · exact ⟨(0, 0), fun z => absurd z ht⟩
  exact ⟨ts, fun t => Classical.choose (q t), ⟨e, fun t ht => Classical.choose_spec (q t) ht⟩, l⟩
theorem RowsAt.same {H H' : Hp} {R : Addr} {ts : List Addr} {pr : Addr → Int × Int} (S : Same H H') (h : RowsAt H R ts pr) : RowsAt H' R ts pr := ⟨S _ _ h.1, fun t ht => ⟨S _ _ (h.2 t ht).1, (h.2 t ht).2⟩⟩
def GridsAt (C : Addr) (H : Hp) (L : Addr) (gs : List Addr) (ps : List (Int × Int)) : Prop := H L = some (.lst (gs.map V.ref)) ∧ gs.length = ps.length ∧ ∀ (i : Nat) g, gs[i]? = some g → ∃ p, ps[i]? = some p ∧ GridAt C H g p.1 p.2 ∧ 1 ≤ p.1 ∧ 0 ≤ p.2 ∧ p.2 < p.1
theorem GridsAt.same {C : Addr} {H H' : Hp} {L : Addr} {gs : List Addr} {ps : List (Int × Int)} (S : Same H H') (h : GridsAt C H L gs ps) : GridsAt C H' L gs ps := ⟨S _ _ h.1, h.2.1, fun i g e => by
  obtain ⟨p, e2, G, w⟩ := h.2.2 i g e
  exact ⟨p, e2, G.same S, w⟩⟩
theorem GridsAt.kp {C b : Addr} {xs : List V} {H H' : Hp} {L : Addr} {gs : List Addr} {ps : List (Int × Int)} (k : Kp b H H') (hb : H b = some (.lst xs)) (n : L ≠ b) (h : GridsAt C H L gs ps) : GridsAt C H' L gs ps := ⟨k _ _ n h.1, h.2.1, fun i g e => by
  obtain ⟨p, e2, G, w⟩ := h.2.2 i g e
  exact ⟨p, e2, G.kp k hb, w⟩⟩
theorem RowsAt.kp {b : Addr} {xs : List V} {H H' : Hp} {R : Addr} {ts : List Addr} {pr : Addr → Int × Int} (k : Kp b H H') (hb : H b = some (.lst xs)) (n : R ≠ b) (h : RowsAt H R ts pr) : RowsAt H' R ts pr := ⟨k _ _ n h.1, fun t ht => ⟨k _ _ (ne_of (h.2 t ht).1 hb (by intro z; cases z)) (h.2 t ht).1, (h.2 t ht).2⟩⟩
theorem GridsAt.wide {C : Addr} {H : Hp} {L : Addr} {gs : List Addr} {ps : List (Int × Int)} (h : GridsAt C H L gs ps) : ∀ p ∈ ps, 0 ≤ p.2 ∧ p.2 < p.1 := fun p hp => by
  obtain ⟨i, hi, e⟩ := List.getElem_of_mem hp
  have hg : i < gs.length := by rw [h.2.1]; exact hi
  obtain ⟨p', e2, _, _, w⟩ := h.2.2 i gs[i] (List.getElem?_eq_getElem hg)
  rw [List.getElem?_eq_getElem hi, e] at e2
  cases e2
  exact w
theorem hits_app {ps qs : List (Int × Int)} {x : Int} : hits (ps ++ qs) x = (hits ps x || hits qs x) := List.any_append
theorem hits_mem {ts : List Addr} {pr : Addr → Int × Int} {t : Addr} {x : Int} (ht : t ∈ ts) (h : (x - (pr t).2) % (pr t).1 = 0) : hits (ts.map pr) x = true := List.any_eq_true.mpr ⟨_, List.mem_map_of_mem ht, beq_iff_eq.mpr h⟩
theorem hits_next {ts : List Addr} {pr : Addr → Int × Int} {t : Addr} {x : Int} {i : Nat} (e : ts[i]? = some t) (h : hits ((ts.take i).map pr) x = false) (n : ¬ (x - (pr t).2) % (pr t).1 = 0) : hits ((ts.take (i + 1)).map pr) x = false := by
  rw [List.take_add_one, e, List.map_append, hits_app, h]
  show (((x - (pr t).2) % (pr t).1 == 0) || false) = false
  rw [Bool.or_false]
  exact beq_eq_false_iff_ne.mpr n
theorem hits_in {x : Int} : ∀ ps : List (Int × Int), (∀ p ∈ ps, 0 ≤ p.2 ∧ p.2 < p.1) → (ps.map fun p => decide (x % p.1 = p.2)).any id = hits ps x
  | [], _ => rfl
  | p :: ps, h => by
    show (decide (x % p.1 = p.2) || (ps.map fun p => decide (x % p.1 = p.2)).any id) = ((x - p.2) % p.1 == 0 || hits ps x)
    rw [hits_in ps fun q hq => h q (List.mem_cons_of_mem _ hq)]
    obtain ⟨h0, h1⟩ := h p (List.mem_cons_self ..)
    have e := in_iff x p.2 p.1
    rw [Int.emod_eq_of_lt h0 h1] at e
    rw [e]
    rfl
theorem pow_nat (n : Nat) : ((2 : Int) ^ n).toNat = 2 ^ n := by
  have e : (2 : Int) ^ n = ((2 ^ n : Nat) : Int) := by
    rw [Int.natCast_pow]
    rfl
  rw [e, Int.toNat_natCast]
theorem pow_six {n : Nat} (h : n ≤ 6) : 2 ^ n ≤ 64 := Nat.le_trans (Nat.pow_le_pow_right (by decide) h) (by decide)
def spOn (K : PySem.W.Frag) : Sp := fun vs H Q _ => ∃ (t : Addr) (a b x : Int), vs = [.ref t, .int x] ∧ SqT K H t [.int a, .int b] ∧ 1 ≤ a ∧ Q (.bl (decide ((x - b) % a = 0))) H
def spHit : Sp := fun vs H Q _ => ∃ (R : Addr) (ts : List Addr) (pr : Addr → Int × Int) (x : Int), vs = [.ref R, .int x] ∧ RowsAt H R ts pr ∧ Q (.bl (hits (ts.map pr) x)) H
def spMade (C : Addr) : Sp := fun vs H Q _ => ∃ (R : Addr) (ts : List Addr) (pr : Addr → Int × Int), vs = [.ref R] ∧ RowsAt H R ts pr ∧ ts.length ≤ 6 ∧ ∀ L gs H', H L = none → Same H H' → GridsAt C H' L gs (ts.map pr) → Q (.ref L) H'
def spGap (C : Addr) : Sp := fun vs H Q _ => ∃ (L : Addr) (gs : List Addr) (ps : List (Int × Int)) (x : Int), vs = [.ref L, .int x] ∧ GridsAt C H L gs ps ∧ ps.length ≤ 6 ∧ ∀ H', Same H H' → Q (.bl (!hits ps x)) H'
def spCheck : Sp := fun vs H Q _ => ∃ (L : Addr) (xs : List V), vs = [.ref L] ∧ H L = some (.lst xs) ∧ xs.length ≤ 6 ∧ Q .non H
def spFirst (C : Addr) : Sp := fun vs H Q _ => ∃ (L : Addr) (gs : List Addr) (ps : List (Int × Int)) (s : Int), vs = [.ref L, .int s] ∧ GridsAt C H L gs ps ∧ ps.length ≤ 6 ∧
  (∀ H', Same H H' → (∀ x, hits ps x = true) → Q .non H') ∧ ∀ g H', Same H H' → s ≤ g → g < s + (2 ^ ps.length : Nat) → hits ps g = false → Q (.int g) H'
section
variable {P : Program} {w : World} {K : PySem.W.Frag} {mg : Str → Option Value} {base : Heap} {C : Addr}
theorem ok_on {f : Addr} {fd : FuncData} (F : Fun K "_law_in" "_law_in" s_law_in f fd) (T : Txt mg) : FnOk P w K mg base CX0 1 f fd P_law_in (spOn K) := by
  refine F.ok sc_law_in (fun vs H Q E h => ?_) (fun cdv A outer s H vs Q E hr h => ?_)
  · obtain ⟨t, a, b, x, rfl, _⟩ := h
    rfl
  · obtain ⟨t, a, b, x, rfl, ht, a1, k⟩ := h
    refine ⟨_, (pss_one (ps_ret (pe_cmpR op_eq (pe_op op_mod (pe_callTy c_int rfl T.b_int (by decide +kernel) (pa_cons (pe_op op_sub (pv 1) (pe_ix ix_tup (pv 0) pe_int (fun _ _ => rfl))) pa_nil)) (pe_ix ix_tup (pv 0) pe_int (fun _ _ => rfl))) pe_int (nomark _)))), ?_⟩
    refine Bar.rStart (σ := [some (.ref t), some (.int x)]) rfl ?_
    walk_at "rd"
    exact k
theorem ok_hit {f : Addr} {fd : FuncData} (F : Fun K "_law_hit" "_law_hit" s_law_hit f fd) (T : Txt mg) (f_law_in : Fn P w K mg base "_law_in" P_law_in [] 1 (spOn K)) : FnOk P w K mg base CX0 2 f fd P_law_hit spHit := by
  refine F.ok sc_law_hit (fun vs H Q E h => ?_) (fun cdv A outer s H vs Q E hr h => ?_)
  · obtain ⟨R, ts, pr, x, rfl, _⟩ := h
    rfl
  · obtain ⟨R, ts, pr, x, rfl, RA, k⟩ := h
    have hR := RA.1
    refine ⟨_, (pss_cons (ps_for PassesOwn.never rfl  (pi_list (pv 0)) (pg_name (i := 2) sc_law_hit.nd rfl (Or.inl rfl)) (pss_one (ps_if (pt_val (pe_fn f_law_in (hr.mono (by omega)) rfl (pa_cons (pv 2) (pa_cons (pv 1) pa_nil)))) (pss_one (ps_ret pe_bl)) pss_nil)))
    (pss_one (ps_ret pe_bl))), ?_⟩
    refine Bar.rStart (σ := [some (.ref R), some (.int x), none]) rfl ?_
    walk_at "rd"
    refine Bar.forL (xs := ts.map V.ref) (fun i σ H' => H' = H ∧ (∃ y : Option V, σ = [some (.ref R), some (.int x), y]) ∧ hits ((ts.take i).map pr) x = false) (SqL.of hR) ⟨rfl, ⟨_, rfl⟩, rfl⟩ (fun i σ H2 _ ⟨e, _⟩ => by rw [e]; exact SqL.of hR) ?_ ?_
    · rintro i v σ H' hv ⟨rfl, ⟨y, rfl⟩, hn⟩
      rw [List.getElem?_map] at hv
      obtain ⟨t, et, rfl⟩ := Option.map_eq_some_iff.mp hv
      obtain ⟨ht, g1, g2, g3, g4⟩ := RA.2 t (List.mem_of_getElem? et)
      walk_at "rd"
      refine ⟨t, _, _, x, rfl, SqT.of ht, g1, ?_⟩
      walk_at "rd"
      refine ite2 (fun h => ?_) (fun h => ?_)
      · walk_at "rd"
        rw [hits_mem (List.mem_of_getElem? et) (of_decide_eq_true h)] at k
        exact k
      · walk_at "rd"
        exact ⟨rfl, ⟨_, rfl⟩, hits_next et hn fun z => h (decide_eq_true z)⟩
    · rintro σ H' ⟨rfl, ⟨y, rfl⟩, hn⟩
      rw [List.length_map, List.take_length] at hn
      rw [hn] at k
      walk_at "rd"
      exact k
theorem ok_made {f : Addr} {fd : FuncData} (F : Fun K "_law_made" "_law_made" s_law_made f fd) (T : Txt mg) (mk_Grid2 : Made P w K mg base "Grid" C P_Grid___init__ [] 1 (spInit C)) : FnOk P w K mg base CX0 3 f fd P_law_made (spMade C) := by
  refine F.ok sc_law_made (fun vs H Q E h => ?_) (fun cdv A outer s H vs Q E hr h => ?_)
  · obtain ⟨R, ts, pr, rfl, _⟩ := h
    rfl
  · obtain ⟨R, ts, pr, rfl, RA, l6, k⟩ := h
    have hR := RA.1
    refine ⟨_, (pss_one (ps_ret (pe_lc (own := [("_law_row", 1)]) (g := gName 1) rfl sc_law_made.nd (pi_list (pv 0)) (blkOk_by (own := [("_law_row", 1)]) (N := N_law_made) (sc := defScope s_law_made) (by decide +kernel)) (fun _ _ _ _ _ => pg_name (i := 1) sc_law_made.nd rfl (Or.inl rfl)) (fun _ _ _ _ _ => pts_nil) (fun _ _ _ _ _ => (pe_mk mk_Grid2 (hr.mono (by omega)) rfl (pa_cons (pe_ix (r := rIxT K) ix_tup (pv 1) pe_int (fun _ _ => rfl)) (pa_cons (pe_ix (r := rIxT K) ix_tup (pv 1) pe_int (fun _ _ => rfl)) pa_nil))))))), ?_⟩
    refine Bar.rStart (σ := [some (.ref R), none]) rfl ?_
    walk_at "rd"
    refine Bar.lcL (xs := ts.map V.ref) (τ := [some (.ref R), none]) rfl (SqL.of hR) (fun D hD => ⟨fun i H' => Same H H' ∧ ∃ gs : List Addr, H' D = some (.lst (gs.map V.ref)) ∧ gs.length = i ∧ ∀ (j : Nat) g, gs[j]? = some g → ∃ t, ts[j]? = some t ∧ GridAt C H' g (pr t).1 (pr t).2,
      ⟨fun _ _ z => Bar.lkNew hD z, [], upd_same, rfl, fun j g e => by cases e⟩, fun i H' _ ⟨S, _⟩ => SqL.of (S _ _ hR), ?_, ?_⟩)
    · rintro i v H' hv ⟨S, gs, hd, lg, gg⟩
      have il : i < ts.length := by
        have := (List.getElem?_eq_some_iff.mp hv).1
        rwa [List.length_map] at this
      rw [List.getElem?_map] at hv
      obtain ⟨t, et, rfl⟩ := Option.map_eq_some_iff.mp hv
      obtain ⟨ht, g1, g2, g3, g4⟩ := RA.2 t (List.mem_of_getElem? et)
      have ht' := S _ _ ht
      walk_at "rd"
      refine ⟨rfl, ?_⟩
      walk_at "rd"
      refine mkG g1 fun g H3 hg S3 G3 => ?_
      rw [Int.emod_eq_of_lt g3 g4] at G3
      have kG : ∀ {q : Addr} {x y : Int}, GridAt C H3 q x y → GridAt C (upd H3 D (.lst (gs.map V.ref ++ [.ref g]))) q x y := by
        rintro q x y ⟨dx, q⟩
        exact ⟨dx, by rw [upd_ne (ne_of q (S3 _ _ hd) (by intro w; cases w))]; exact q⟩
      refine ⟨_, S3 _ _ hd, Bar.szLt (by rw [List.length_map]; omega), fun p o z => ?_, gs ++ [g], by rw [upd_same, List.map_append]; rfl, by rw [List.length_append, lg]; rfl, fun j q e => ?_⟩
      · rw [upd_ne (ne_of_none z hD)]
        exact S3 _ _ (S _ _ z)
      · by_cases jl : j < gs.length
        · rw [List.getElem?_append_left jl] at e
          obtain ⟨u, eu, Gu⟩ := gg j q e
          exact ⟨u, eu, kG (Gu.same S3)⟩
        · have ji : j = i := by
            have := (List.getElem?_eq_some_iff.mp e).1
            rw [List.length_append] at this
            have : j < gs.length + 1 := this
            omega
          subst ji
          rw [List.getElem?_append_right (by omega), lg, Nat.sub_self] at e
          cases e
          exact ⟨t, et, kG G3⟩
    · rintro H3 ⟨S3, gs, hd, lg, gg⟩
      rw [List.length_map] at lg
      walk_at "rd"
      refine k D gs H3 hD S3 ⟨hd, by rw [List.length_map, lg], fun j g e => ?_⟩
      obtain ⟨t, et, Gt⟩ := gg j g e
      obtain ⟨_, g1, g2, g3, g4⟩ := RA.2 t (List.mem_of_getElem? et)
      exact ⟨pr t, by rw [List.getElem?_map, et]; rfl, Gt, g1, g3, g4⟩
theorem ok_gap {f : Addr} {fd : FuncData} (F : Fun K "is_gap" "is_gap" s_is_gap f fd) (T : Txt mg) (o_Grid : Opr P w K mg base C "__contains__" P_Grid___contains__ 1 (spIn C)) : FnOk P w K mg base CX0 3 f fd P_is_gap (spGap C) := by
  refine F.ok sc_is_gap (fun vs H Q E h => ?_) (fun cdv A outer s H vs Q E hr h => ?_)
  · obtain ⟨L, gs, ps, x, rfl, _⟩ := h
    rfl
  · obtain ⟨L, gs, ps, x, rfl, GA, l6, k⟩ := h
    have hL := GA.1
    have wide := GA.wide
    obtain ⟨_, lg, gg⟩ := GA
    refine ⟨_, (pss_one (ps_ret (pe_not (pe_callB (cr_any rfl) rfl T.b_any (by decide +kernel) (pa_cons (pe_lc (own := [("grid", 2)]) (g := gName 2) rfl sc_is_gap.nd (pi_list (pv 0)) (blkOk_by (own := [("grid", 2)]) (N := N_is_gap) (sc := defScope s_is_gap) (by decide +kernel)) (fun _ _ _ _ _ => pg_name (i := 2) sc_is_gap.nd rfl (Or.inl rfl)) (fun _ _ _ _ _ => pts_nil) (fun _ _ _ _ _ => (pe_cmpR (op_in o_Grid (hr.mono (by omega))) (pv 1) (pv 2) (by rfl)))) pa_nil))))), ?_⟩
    refine Bar.rStart (σ := [some (.ref L), some (.int x), none]) rfl ?_
    walk_at "rd"
    refine Bar.lcL (xs := gs.map V.ref) (τ := [some (.ref L), some (.int x), none]) rfl (SqL.of hL) (fun D hD => ⟨fun i H' => Same H H' ∧ H' D = some (.lst (((ps.take i).map fun p => decide (x % p.1 = p.2)).map V.bl)),
      ⟨fun _ _ z => Bar.lkNew hD z, upd_same⟩, fun i H' _ ⟨S, _⟩ => SqL.of (S _ _ hL), ?_, ?_⟩)
    · rintro i v H' hv ⟨S, hd⟩
      have il : i < gs.length := by
        have := (List.getElem?_eq_some_iff.mp hv).1
        rwa [List.length_map] at this
      rw [List.getElem?_map] at hv
      obtain ⟨g, eg, rfl⟩ := Option.map_eq_some_iff.mp hv
      obtain ⟨p, ep, Gp, p1, p2, p3⟩ := gg i g eg
      walk_at "rd"
      refine ⟨rfl, ?_⟩
      walk_at "rd"
      refine rInG (Gp.same S) p1 ?_
      refine ⟨_, hd, Bar.szLt (by rw [List.length_map, List.length_map, List.length_take]; omega), fun q o z => ?_, ?_⟩
      · rw [upd_ne (ne_of_none z hD)]
        exact S _ _ z
      · rw [upd_same, List.take_add_one, ep, List.map_append, List.map_append]
        rfl
    · rintro H3 ⟨S3, hd⟩
      rw [List.length_map, lg, List.take_length] at hd
      walk_at "rd"
      refine ⟨D, _, rfl, SqL.of hd, ?_⟩
      rw [hits_in ps wide]
      walk_at "rd"
      exact k _ S3
theorem ok_check {f : Addr} {fd : FuncData} {tok : Tok} (F : Fun K "check_grids" "check_grids" s_check_grids f fd) (T : Txt mg) (g_int_MOST_GRIDS : mg "MOST_GRIDS" = some (.int 6 tok)) : FnOk P w K mg base CX0 1 f fd P_check_grids spCheck := by
  refine F.ok sc_check_grids (fun vs H Q E h => ?_) (fun cdv A outer s H vs Q E hr h => ?_)
  · obtain ⟨L, xs, rfl, _⟩ := h
    rfl
  · obtain ⟨L, xs, rfl, hL, l6, k⟩ := h
    refine ⟨_, (pss_one (ps_if (pt_cmpR op_gt (pe_callB c_len rfl T.b_len PySem.boot_len (pa_cons (pv 0) pa_nil)) (pe_glob (v := .int 6) rfl g_int_MOST_GRIDS ⟨_, rfl⟩) (nomark _)) (pss_one ps_never) pss_nil)), ?_⟩
    refine Bar.rStart (σ := [some (.ref L)]) rfl ?_
    walk_at "rd"
    refine Bar.iteBF (decide_eq_false (by omega)) ?_
    walk_at "rd"
    exact k
theorem ok_first {f : Addr} {fd : FuncData} (F : Fun K "first_gap" "first_gap" s_first_gap f fd) (T : Txt mg) (fcheck_grids : Fn P w K mg base "check_grids" P_check_grids [] 1 spCheck) (fis_gap : Fn P w K mg base "is_gap" P_is_gap [] 3 (spGap C)) : FnOk P w K mg base CX0 4 f fd P_first_gap (spFirst C) := by
  refine F.ok sc_first_gap (fun vs H Q E h => ?_) (fun cdv A outer s H vs Q E hr h => ?_)
  · obtain ⟨L, gs, ps, x, rfl, _⟩ := h
    rfl
  · obtain ⟨L, gs, ps, x, rfl, GA, l6, k1, k2⟩ := h
    have hL := GA.1
    have lg := GA.2.1
    refine ⟨_, (pss_cons (ps_expr (pe_fn fcheck_grids (hr.mono (by omega)) rfl (pa_cons (pv 0) pa_nil)))
    (pss_cons (ps_for PassesOwn.never rfl  (pi_rangeW rfl T.b_range (pa_cons (pv 1) (pa_cons (pe_op op_add (pv 1) (pe_op op_shl pe_int (pe_callB c_len rfl T.b_len PySem.boot_len (pa_cons (pv 0) pa_nil)))) pa_nil))) (pg_name (i := 2) sc_first_gap.nd rfl (Or.inl rfl)) (pss_one (ps_if (pt_val (pe_fn fis_gap (hr.mono (by omega)) rfl (pa_cons (pv 0) (pa_cons (pv 2) pa_nil)))) (pss_one (ps_ret (pv 2))) pss_nil)))
    (pss_one (ps_ret pe_non)))), ?_⟩
    refine Bar.rStart (σ := [some (.ref L), some (.int x), none]) rfl ?_
    walk_at "rd"
    refine ⟨L, _, rfl, hL, by rw [List.length_map]; omega, ?_⟩
    walk_at "rd"
    refine Bar.rI_ ⟨by omega, by rw [List.length_map]; omega, by decide⟩ ?_
    walk_at "rd"
    refine Bar.forW (2 ^ ps.length) (by rw [List.length_map, lg, Int.toNat_natCast, Int.one_mul, Int.add_comm x, Int.add_sub_cancel, pow_nat]) (fun i σ H' => Same H H' ∧ (∃ y : Option V, σ = [some (.ref L), some (.int x), y]) ∧ ∀ j : Nat, j < i → hits ps (x + j) = true) ⟨fun _ _ z => z, ⟨_, rfl⟩, fun j hj => absurd hj (by omega)⟩ ?_ ?_
    · rintro i σ H' hi ⟨S, ⟨y, rfl⟩, hh⟩
      walk_at "rd"
      refine ⟨L, gs, ps, x + i, rfl, GA.same S, l6, fun H2 S2 => ?_⟩
      have S2' : Same H H2 := fun b u z => S2 _ _ (S _ _ z)
      walk_at "rd"
      refine ite2 (fun h => ?_) (fun h => ?_)
      · walk_at "rd"
        clear k1
        have hi2 : (i : Int) < ((2 ^ ps.length : Nat) : Int) := Int.ofNat_lt.mpr hi
        exact k2 _ _ S2' (by omega) (Int.add_lt_add_left hi2 x) (by cases q : hits ps (x + i) with | false => rfl | true => rw [q] at h; cases h)
      · walk_at "rd"
        refine ⟨S2', ⟨_, rfl⟩, fun j hj => ?_⟩
        by_cases ji : j = i
        · subst ji
          cases q : hits ps (x + j) with
          | true => rfl
          | false => rw [q] at h; exact absurd rfl h
        · exact hh j (by omega)
    · rintro σ H' ⟨S, ⟨y, rfl⟩, hh⟩
      walk_at "rd"
      exact k1 _ S (hits_all hh)
end

/-! ### _law_int -/
def spInt : Sp := fun vs H Q _ => ∃ i : Int, vs = [.int i] ∧ Q (.bl true) H
instance {i : Int} {H : Hp} {Q : VK} {E : XK} : Bar.Rd (spInt ([.int i] ++ []) H Q E) (Q (.bl true) H) := ⟨fun h => ⟨i, rfl, h⟩⟩
section
variable {P : Program} {w : World} {K : PySem.W.Frag} {mg : Str → Option Value} {base : Heap}
theorem ok_int {f : Addr} {fd : FuncData} (F : Fun K "_law_int" "_law_int" s_law_int f fd) (T : Txt mg) : FnOk P w K mg base CX0 1 f fd P_law_int spInt := by
  refine F.ok sc_law_int (fun vs H Q E h => ?_) (fun cdv A outer s H vs Q E hr h => ?_)
  · obtain ⟨i, rfl, _⟩ := h
    rfl
  · obtain ⟨i, rfl, k⟩ := h
    refine ⟨_, (pss_one (ps_ret (pe_and (pe_callB call_isi rfl T.b_isinstance (by decide +kernel) (pa_cons (pv 0) (pa_cons (pe_bltn (v := .ty "int") (u := .type "int") rfl T.b_int (by decide +kernel) rfl) pa_nil))) (pe_one (pe_not (pe_callB call_isi rfl T.b_isinstance (by decide +kernel) (pa_cons (pv 0) (pa_cons (pe_bltn (v := .ty "bool") (u := .type "bool") rfl T.b_bool (by decide +kernel) rfl) pa_nil)))))))), ?_⟩
    refine Bar.rStart (σ := [some (.int i)]) rfl ?_
    walk_at "rd"
    exact k
end

end Lw
namespace Lw
open PySem L2 Bar
/-! ### a cover by cells has a part that covers and is longer than the weight of its coordinates -/
section
variable (k r : Nat) (u : Nat → Nat → Option Nat)
def cnt (m : Nat → Bool) : Nat := (List.range k).countP m
def usd (m : Nat → Bool) (i : Nat) : Bool := (List.range k).any fun j => m j && (u j i).isSome
def wgt (A : Nat → List Nat) (m : Nat → Bool) : Nat := ((List.range r).map fun i => if usd k u m i then (A i).length - 1 else 0).sum
def Avoids (f : Nat → Nat) (j : Nat) : Prop := ∃ i, i < r ∧ ∃ v, u j i = some v ∧ f i ≠ v
variable {k r u}
theorem usd_iff {m : Nat → Bool} {i : Nat} : usd k u m i = true ↔ ∃ j, j < k ∧ m j = true ∧ ∃ v, u j i = some v := by
  unfold usd
  rw [List.any_eq_true]
  constructor
  · rintro ⟨j, hj, h⟩
    rw [Bool.and_eq_true] at h
    exact ⟨j, List.mem_range.mp hj, h.1, Option.isSome_iff_exists.mp h.2⟩
  · rintro ⟨j, hj, h, v, e⟩
    exact ⟨j, List.mem_range.mpr hj, by rw [h, e]; rfl⟩
theorem usd_or {m m' : Nat → Bool} {i : Nat} : usd k u (fun j => m j || m' j) i = (usd k u m i || usd k u m' i) := by
  have h : usd k u (fun j => m j || m' j) i = true ↔ (usd k u m i || usd k u m' i) = true := by
    rw [Bool.or_eq_true, usd_iff, usd_iff, usd_iff]
    constructor
    · rintro ⟨j, hj, h, e⟩
      rw [Bool.or_eq_true] at h
      rcases h with h | h
      · exact .inl ⟨j, hj, h, e⟩
      · exact .inr ⟨j, hj, h, e⟩
    · rintro (⟨j, hj, h, e⟩ | ⟨j, hj, h, e⟩)
      · exact ⟨j, hj, by rw [h]; rfl, e⟩
      · exact ⟨j, hj, by rw [h, Bool.or_true], e⟩
  cases a : usd k u (fun j => m j || m' j) i <;> cases b : (usd k u m i || usd k u m' i) <;> simp_all
theorem cnt_or {m m' : Nat → Bool} (h : ∀ j, m j = true → m' j = false) : cnt k (fun j => m j || m' j) = cnt k m + cnt k m' := by
  unfold cnt
  induction List.range k with
  | nil => rfl
  | cons a l ih =>
    rw [List.countP_cons, List.countP_cons, List.countP_cons, ih]
    cases ma : m a <;> cases mb : m' a
    · simp
    · simp [ma, mb]; omega
    · simp [ma, mb]; omega
    · rw [h a ma] at mb
      cases mb
theorem cnt_le {m m' : Nat → Bool} (h : ∀ j, m j = true → m' j = true) : cnt k m ≤ cnt k m' := List.countP_mono_left fun j _ => h j
theorem sum_le {l : List Nat} {f g : Nat → Nat} (h : ∀ i ∈ l, f i ≤ g i) : (l.map f).sum ≤ (l.map g).sum := by
  induction l with
  | nil => exact Nat.le_refl _
  | cons a l ih =>
    rw [List.map_cons, List.map_cons, List.sum_cons, List.sum_cons]
    have := h a (List.mem_cons_self ..)
    have := ih fun i hi => h i (List.mem_cons_of_mem _ hi)
    omega
theorem sum_add {l : List Nat} {f g : Nat → Nat} : (l.map fun i => f i + g i).sum = (l.map f).sum + (l.map g).sum := by
  induction l with
  | nil => rfl
  | cons a l ih =>
    rw [List.map_cons, List.map_cons, List.map_cons, List.sum_cons, List.sum_cons, List.sum_cons, ih]
    omega
theorem sum_one {l : List Nat} {i0 : Nat} (nd : l.Nodup) : (l.map fun i => if i = i0 then 1 else 0).sum ≤ 1 := by
  induction l with
  | nil => exact Nat.zero_le _
  | cons a l ih =>
    rw [List.map_cons, List.sum_cons]
    rw [List.nodup_cons] at nd
    by_cases h : a = i0
    · have z : (l.map fun i => if i = i0 then 1 else 0).sum = 0 := by
        have : ∀ i ∈ l, ¬ i = i0 := fun i hi e => nd.1 (by rw [h, ← e]; exact hi)
        clear ih nd
        induction l with
        | nil => rfl
        | cons b l ih =>
          rw [List.map_cons, List.sum_cons, if_neg (this b (List.mem_cons_self ..)), ih fun i hi => this i (List.mem_cons_of_mem _ hi)]
      rw [z, if_pos h]
      exact Nat.le_refl _
    · rw [if_neg h, Nat.zero_add]
      exact ih nd.2
theorem sum_pos {l : List Nat} {f : Nat → Nat} (h : 0 < (l.map f).sum) : ∃ i ∈ l, 0 < f i := by
  induction l with
  | nil => exact absurd h (by simp)
  | cons a l ih =>
    rw [List.map_cons, List.sum_cons] at h
    by_cases z : 0 < f a
    · exact ⟨a, List.mem_cons_self .., z⟩
    · obtain ⟨i, hi, q⟩ := ih (by omega)
      exact ⟨i, List.mem_cons_of_mem _ hi, q⟩
theorem filter_ne {l : List Nat} {v : Nat} (nd : l.Nodup) : l.length ≤ (l.filter fun x => x != v).length + 1 := by
  induction l with
  | nil => exact Nat.zero_le _
  | cons a l ih =>
    rw [List.nodup_cons] at nd
    by_cases h : a = v
    · have : l.filter (fun x => x != v) = l := List.filter_eq_self.mpr fun x hx => bne_iff_ne.mpr fun e => nd.1 (by rw [h, ← e]; exact hx)
      rw [List.filter_cons_of_neg (by simp [h]), this, List.length_cons]
      exact Nat.le_refl _
    · rw [List.filter_cons_of_pos (by simp [h]), List.length_cons, List.length_cons]
      have := ih nd.2
      omega
abbrev InBox (A : Nat → List Nat) (f : Nat → Nat) : Prop := ∀ i, f i ∈ A i
theorem usd_mono {m m' : Nat → Bool} {i : Nat} (h : ∀ j, m j = true → m' j = true) (q : usd k u m i = true) : usd k u m' i = true := by
  obtain ⟨j, hj, a, e⟩ := usd_iff.mp q
  exact usd_iff.mpr ⟨j, hj, h j a, e⟩
theorem wgt_mono {A : Nat → List Nat} {m m' : Nat → Bool} (h : ∀ j, j < k → m j = true → m' j = true) : wgt k r u A m ≤ wgt k r u A m' := by
  refine sum_le fun i _ => ?_
  by_cases q : usd k u m i = true
  · have : usd k u m' i = true := by
      obtain ⟨j, hj, a, e⟩ := usd_iff.mp q
      exact usd_iff.mpr ⟨j, hj, h j hj a, e⟩
    rw [if_pos q, if_pos this]
    exact Nat.le_refl _
  · rw [if_neg q]
    exact Nat.zero_le _
theorem cells : ∀ (n : Nat) (m : Nat → Bool) (A : Nat → List Nat), cnt k m = n → (∀ i, A i ≠ []) → (∀ i, (A i).Nodup) →
    (∃ f, InBox A f ∧ ∀ j, j < k → m j = true → Avoids r u f j) ∨ ∃ s : Nat → Bool, (∀ j, s j = true → m j = true) ∧ wgt k r u A s < cnt k s ∧ ∀ f, InBox A f → ∃ j, j < k ∧ s j = true ∧ ¬ Avoids r u f j := by
  intro n
  induction n using Nat.strongRecOn with
  | ind n ih =>
    intro m A hn ne nd
    by_cases hT : ∃ T : Nat → Bool, (∀ j, T j = true → m j = true) ∧ 0 < cnt k T ∧ cnt k T < cnt k m ∧ ∀ T' : Nat → Bool, (∀ j, T' j = true → m j = true) → cnt k T' + wgt k r u A T ≤ cnt k T + wgt k r u A T'
    · obtain ⟨T, sub, pos, lt, mx⟩ := hT
      rcases ih (cnt k T) (by omega) T A rfl ne nd with ⟨f, hf, av⟩ | ⟨s, hs, d, c⟩
      · -- the others, where T's coordinates stand still
        have part : ∀ j, m j = ((fun j => m j && !T j) j || T j) := fun j => by
          cases a : T j
          · simp [a]
          · simp [a, sub j a]
        have cm : cnt k m = cnt k (fun j => m j && !T j) + cnt k T := by
          rw [← cnt_or fun j h => by
            rw [Bool.and_eq_true] at h
            simpa using h.2]
          exact congrArg (cnt k) (funext part)
        rcases ih (cnt k fun j => m j && !T j) (by omega) (fun j => m j && !T j) (fun i => if usd k u T i then [f i] else A i) rfl (fun i => by
            split
            · simp
            · exact ne i) (fun i => by
            split
            · simp
            · exact nd i) with ⟨f', hf', av'⟩ | ⟨s, hs, d, c⟩
        · refine .inl ⟨f', fun i => ?_, fun j hj mj => ?_⟩
          · have := hf' i
            by_cases q : usd k u T i = true
            · simp only [q, if_true, List.mem_singleton] at this
              rw [this]
              exact hf i
            · simp only [q] at this
              exact this
          · cases a : T j with
            | false => exact av' j hj (by simp [mj, a])
            | true =>
              obtain ⟨i, hi, v, e, nv⟩ := av j hj a
              have q : usd k u T i = true := usd_iff.mpr ⟨j, hj, a, v, e⟩
              have := hf' i
              simp only [q, if_true, List.mem_singleton] at this
              exact ⟨i, hi, v, e, by rw [this]; exact nv⟩
        · exfalso
          have dis : ∀ j, s j = true → T j = false := fun j h => by
            have := hs j h
            simp only [Bool.and_eq_true, Bool.not_eq_true'] at this
            exact this.2
          have c1 := cnt_or (k := k) dis
          have h := mx (fun j => s j || T j) fun j h => by
            rw [Bool.or_eq_true] at h
            rcases h with h | h
            · have := hs j h
              rw [Bool.and_eq_true] at this
              exact this.1
            · exact sub j h
          have w1 : wgt k r u A (fun j => s j || T j) ≤ wgt k r u (fun i => if usd k u T i then [f i] else A i) s + wgt k r u A T := by
            unfold wgt
            rw [← sum_add]
            refine sum_le fun i _ => ?_
            rw [usd_or]
            cases a : usd k u s i <;> cases b : usd k u T i <;> simp [b]
          omega
      · exact .inr ⟨s, fun j h => sub j (hs j h), d, c⟩
    · by_cases dm : wgt k r u A m < cnt k m
      · by_cases cv : ∀ f, InBox A f → ∃ j, j < k ∧ m j = true ∧ ¬ Avoids r u f j
        · exact .inr ⟨m, fun _ h => h, dm, cv⟩
        · obtain ⟨f, hf⟩ := Classical.not_forall.mp cv
          obtain ⟨hf, no⟩ := Classical.not_imp.mp hf
          refine .inl ⟨f, hf, fun j hj mj => ?_⟩
          by_cases a : Avoids r u f j
          · exact a
          · exact absurd ⟨j, hj, mj, a⟩ no
      · -- every proper part is lighter than its coordinates
        have noT : ∀ T : Nat → Bool, (∀ j, T j = true → m j = true) → cnt k T ≤ wgt k r u A T := by
          intro T0 sub0
          refine Classical.byContradiction fun big => ?_
          have climb : ∀ d : Nat, ∃ T : Nat → Bool, (∀ j, T j = true → m j = true) ∧ wgt k r u A T + d < cnt k T := by
            intro d
            induction d with
            | zero => exact ⟨T0, sub0, by omega⟩
            | succ d ihd =>
              obtain ⟨T, sub, h⟩ := ihd
              by_cases full : cnt k T < cnt k m
              · have : ¬ ∀ T' : Nat → Bool, (∀ j, T' j = true → m j = true) → cnt k T' + wgt k r u A T ≤ cnt k T + wgt k r u A T' := fun z => hT ⟨T, sub, by omega, full, z⟩
                obtain ⟨T', h'⟩ := Classical.not_forall.mp this
                obtain ⟨sub', h'⟩ := Classical.not_imp.mp h'
                exact ⟨T', sub', by omega⟩
              · exfalso
                have eq : ∀ j, j < k → m j = true → T j = true := fun j hj mj => by
                  refine Classical.byContradiction fun no => ?_
                  have nT : T j = false := by cases q : T j; rfl; exact absurd q no
                  have c1 := cnt_or (k := k) (m := T) (m' := fun i => m i && !T i) fun i h => by simp [h]
                  have c2 : cnt k (fun i => T i || (m i && !T i)) ≤ cnt k m := cnt_le fun i h => by
                    rw [Bool.or_eq_true] at h
                    rcases h with h | h
                    · exact sub i h
                    · exact (Bool.and_eq_true .. ▸ h).1
                  have c3 : 0 < cnt k (fun i => m i && !T i) := List.countP_pos_iff.mpr ⟨j, List.mem_range.mpr hj, by simp [mj, nT]⟩
                  omega
                have := wgt_mono (r := r) (u := u) (A := A) eq
                have := cnt_le (k := k) sub
                omega
          obtain ⟨T, sub, h⟩ := climb (cnt k m)
          have := cnt_le (k := k) sub
          omega
        have strict : ∀ T : Nat → Bool, (∀ j, T j = true → m j = true) → 0 < cnt k T → cnt k T < cnt k m → cnt k T < wgt k r u A T := fun T sub pos lt => by
          refine Classical.byContradiction fun no => hT ⟨T, sub, pos, lt, fun T' sub' => ?_⟩
          have := noT T' sub'
          omega
        by_cases z : cnt k m = 0
        · refine .inl ⟨fun i => (A i).head (ne i), fun i => List.head_mem _, fun j hj mj => ?_⟩
          have : 0 < cnt k m := List.countP_pos_iff.mpr ⟨j, List.mem_range.mpr hj, mj⟩
          omega
        · obtain ⟨c, hc, mc⟩ := List.countP_pos_iff.mp (show 0 < cnt k m by omega)
          rw [List.mem_range] at hc
          have one : cnt k (fun j => j == c) = 1 := by
            unfold cnt
            rw [← List.count_eq_countP]
            exact (List.nodup_range).count.trans (if_pos (List.mem_range.mpr hc))
          have subc : ∀ j, (j == c) = true → m j = true := fun j h => by rw [beq_iff_eq.mp h]; exact mc
          have wc : 0 < wgt k r u A (fun j => j == c) := by
            have := noT _ subc
            omega
          obtain ⟨i, hi, wi⟩ := sum_pos wc
          rw [List.mem_range] at hi
          have uc : usd k u (fun j => j == c) i = true := by
            cases q : usd k u (fun j => j == c) i with
            | true => rfl
            | false => rw [q] at wi; exact absurd wi (by simp)
          rw [if_pos uc] at wi
          obtain ⟨c', _, ec, v, uv⟩ := usd_iff.mp uc
          rw [beq_iff_eq.mp ec] at uv
          have cm : cnt k m = cnt k (fun j => m j && j != c) + 1 := by
            rw [← one, ← cnt_or fun j h => by
              rw [Bool.and_eq_true] at h
              exact beq_eq_false_iff_ne.mpr (bne_iff_ne.mp h.2)]
            refine congrArg (cnt k) (funext fun j => ?_)
            by_cases q : j = c
            · subst q
              simp [mc]
            · have h1 : (j == c) = false := beq_eq_false_iff_ne.mpr q
              have h2 : (j != c) = true := bne_iff_ne.mpr q
              show m j = ((m j && j != c) || (j == c))
              rw [h1, h2, Bool.and_true, Bool.or_false]
          have len := filter_ne (v := v) (nd i)
          rcases ih (cnt k fun j => m j && j != c) (by omega) (fun j => m j && j != c) (fun i' => if i' = i then (A i).filter fun x => x != v else A i') rfl (fun i' => by
              split
              · intro e
                rw [e, List.length_nil] at len
                omega
              · exact ne i') (fun i' => by
              split
              · exact (nd i).filter _
              · exact nd i') with ⟨f, hf, av⟩ | ⟨s, hs, d, cv⟩
          · have hfi := hf i
            simp only [if_true] at hfi
            rw [List.mem_filter] at hfi
            refine .inl ⟨f, fun i' => ?_, fun j hj mj => ?_⟩
            · by_cases q : i' = i
              · rw [q]; exact hfi.1
              · have := hf i'
                simp only [q, if_false] at this
                exact this
            · by_cases q : j = c
              · rw [q]
                exact ⟨i, hi, v, uv, bne_iff_ne.mp hfi.2⟩
              · exact av j hj (by simp [mj, q])
          · exfalso
            have subs : ∀ j, s j = true → m j = true := fun j h => by
              have := hs j h
              rw [Bool.and_eq_true] at this
              exact this.1
            have w1 : wgt k r u A s ≤ wgt k r u (fun i' => if i' = i then (A i).filter fun x => x != v else A i') s + 1 := by
              refine Nat.le_trans ?_ (Nat.add_le_add_left (sum_one (l := List.range r) (i0 := i) List.nodup_range) _)
              unfold wgt
              rw [← sum_add]
              refine sum_le fun i' _ => ?_
              by_cases q : i' = i
              · rw [q]
                simp only [if_true]
                split
                · omega
                · omega
              · simp only [q, if_false]
                exact Nat.le_refl _
            have c1 := cnt_le (k := k) hs
            have := strict s subs (by omega) (by omega)
            omega
end
/-! ### primes, and the digits of a number to each prime -/
def Prm (p : Nat) : Prop := 2 ≤ p ∧ ∀ d, d ∣ p → d = 1 ∨ d = p
theorem prm_ex : ∀ n : Nat, 2 ≤ n → ∃ p, Prm p ∧ p ∣ n := by
  intro n
  induction n using Nat.strongRecOn with
  | ind n ih =>
    intro h
    by_cases z : Prm n
    · exact ⟨n, z, Nat.dvd_refl n⟩
    · have : ∃ d, d ∣ n ∧ d ≠ 1 ∧ d ≠ n := by
        refine Classical.byContradiction fun no => z ⟨h, fun d hd => ?_⟩
        refine Classical.byContradiction fun q => no ⟨d, hd, fun e => q (.inl e), fun e => q (.inr e)⟩
      obtain ⟨d, hd, d1, dn⟩ := this
      have le := Nat.le_of_dvd (by omega) hd
      have d0 : d ≠ 0 := fun e => by
        rw [e] at hd
        have := Nat.eq_zero_of_zero_dvd hd
        omega
      obtain ⟨p, hp, pd⟩ := ih d (by omega) (by omega)
      exact ⟨p, hp, Nat.dvd_trans pd hd⟩
theorem prm_cop {p n : Nat} (hp : Prm p) (h : ¬ p ∣ n) : Nat.Coprime p n := by
  rcases hp.2 (Nat.gcd p n) (Nat.gcd_dvd_left ..) with e | e
  · exact e
  · exact absurd (e ▸ Nat.gcd_dvd_right p n) h
theorem prm_of_pow {p q : Nat} (hp : Prm p) (hq : Prm q) : ∀ e : Nat, p ∣ q ^ e → p = q := by
  intro e
  induction e with
  | zero =>
    intro h
    rw [Nat.pow_zero] at h
    have := Nat.le_of_dvd (by decide) h
    have h1 := hp.1
    omega
  | succ e ih =>
    intro h
    by_cases z : p ∣ q
    · rcases hq.2 p z with e | e
      · have := hp.1
        omega
      · exact e
    · rw [Nat.pow_succ] at h
      exact ih ((prm_cop hp z).dvd_of_dvd_mul_right h)
theorem prm_cops {p q : Nat} (hp : Prm p) (hq : Prm q) (ne : p ≠ q) (d e : Nat) : Nat.Coprime (p ^ d) (q ^ e) := by
  refine Nat.Coprime.pow d e (prm_cop hp fun h => ?_)
  rcases hq.2 p h with z | z
  · have := hp.1
    omega
  · exact ne z
theorem pow_cut {p : Nat} (hp : Prm p) : ∀ n : Nat, 1 ≤ n → ∃ E m, n = p ^ E * m ∧ ¬ p ∣ m := by
  intro n
  induction n using Nat.strongRecOn with
  | ind n ih =>
    intro h
    by_cases z : p ∣ n
    · obtain ⟨c, e⟩ := z
      have hp1 := hp.1
      have c0 : 1 ≤ c := by
        by_cases q : 1 ≤ c
        · exact q
        · have : c = 0 := by omega
          rw [this, Nat.mul_zero] at e
          omega
      have lt : c < n := by
        have : 2 * c ≤ p * c := Nat.mul_le_mul_right c hp1
        omega
      obtain ⟨E, m, e2, no⟩ := ih c lt c0
      exact ⟨E + 1, m, by rw [e, e2, Nat.pow_succ, ← Nat.mul_assoc, Nat.mul_comm p], no⟩
    · exact ⟨0, n, by rw [Nat.pow_zero, Nat.one_mul], z⟩
def PP (q : Nat) : Prop := ∃ p e, Prm p ∧ q = p ^ (e + 1)
open Classical in
noncomputable def bs (q : Nat) : Nat := if h : PP q then Classical.choose h else 1
theorem bs_pow {p e : Nat} (hp : Prm p) : bs (p ^ (e + 1)) = p := by
  have h : PP (p ^ (e + 1)) := ⟨p, e, hp, rfl⟩
  unfold bs
  rw [dif_pos h]
  obtain ⟨e', h1, h2⟩ := Classical.choose_spec h
  refine prm_of_pow h1 hp (e + 1) ?_
  conv => rhs; rw [h2]
  exact ⟨_, Nat.pow_succ'⟩
theorem bs_pos (q : Nat) : 1 ≤ bs q := by
  by_cases h : PP q
  · obtain ⟨p, e, hp, rfl⟩ := h
    rw [bs_pow hp]
    have := hp.1
    omega
  · unfold bs
    rw [dif_neg h]
    exact Nat.le_refl _
noncomputable def dig (q x : Nat) : Nat := (x % q) / (q / bs q)
theorem dig_pow {p e x : Nat} (hp : Prm p) : dig (p ^ (e + 1)) x = (x % p ^ (e + 1)) / p ^ e := by
  unfold dig
  rw [bs_pow hp, Nat.pow_succ, Nat.mul_div_cancel _ (show 0 < p by have := hp.1; omega)]
theorem pow_pos' {p : Nat} (hp : Prm p) (e : Nat) : 0 < p ^ e := Nat.pow_pos (by have := hp.1; omega)
theorem dig_lt {q x : Nat} (h : PP q) : dig q x < bs q := by
  obtain ⟨p, e, hp, rfl⟩ := h
  rw [dig_pow hp, bs_pow hp]
  refine Nat.div_lt_of_lt_mul ?_
  rw [← Nat.pow_succ]
  exact Nat.mod_lt _ (pow_pos' hp _)
theorem dig_mod {n q x a : Nat} (hq : q ∣ n) (h : x % n = a % n) : dig q x = dig q a := by
  unfold dig
  have : x % q = a % q := by rw [← Nat.mod_mod_of_dvd x hq, h, Nat.mod_mod_of_dvd a hq]
  rw [this]
theorem pow_digs {p x a : Nat} (hp : Prm p) : ∀ E : Nat, (∀ e, e < E → dig (p ^ (e + 1)) x = dig (p ^ (e + 1)) a) → x % p ^ E = a % p ^ E := by
  intro E
  induction E with
  | zero =>
    intro _
    rw [Nat.pow_zero, Nat.mod_one, Nat.mod_one]
  | succ E ih =>
    intro h
    have h1 := ih fun e he => h e (by omega)
    have h2 := h E (by omega)
    rw [dig_pow hp, dig_pow hp] at h2
    have d : p ^ E ∣ p ^ (E + 1) := ⟨p, Nat.pow_succ ..⟩
    rw [← Nat.div_add_mod (x % p ^ (E + 1)) (p ^ E), ← Nat.div_add_mod (a % p ^ (E + 1)) (p ^ E), h2, Nat.mod_mod_of_dvd _ d, Nat.mod_mod_of_dvd _ d, h1]
theorem pp_dvd : ∀ n y : Nat, 1 ≤ n → (∀ q, PP q → q ∣ n → q ∣ y) → n ∣ y := by
  intro n
  induction n using Nat.strongRecOn with
  | ind n ih =>
    intro y h1 h
    by_cases z : n = 1
    · rw [z]; exact Nat.one_dvd y
    · obtain ⟨p, hp, pn⟩ := prm_ex n (by omega)
      obtain ⟨E, m, e, no⟩ := pow_cut hp n h1
      have m0 : 1 ≤ m := by
        by_cases q : 1 ≤ m
        · exact q
        · have : m = 0 := by omega
          rw [this, Nat.mul_zero] at e
          omega
      cases E with
      | zero =>
        rw [Nat.pow_zero, Nat.one_mul] at e
        exact absurd (e ▸ pn) no
      | succ E =>
        have two : 2 ≤ p ^ (E + 1) := by
          have h2 := hp.1
          have h3 := pow_pos' hp E
          rw [Nat.pow_succ]
          have : 1 * p ≤ p ^ E * p := Nat.mul_le_mul_right p h3
          omega
        have lt : m < n := by
          have : 2 * m ≤ p ^ (E + 1) * m := Nat.mul_le_mul_right m two
          omega
        have d1 := h (p ^ (E + 1)) ⟨p, E, hp, rfl⟩ ⟨m, e⟩
        have d2 := ih m lt y m0 fun q hq hd => h q hq (Nat.dvd_trans hd ⟨p ^ (E + 1), by rw [e, Nat.mul_comm]⟩)
        rw [e]
        exact Nat.Coprime.mul_dvd_of_dvd_of_dvd (Nat.Coprime.pow_left _ (prm_cop hp no)) d1 d2
theorem mod_dist {q x a : Nat} : x % q = a % q ↔ q ∣ ((x : Int) - (a : Int)).natAbs := by
  rw [← Int.ofNat_dvd_left]
  constructor
  · intro h
    have : (x : Int) % (q : Int) = (a : Int) % (q : Int) := by exact_mod_cast h
    exact Int.dvd_of_emod_eq_zero (Int.emod_eq_emod_iff_emod_sub_eq_zero.mp this)
  · intro h
    have := Int.emod_eq_emod_iff_emod_sub_eq_zero.mpr (Int.emod_eq_zero_of_dvd h)
    exact_mod_cast this
/-- the digits tell the remainder -/
theorem digs_mod {n x a : Nat} (h1 : 1 ≤ n) (h : ∀ q, PP q → q ∣ n → dig q x = dig q a) : x % n = a % n := by
  rw [mod_dist]
  refine pp_dvd n _ h1 fun q hq hd => ?_
  rw [← mod_dist]
  obtain ⟨p, e, hp, rfl⟩ := hq
  refine pow_digs hp (e + 1) fun d hde => h _ ⟨p, d, hp, rfl⟩ (Nat.dvd_trans (Nat.pow_dvd_pow p (by omega)) hd)
theorem bez (m n : Nat) : ∃ s t : Int, (m : Int) * s + (n : Int) * t = (Nat.gcd m n : Int) := by
  induction m, n using Nat.gcd.induction with
  | H0 n => exact ⟨0, 1, by simp⟩
  | H1 m n hm ih =>
    obtain ⟨s, t, e⟩ := ih
    refine ⟨t - ((n / m : Nat) : Int) * s, s, ?_⟩
    rw [Nat.gcd_rec, ← e]
    have d : (n : Int) = (m : Int) * ((n / m : Nat) : Int) + ((n % m : Nat) : Int) := by
      have := Nat.div_add_mod n m
      exact_mod_cast this.symm
    generalize ((n / m : Nat) : Int) = c at *
    generalize ((n % m : Nat) : Int) = r at *
    rw [d]
    grind
theorem inv_ex {a b : Nat} (co : Nat.Coprime a b) (hb : 0 < b) : ∃ c, (a * c) % b = 1 % b := by
  obtain ⟨s, t, e⟩ := bez a b
  rw [show Nat.gcd a b = 1 from co] at e
  have b0 : (b : Int) ≠ 0 := by omega
  have s0 := Int.emod_nonneg s b0
  refine ⟨(s % b).toNat, ?_⟩
  have h : ((a * (s % (b : Int)).toNat : Nat) : Int) % (b : Int) = ((1 : Nat) : Int) % (b : Int) := by
    rw [Int.natCast_mul, Int.toNat_of_nonneg s0]
    have e1 : (a : Int) * s = 1 + (b : Int) * (-t) := by
      rw [Int.mul_neg]
      omega
    rw [Int.mul_emod, Int.emod_emod_of_dvd s (Int.dvd_refl _), ← Int.mul_emod, e1, Int.add_mul_emod_self_left]
    rfl
  exact_mod_cast h
theorem crt {a b : Nat} (co : Nat.Coprime a b) (hb : 0 < b) (y z : Nat) : ∃ x, x % a = y % a ∧ x % b = z % b := by
  obtain ⟨c, hc⟩ := inv_ex co hb
  refine ⟨y + a * (c * (z + (b - 1) * y)), by rw [Nat.add_mul_mod_self_left], ?_⟩
  have e : (a * (c * (z + (b - 1) * y))) % b = (z + (b - 1) * y) % b := by
    rw [← Nat.mul_assoc, Nat.mul_mod, hc, ← Nat.mul_mod, Nat.one_mul]
  rw [Nat.add_mod, e, ← Nat.add_mod]
  have : y + (z + (b - 1) * y) = z + b * y := by
    obtain ⟨d, rfl⟩ : ∃ d, b = d + 1 := ⟨b - 1, by omega⟩
    rw [Nat.add_sub_cancel, Nat.add_mul]
    omega
  rw [this, Nat.add_mul_mod_self_left]
theorem pow_num {p : Nat} (hp : Prm p) (f : Nat → Nat) (hf : ∀ q, PP q → f q < bs q) : ∀ E : Nat, ∃ x, ∀ e, e < E → dig (p ^ (e + 1)) x = f (p ^ (e + 1)) := by
  intro E
  induction E with
  | zero => exact ⟨0, fun e he => absurd he (by omega)⟩
  | succ E ih =>
    obtain ⟨y, hy⟩ := ih
    refine ⟨y % p ^ E + p ^ E * f (p ^ (E + 1)), fun e he => ?_⟩
    by_cases z : e = E
    · subst z
      rw [dig_pow hp]
      have lt := hf (p ^ (e + 1)) ⟨p, e, hp, rfl⟩
      rw [bs_pow hp] at lt
      have m := Nat.mod_lt y (pow_pos' hp e)
      generalize f (p ^ (e + 1)) = F at *
      have : y % p ^ e + p ^ e * F < p ^ (e + 1) := by
        have h : p ^ e * (F + 1) ≤ p ^ e * p := Nat.mul_le_mul_left _ (by omega)
        rw [Nat.mul_add, Nat.mul_one] at h
        rw [Nat.pow_succ]
        omega
      rw [Nat.mod_eq_of_lt this, Nat.add_mul_div_left _ _ (pow_pos' hp e), Nat.div_eq_of_lt m, Nat.zero_add]
    · rw [← hy e (by omega)]
      have d : p ^ (e + 1) ∣ p ^ E := Nat.pow_dvd_pow p (by omega)
      refine dig_mod d ?_
      rw [Nat.add_mul_mod_self_left, Nat.mod_mod]
theorem digs_num : ∀ n : Nat, 1 ≤ n → ∀ f : Nat → Nat, (∀ q, PP q → f q < bs q) → ∃ x, ∀ q, PP q → q ∣ n → dig q x = f q := by
  intro n
  induction n using Nat.strongRecOn with
  | ind n ih =>
    intro h1 f hf
    by_cases z : n = 1
    · refine ⟨0, fun q hq hd => ?_⟩
      obtain ⟨p, e, hp, rfl⟩ := hq
      rw [z] at hd
      have := Nat.le_of_dvd (by decide) hd
      have h2 := hp.1
      have h3 := pow_pos' hp e
      have : 1 * p ≤ p ^ e * p := Nat.mul_le_mul_right p h3
      rw [Nat.pow_succ] at *
      omega
    · obtain ⟨p, hp, pn⟩ := prm_ex n (by omega)
      obtain ⟨E, m, e, no⟩ := pow_cut hp n h1
      have m0 : 1 ≤ m := by
        by_cases q : 1 ≤ m
        · exact q
        · have : m = 0 := by omega
          rw [this, Nat.mul_zero] at e
          omega
      have co : Nat.Coprime (p ^ E) m := Nat.Coprime.pow_left _ (prm_cop hp no)
      have lt : m < n := by
        cases E with
        | zero =>
          rw [Nat.pow_zero, Nat.one_mul] at e
          exact absurd (e ▸ pn) no
        | succ E =>
          have h2 := hp.1
          have h3 := pow_pos' hp E
          have e3 : p ^ (E + 1) = p ^ E * p := Nat.pow_succ ..
          have : 1 * p ≤ p ^ E * p := Nat.mul_le_mul_right p h3
          have : 2 * m ≤ p ^ (E + 1) * m := Nat.mul_le_mul_right m (by omega)
          omega
      obtain ⟨x1, g1⟩ := ih m lt m0 f hf
      obtain ⟨x2, g2⟩ := pow_num hp f hf E
      obtain ⟨x, c2, c1⟩ := crt co m0 x2 x1
      refine ⟨x, fun q hq hd => ?_⟩
      obtain ⟨p', e', hp', rfl⟩ := id hq
      rw [e] at hd
      by_cases same : p' = p
      · subst same
        have d : p' ^ (e' + 1) ∣ p' ^ E := (Nat.Coprime.pow_left (e' + 1) (prm_cop hp no)).dvd_of_dvd_mul_right hd
        have le : e' + 1 ≤ E := (Nat.pow_dvd_pow_iff_le_right (by have := hp.1; omega)).mp d
        rw [dig_mod d c2]
        exact g2 e' (by omega)
      · have d : p' ^ (e' + 1) ∣ m := (prm_cops hp' hp same (e' + 1) E).dvd_of_dvd_mul_left hd
        rw [dig_mod d c1]
        exact g1 _ hq d
def prodTo (g : Nat → Nat) : Nat → Nat
  | 0 => 1
  | n + 1 => prodTo g n * g n
theorem prod_dvd {g : Nat → Nat} {a : Nat} : ∀ b, a ≤ b → prodTo g a ∣ prodTo g b := by
  intro b
  induction b with
  | zero =>
    intro h
    rw [show a = 0 by omega]
    exact Nat.dvd_refl _
  | succ b ih =>
    intro h
    by_cases z : a = b + 1
    · rw [z]; exact Nat.dvd_refl _
    · exact Nat.dvd_trans (ih (by omega)) ⟨g b, rfl⟩
theorem prod_pos {g : Nat → Nat} (h : ∀ i, 1 ≤ g i) : ∀ n, 1 ≤ prodTo g n := by
  intro n
  induction n with
  | zero => exact Nat.le_refl _
  | succ n ih => exact Nat.mul_le_mul ih (h n)
theorem prod_mem {g : Nat → Nat} {i n : Nat} (h : i < n) : g i ∣ prodTo g n := Nat.dvd_trans ⟨prodTo g i, by show prodTo g i * g i = _; rw [Nat.mul_comm]⟩ (prod_dvd (g := g) (a := i + 1) n h)
theorem prod_pow {g : Nat → Nat} {p : Nat} (hp : Prm p) : ∀ E : Nat, (∀ e, e < E → p ∣ g (p ^ (e + 1))) → p ^ E ∣ prodTo g (p ^ E + 1) := by
  intro E
  induction E with
  | zero => intro _; rw [Nat.pow_zero]; exact Nat.one_dvd _
  | succ E ih =>
    intro h
    have h1 := ih fun e he => h e (by omega)
    have h2 := h E (by omega)
    have le : p ^ E + 1 ≤ p ^ (E + 1) := by
      have h2 := hp.1
      have h3 := pow_pos' hp E
      have : p ^ E * 2 ≤ p ^ E * p := Nat.mul_le_mul_left _ h2
      rw [Nat.pow_succ]
      omega
    show p ^ (E + 1) ∣ prodTo g (p ^ (E + 1)) * g (p ^ (E + 1))
    conv => lhs; rw [Nat.pow_succ]
    exact Nat.mul_dvd_mul (Nat.dvd_trans h1 (prod_dvd _ le)) h2
theorem prod_two {g h : Nat → Nat} (b : ∀ i, g i ≤ 2 ^ h i) : ∀ n, prodTo g n ≤ 2 ^ ((List.range n).map h).sum := by
  intro n
  induction n with
  | zero => exact Nat.le_refl _
  | succ n ih =>
    rw [List.range_succ, List.map_append, List.sum_append, Nat.pow_add]
    have e : (List.map h [n]).sum = h n := by simp
    rw [e]
    exact Nat.mul_le_mul ih (b n)
theorem le_two : ∀ n : Nat, 1 ≤ n → n ≤ 2 ^ (n - 1) := by
  intro n
  induction n with
  | zero => intro h; omega
  | succ n ih =>
    intro _
    by_cases z : n = 0
    · subst z; decide
    · have := ih (by omega)
      rw [Nat.add_sub_cancel]
      obtain ⟨d, rfl⟩ : ∃ d, n = d + 1 := ⟨n - 1, by omega⟩
      rw [Nat.add_sub_cancel] at this
      rw [Nat.pow_succ]
      omega
open Classical in
/-- k classes that hold every number have a cycle of at most 2 ^ (k - 1) -/
theorem cyc_nat (k : Nat) (nn aa : Nat → Nat) (pos : ∀ j, j < k → 1 ≤ nn j) (all : ∀ x : Nat, ∃ j, j < k ∧ x % nn j = aa j % nn j) : ∃ N : Nat, 1 ≤ N ∧ N ≤ 2 ^ (k - 1) ∧ ∀ x : Nat, ∃ j, j < k ∧ nn j ∣ N ∧ x % nn j = aa j % nn j := by
  let N0 := prodTo (fun j => if j < k then nn j else 1) k
  have N1 : 1 ≤ N0 := prod_pos (fun i => by split; exact pos i (by assumption); exact Nat.le_refl _) k
  have nd : ∀ j, j < k → nn j ∣ N0 := fun j hj => by
    have := prod_mem (g := fun j => if j < k then nn j else 1) hj
    simp only [hj, if_true] at this
    exact this
  let u : Nat → Nat → Option Nat := fun j q => if PP q ∧ q ∣ nn j then some (dig q (aa j)) else none
  have us : ∀ {j q v}, u j q = some v → PP q ∧ q ∣ nn j ∧ v = dig q (aa j) := fun {j q v} h => by
    by_cases z : PP q ∧ q ∣ nn j
    · have e : u j q = some (dig q (aa j)) := if_pos z
      rw [e] at h
      cases h
      exact ⟨z.1, z.2, rfl⟩
    · have e : u j q = none := if_neg z
      rw [e] at h
      cases h
  let A : Nat → List Nat := fun q => if PP q then List.range (bs q) else [0]
  have inA : ∀ {f : Nat → Nat}, InBox A f → ∀ q, PP q → f q < bs q := fun {f} h q hq => by
    have := h q
    have e : A q = List.range (bs q) := if_pos hq
    rw [e] at this
    exact List.mem_range.mp this
  rcases cells (k := k) (r := N0 + 1) (u := u) (cnt k fun _ => true) (fun _ => true) A rfl (fun q => by
      by_cases hq : PP q
      · have e : A q = List.range (bs q) := if_pos hq
        rw [e]
        intro z
        have := congrArg List.length z
        rw [List.length_range, List.length_nil] at this
        have := bs_pos q
        omega
      · have e : A q = [0] := if_neg hq
        rw [e]
        simp) (fun q => by
      by_cases hq : PP q
      · have e : A q = List.range (bs q) := if_pos hq
        rw [e]
        exact List.nodup_range
      · have e : A q = [0] := if_neg hq
        rw [e]
        simp) with ⟨f, hf, av⟩ | ⟨s, _, w, cv⟩
  · exfalso
    obtain ⟨x, hx⟩ := digs_num N0 N1 f (inA hf)
    obtain ⟨j, hj, e⟩ := all x
    obtain ⟨q, hq, v, uv, ne⟩ := av j hj rfl
    obtain ⟨hpp, hd, rfl⟩ := us uv
    refine ne ?_
    rw [← hx q hpp (Nat.dvd_trans hd (nd j hj))]
    exact dig_mod hd e
  · let g : Nat → Nat := fun q => if usd k u s q then bs q else 1
    have g1 : ∀ q, 1 ≤ g q := fun q => by
      show 1 ≤ if usd k u s q then bs q else 1
      split
      · exact bs_pos q
      · exact Nat.le_refl _
    refine ⟨prodTo g (N0 + 1), prod_pos g1 _, ?_, fun x => ?_⟩
    · have b := prod_two (g := g) (h := fun i => if usd k u s i then (A i).length - 1 else 0) (fun q => by
        by_cases z : usd k u s q = true
        · obtain ⟨j, _, _, v, uv⟩ := usd_iff.mp z
          have hq := (us uv).1
          have e : A q = List.range (bs q) := if_pos hq
          have eg : g q = bs q := if_pos z
          rw [eg, if_pos z, e, List.length_range]
          exact le_two _ (bs_pos q)
        · have eg : g q = 1 := if_neg z
          rw [eg, if_neg z]
          exact Nat.le_refl _) (N0 + 1)
      refine Nat.le_trans b (Nat.pow_le_pow_right (by decide) ?_)
      have c : cnt k s ≤ k := by
        have := List.countP_le_length (p := s) (l := List.range k)
        rw [List.length_range] at this
        exact this
      have : wgt k (N0 + 1) u A s < cnt k s := w
      unfold wgt at this
      omega
    · obtain ⟨j, hj, sj, na⟩ := cv (fun q => if PP q then dig q x else 0) fun q => by
        by_cases hq : PP q
        · have e : A q = List.range (bs q) := if_pos hq
          show (if PP q then dig q x else 0) ∈ A q
          rw [e, if_pos hq]
          exact List.mem_range.mpr (dig_lt hq)
        · have e : A q = [0] := if_neg hq
          show (if PP q then dig q x else 0) ∈ A q
          rw [e, if_neg hq]
          exact List.mem_singleton.mpr rfl
      have uj : ∀ q, PP q → q ∣ nn j → u j q = some (dig q (aa j)) := fun q hq hd => if_pos ⟨hq, hd⟩
      have ql : ∀ q, q ∣ nn j → q < N0 + 1 := fun q hd => Nat.lt_succ_of_le (Nat.le_of_dvd N1 (Nat.dvd_trans hd (nd j hj)))
      refine ⟨j, hj, ?_, digs_mod (pos j hj) fun q hq hd => ?_⟩
      · refine pp_dvd _ _ (pos j hj) fun q hq hd => ?_
        obtain ⟨p, e, hp, rfl⟩ := id hq
        refine Nat.dvd_trans (prod_pow hp (e + 1) fun d hde => ?_) (prod_dvd _ (ql _ hd))
        have hd' : p ^ (d + 1) ∣ nn j := Nat.dvd_trans (Nat.pow_dvd_pow p (by omega)) hd
        have hq' : PP (p ^ (d + 1)) := ⟨p, d, hp, rfl⟩
        have z : usd k u s (p ^ (d + 1)) = true := usd_iff.mpr ⟨j, hj, sj, _, uj _ hq' hd'⟩
        have eg : g (p ^ (d + 1)) = bs (p ^ (d + 1)) := if_pos z
        rw [eg, bs_pow hp]
        exact Nat.dvd_refl p
      · refine Classical.byContradiction fun ne => na ⟨q, ql q hd, _, uj q hq hd, ?_⟩
        show ¬ (if PP q then dig q x else 0) = dig q (aa j)
        rw [if_pos hq]
        exact ne


/-! ### owners of a cycle -/
def fitB (p : Int × Int) (N r : Int) : Bool := decide (N % p.1 = 0) && decide ((r - p.2) % p.1 = 0)
def ownr (ps : List (Int × Int)) (N r : Int) : Option Nat := (List.range ps.length).find? fun j => fitB (ps.getD j (1, 0)) N r
def okn (ps : List (Int × Int)) (N : Nat) : Bool := (List.range N).all fun r => (ownr ps N (r : Nat)).isSome
def owns (ps : List (Int × Int)) (N : Nat) : List Int := (List.range N).map fun r => (((ownr ps N (r : Nat)).getD 0 : Nat) : Int)
def CycAt (ps : List (Int × Int)) : Option Nat → Prop
  | none => ∀ N, 1 ≤ N → N ≤ 2 ^ ps.length / 2 → okn ps N = false
  | some N => 1 ≤ N ∧ N ≤ 2 ^ ps.length / 2 ∧ okn ps N = true ∧ ∀ M, 1 ≤ M → M < N → okn ps M = false
theorem first_rng {f : Nat → Bool} {n i : Nat} (hi : i < n) (h : f i = true) (low : ∀ j, j < i → f j = false) : (List.range n).find? f = some i := by
  rw [List.find?_eq_some_iff_append]
  refine ⟨h, List.range i, (List.range' (i + 1) (n - (i + 1))), ?_, fun a ha => ?_⟩
  · rw [List.range_eq_range', List.range_eq_range']
    have e : n = i + (1 + (n - (i + 1))) := by omega
    conv => lhs; rw [e]
    rw [← List.range'_append_1, ← List.range'_append_1 (n := n - (i + 1)), Nat.zero_add]
    rfl
  · rw [low a (List.mem_range.mp ha)]
    rfl
theorem own_is {ps : List (Int × Int)} {N r : Int} {i : Nat} {p : Int × Int} (e : ps[i]? = some p) (h : fitB p N r = true) (low : ∀ j q, j < i → ps[j]? = some q → fitB q N r = false) : ownr ps N r = some i := by
  have il := (List.getElem?_eq_some_iff.mp e).1
  refine first_rng il (by rw [List.getD_eq_getElem?_getD, e]; exact h) fun j hj => ?_
  have ej : ps[j]? = some ps[j] := List.getElem?_eq_getElem (by omega)
  rw [List.getD_eq_getElem?_getD, ej]
  exact low j _ hj ej
theorem own_no {ps : List (Int × Int)} {N r : Int} (low : ∀ j q, j < ps.length → ps[j]? = some q → fitB q N r = false) : ownr ps N r = none := by
  refine List.find?_eq_none.mpr fun j hj => ?_
  have jl := List.mem_range.mp hj
  have ej : ps[j]? = some ps[j] := List.getElem?_eq_getElem jl
  rw [List.getD_eq_getElem?_getD, ej]
  show ¬ fitB ps[j] N r = true
  rw [low j _ jl ej]
  decide
theorem own_fit {ps : List (Int × Int)} {N r : Int} {j : Nat} (h : ownr ps N r = some j) : ∃ p, ps[j]? = some p ∧ fitB p N r = true := by
  have jl := List.mem_range.mp (List.mem_of_find?_eq_some h)
  have f := List.find?_some h
  have ej : ps[j]? = some ps[j] := List.getElem?_eq_getElem jl
  rw [List.getD_eq_getElem?_getD, ej] at f
  exact ⟨_, ej, f⟩
/-- what a cycle holds, is held -/
theorem okn_hits {ps : List (Int × Int)} {N : Nat} (h1 : 1 ≤ N) (h : okn ps N = true) (x : Int) : hits ps x = true := by
  have n0 : (N : Int) ≠ 0 := by omega
  have m0 := Int.emod_nonneg x n0
  have m1 := Int.emod_lt_of_pos x (show (0 : Int) < N by omega)
  obtain ⟨r, er⟩ : ∃ r : Nat, x % (N : Int) = r := ⟨(x % N).toNat, by omega⟩
  have := List.all_eq_true.mp h r (List.mem_range.mpr (by omega))
  obtain ⟨j, ej⟩ := Option.isSome_iff_exists.mp this
  obtain ⟨p, hp, f⟩ := own_fit ej
  unfold fitB at f
  rw [Bool.and_eq_true, decide_eq_true_eq, decide_eq_true_eq] at f
  refine List.any_eq_true.mpr ⟨p, List.mem_of_getElem? hp, beq_iff_eq.mpr ?_⟩
  have e := Int.mul_ediv_add_emod x N
  rw [er] at e
  obtain ⟨c, ec⟩ := Int.dvd_of_emod_eq_zero f.1
  obtain ⟨d, ed⟩ := Int.dvd_of_emod_eq_zero f.2
  refine Int.emod_eq_zero_of_dvd ⟨c * (x / N) + d, ?_⟩
  rw [Int.mul_add, ← ed, ← Int.mul_assoc, ← ec]
  omega
/-- the fact: without a gap there is a cycle, and a small one -/
theorem cyc_ex {ps : List (Int × Int)} (w : ∀ p ∈ ps, 1 ≤ p.1 ∧ 0 ≤ p.2) (all : ∀ x : Int, hits ps x = true) : ∃ N, 1 ≤ N ∧ N ≤ 2 ^ ps.length / 2 ∧ okn ps N = true := by
  have len : ps ≠ [] := fun e => by
    have := all 0
    rw [e] at this
    cases this
  have l1 : 1 ≤ ps.length := by
    cases ps with
    | nil => exact absurd rfl len
    | cons _ _ => exact Nat.succ_le_succ (Nat.zero_le _)
  have at' : ∀ {j : Nat}, j < ps.length → ∃ p, ps.getD j (1, 0) = p ∧ p ∈ ps ∧ ps[j]? = some p := fun {j} hj => by
    have ej : ps[j]? = some ps[j] := List.getElem?_eq_getElem hj
    exact ⟨ps[j], by rw [List.getD_eq_getElem?_getD, ej]; rfl, List.mem_of_getElem? ej, ej⟩
  have cast : ∀ {p : Int × Int} {x : Nat}, 1 ≤ p.1 → 0 ≤ p.2 → ((x % p.1.toNat = p.2.toNat % p.1.toNat) ↔ ((x : Int) - p.2) % p.1 = 0) := fun {p x} h1 h2 => by
    rw [← Int.emod_eq_emod_iff_emod_sub_eq_zero]
    have a1 : ((p.1.toNat : Nat) : Int) = p.1 := Int.toNat_of_nonneg (by omega)
    have a2 : ((p.2.toNat : Nat) : Int) = p.2 := Int.toNat_of_nonneg h2
    constructor
    · intro h
      have h' : ((x % p.1.toNat : Nat) : Int) = ((p.2.toNat % p.1.toNat : Nat) : Int) := by rw [h]
      rw [Int.natCast_emod, Int.natCast_emod, a1, a2] at h'
      exact h'
    · intro h
      have h' : ((x % p.1.toNat : Nat) : Int) = ((p.2.toNat % p.1.toNat : Nat) : Int) := by
        rw [Int.natCast_emod, Int.natCast_emod, a1, a2]
        exact h
      exact Int.ofNat_inj.mp h'
  obtain ⟨N, N1, N2, hN⟩ := cyc_nat ps.length (fun j => (ps.getD j (1, 0)).1.toNat) (fun j => (ps.getD j (1, 0)).2.toNat) (fun j hj => by
    obtain ⟨p, e, hp, _⟩ := at' hj
    show 1 ≤ (ps.getD j (1, 0)).1.toNat
    rw [e]
    have := (w p hp).1
    omega) (fun x => by
    obtain ⟨p, hp, h⟩ := List.any_eq_true.mp (all x)
    obtain ⟨j, hj, e⟩ := List.getElem_of_mem hp
    refine ⟨j, hj, ?_⟩
    obtain ⟨p', e1, hp', e2⟩ := at' hj
    rw [List.getElem?_eq_getElem hj, e] at e2
    cases e2
    show x % (ps.getD j (1, 0)).1.toNat = _ % (ps.getD j (1, 0)).1.toNat
    rw [e1]
    exact (cast (w p hp).1 (w p hp).2).mpr (beq_iff_eq.mp h))
  refine ⟨N, N1, ?_, List.all_eq_true.mpr fun r _ => ?_⟩
  · obtain ⟨k, ek⟩ : ∃ k, ps.length = k + 1 := ⟨ps.length - 1, by omega⟩
    rw [ek] at N2 ⊢
    rw [Nat.add_sub_cancel] at N2
    rw [Nat.pow_succ, Nat.mul_div_cancel _ (by decide)]
    exact N2
  · obtain ⟨j, hj, hd, hm⟩ := hN r
    obtain ⟨p, e1, hp, e2⟩ := at' hj
    have hd' : (ps.getD j (1, 0)).1.toNat ∣ N := hd
    have hm' : r % (ps.getD j (1, 0)).1.toNat = (ps.getD j (1, 0)).2.toNat % (ps.getD j (1, 0)).1.toNat := hm
    rw [e1] at hd' hm'
    have fit : fitB p N (r : Nat) = true := by
      unfold fitB
      rw [Bool.and_eq_true, decide_eq_true_eq, decide_eq_true_eq]
      refine ⟨Int.emod_eq_zero_of_dvd ?_, (cast (w p hp).1 (w p hp).2).mp hm'⟩
      have a1 : ((p.1.toNat : Nat) : Int) = p.1 := Int.toNat_of_nonneg (by have := (w p hp).1; omega)
      rw [← a1]
      exact Int.ofNat_dvd.mpr hd'
    cases q : ownr ps N (r : Nat) with
    | some _ => rfl
    | none =>
      have := List.find?_eq_none.mp q j (List.mem_range.mpr hj)
      rw [e1, fit] at this
      exact absurd rfl this
theorem cyc_none {ps : List (Int × Int)} (w : ∀ p ∈ ps, 1 ≤ p.1 ∧ 0 ≤ p.2) (l6 : ps.length ≤ 6) (h : CycAt ps none) : ¬ ∀ j : Nat, j < 64 → hits ps (j : Nat) = true := fun all => by
  have p6 := pow_six l6
  obtain ⟨N, N1, N2, ok⟩ := cyc_ex w fun x => hits_all (a := 0) (fun i hi => by rw [Int.zero_add]; exact all i (by omega)) x
  rw [h N N1 N2] at ok
  cases ok
def oN : Option Nat → V
  | some j => .int (j : Nat)
  | none => .non

end Lw
namespace Lw
open PySem L2 Bar
/-! ### gaps of a list or a tuple of grids -/
def SeqH (H : Hp) (L : Addr) (xs : List V) : Prop := H L = some (.lst xs) ∨ H L = some (.tup xs)
theorem SeqH.same {H H' : Hp} {L : Addr} {xs : List V} (S : Same H H') (h : SeqH H L xs) : SeqH H' L xs := h.imp (S _ _) (S _ _)
def GridsS (C : Addr) (H : Hp) (L : Addr) (gs : List Addr) (ps : List (Int × Int)) : Prop := SeqH H L (gs.map V.ref) ∧ gs.length = ps.length ∧ ∀ (i : Nat) g, gs[i]? = some g → ∃ p, ps[i]? = some p ∧ GridAt C H g p.1 p.2 ∧ 1 ≤ p.1 ∧ 0 ≤ p.2 ∧ p.2 < p.1
theorem GridsS.same {C : Addr} {H H' : Hp} {L : Addr} {gs : List Addr} {ps : List (Int × Int)} (S : Same H H') (h : GridsS C H L gs ps) : GridsS C H' L gs ps := ⟨h.1.same S, h.2.1, fun i g e => by
  obtain ⟨p, e2, G, w⟩ := h.2.2 i g e
  exact ⟨p, e2, G.same S, w⟩⟩
theorem GridsAt.s {C : Addr} {H : Hp} {L : Addr} {gs : List Addr} {ps : List (Int × Int)} (h : GridsAt C H L gs ps) : GridsS C H L gs ps := ⟨.inl h.1, h.2⟩
theorem GridsAt.t {C : Addr} {H : Hp} {L p : Addr} {gs : List Addr} {ps : List (Int × Int)} (hp : H p = none) (h : GridsAt C H L gs ps) : GridsS C (upd H p (.tup (gs.map V.ref))) p gs ps := ⟨.inr upd_same, h.2.1, fun i g e => by
  obtain ⟨q, e2, G, w⟩ := h.2.2 i g e
  exact ⟨q, e2, G.new hp, w⟩⟩
theorem GridsS.wide {C : Addr} {H : Hp} {L : Addr} {gs : List Addr} {ps : List (Int × Int)} (h : GridsS C H L gs ps) : ∀ p ∈ ps, 0 ≤ p.2 ∧ p.2 < p.1 := fun p hp => by
  obtain ⟨i, hi, e⟩ := List.getElem_of_mem hp
  have hg : i < gs.length := by rw [h.2.1]; exact hi
  obtain ⟨p', e2, _, _, w⟩ := h.2.2 i gs[i] (List.getElem?_eq_getElem hg)
  rw [List.getElem?_eq_getElem hi, e] at e2
  cases e2
  exact w

section
variable {P : Program} {w : World} {K : PySem.W.Frag} {mg : Str → Option Value} {base : Heap} {C : Addr}
theorem rFS {H : Hp} {g : Addr} {st o : Int} {R : V → Prop} (G : GTxt K C) (h : GridAt C H g st o) (r : R (.int st)) : ∃ a C dx fs v, V.ref g = .ref a ∧ H a = some (.ins C dx fs) ∧ Cls K C ∧ NoAttr K C "step" ∧ fs.lookup ("step" : Str) = some v ∧ R v := by
  obtain ⟨dx, hg⟩ := h
  exact Bar.rFldV hg G.cl G.nS (gf_step _ _) r
theorem rFO {H : Hp} {g : Addr} {st o : Int} {R : V → Prop} (G : GTxt K C) (h : GridAt C H g st o) (r : R (.int o)) : ∃ a C dx fs v, V.ref g = .ref a ∧ H a = some (.ins C dx fs) ∧ Cls K C ∧ NoAttr K C "offset" ∧ fs.lookup ("offset" : Str) = some v ∧ R v := by
  obtain ⟨dx, hg⟩ := h
  exact Bar.rFldV hg G.cl G.nO (gf_off _ _) r

theorem gf_none (st o : Int) {m : Str} (h1 : ¬ m = "step") (h2 : ¬ m = "offset") : (gf st o).lookup m = none := by
  rw [← put_off, lookup_putF, if_neg h2, ← put_step, lookup_putF, if_neg h1]
  rfl
theorem rMG {H : Hp} {g : Addr} {st o : Int} {m : Str} {R : Prop} (h : GridAt C H g st o) (h1 : ¬ m = "step") (h2 : ¬ m = "offset") (r : R) : ∃ a dx fs, V.ref g = .ref a ∧ H a = some (.ins C dx fs) ∧ fs.lookup m = none ∧ R := by
  obtain ⟨dx, hg⟩ := h
  exact ⟨g, dx, _, rfl, hg, gf_none _ _ h1 h2, r⟩
end


/-! ### the cycle of a list of grids -/
def spWithin (C : Addr) : Sp := fun vs H Q _ => ∃ (g g' : Addr) (a o a' o' : Int), vs = [.ref g, .ref g'] ∧ GridAt C H g a o ∧ GridAt C H g' a' o' ∧ 1 ≤ a' ∧ Q (.bl (decide (a % a' = 0) && decide (o % a' = o'))) H
def spAroundG (C : Addr) : Sp := fun vs H Q _ => ∃ (L g : Addr) (gs : List Addr) (ps : List (Int × Int)) (N r : Int), vs = [.ref L, .ref g] ∧ GridsS C H L gs ps ∧ GridAt C H g N r ∧ ∀ H', Same H H' → Q (oN (ownr ps N r)) H'
def spOwners (C : Addr) : Sp := fun vs H Q _ => ∃ (L : Addr) (gs : List Addr) (ps : List (Int × Int)) (N : Nat), vs = [.ref L, .int (N : Nat)] ∧ GridsS C H L gs ps ∧ 1 ≤ N ∧ N ≤ 32 ∧
  (okn ps N = false → ∀ H', Same H H' → Q .non H') ∧ (okn ps N = true → ∀ D H', H D = none → Same H H' → H' D = some (.lst ((owns ps N).map V.int)) → Q (.ref D) H')
theorem within_fit {p : Int × Int} {N r : Int} (h0 : 0 ≤ p.2) (h1 : p.2 < p.1) : (decide (N % p.1 = 0) && decide (r % p.1 = p.2)) = fitB p N r := by
  unfold fitB
  have e := in_iff r p.2 p.1
  rw [Int.emod_eq_of_lt h0 h1] at e
  rw [e]
section
variable {P : Program} {w : World} {K : PySem.W.Frag} {mg : Str → Option Value} {base : Heap} {C : Addr}
theorem ok_within {f : Addr} {fd : FuncData} (F : Fun K "within" "Grid.within" s_Grid_within f fd) (G : GTxt K C) (o_Grid : Opr P w K mg base C "__contains__" P_Grid___contains__ 1 (spIn C)) : FnOk P w K mg base CX0 2 f fd P_Grid_within (spWithin C) := by
  refine F.ok sc_Grid_within (fun vs H Q E h => ?_) (fun cdv A outer s H vs Q E hr h => ?_)
  · obtain ⟨g, g', a, o, a', o', rfl, _⟩ := h
    rfl
  · obtain ⟨g, g', a, o, a', o', rfl, hg, hg', a1, k⟩ := h
    refine ⟨_, (pss_one (ps_ret (pe_and (pe_cmpR op_eq (pe_op op_mod (pe_fld (pv 0) rfl) (pe_fld (pv 1) rfl)) pe_int (nomark _)) (pe_one (pe_cmpR (op_in o_Grid (hr.mono (by omega))) (pe_fld (pv 0) rfl) (pv 1) (by rfl)))))), ?_⟩
    refine Bar.rStart (σ := [some (.ref g), some (.ref g')]) rfl ?_
    walk_at "rd"
    refine rFS G hg ?_
    walk_at "rd"
    refine rFS G hg' ?_
    walk_at "rd"
    refine ite2 (fun h => ?_) (fun h => ?_)
    · walk_at "rd"
      refine rFO G hg ?_
      walk_at "rd"
      refine rInG hg' a1 ?_
      walk_at "rd"
      rw [h, Bool.true_and] at k
      exact k
    · walk_at "rd"
      rw [Bool.eq_false_iff.mpr h, Bool.false_and] at k
      exact k
theorem ok_aroundG {f : Addr} {fd : FuncData} (F : Fun K "first_around" "first_around" s_first_around f fd) (T : Txt mg) (m_Grid_within : Mth P w K mg base C "within" P_Grid_within [] 2 (spWithin C)) : FnOk P w K mg base CX0 3 f fd P_first_around (spAroundG C) := by
  refine F.ok sc_first_around (fun vs H Q E h => ?_) (fun cdv A outer s H vs Q E hr h => ?_)
  · obtain ⟨L, g, gs, ps, N, r, rfl, _⟩ := h
    rfl
  · obtain ⟨L, g, gs, ps, N, r, rfl, GA, hg, k⟩ := h
    have lg := GA.2.1
    have step : ∀ {i : Nat} {v : V} {H' : Hp}, Same H H' → (gs.map V.ref)[i]? = some v → ∃ q p, v = .ref q ∧ ps[i]? = some p ∧ GridAt C H' q p.1 p.2 ∧ 1 ≤ p.1 ∧ 0 ≤ p.2 ∧ p.2 < p.1 := fun S e => by
      rw [List.getElem?_map] at e
      obtain ⟨q, eq, rfl⟩ := Option.map_eq_some_iff.mp e
      obtain ⟨p, ep, Gp, w⟩ := GA.2.2 _ q eq
      exact ⟨q, p, rfl, ep, Gp.same S, w⟩
    rcases GA.1 with hL | hL
    · refine ⟨_, (pss_cons (ps_for PassesOwn.never rfl  (pi_enum (by rfl) T.b_enumerate (pa_cons (pv 0) pa_nil)) (pg_tup rfl (pgs_cons (pg_name (i := 2) sc_first_around.nd rfl (Or.inl rfl)) (pgs_cons (pg_name (i := 3) sc_first_around.nd rfl (Or.inl rfl)) pgs_nil))) (pss_one (ps_if (pt_val (pe_mth m_Grid_within (pv 1) (hr.mono (by omega)) (pa_cons (pv 3) pa_nil))) (pss_one (ps_ret (pv 2))) pss_nil)))
    (pss_one (ps_ret pe_non))), ?_⟩
      refine Bar.rStart (σ := [some (.ref L), some (.ref g), none, none]) rfl ?_
      walk_at "rd"
      refine Bar.forE (xs := gs.map V.ref) (fun i σ H' => Same H H' ∧ (∃ y z : Option V, σ = [some (.ref L), some (.ref g), y, z]) ∧ ∀ (j : Nat) q, j < i → ps[j]? = some q → fitB q N r = false) (SqL.of hL) ⟨fun _ _ z => z, ⟨_, _, rfl⟩, fun j q hj => absurd hj (by omega)⟩ (fun i σ H2 _ ⟨S, _⟩ => SqL.of (S _ _ hL)) ?_ ?_
      · rintro i v σ H' t hv ⟨S, ⟨y, z, rfl⟩, low⟩ ht
        obtain ⟨q, p, rfl, ep, Gp, p1, p2, p3⟩ := step S hv
        have Gq := Gp.new (u := .tup [.int (i : Nat), .ref q]) ht
        have hg' := (hg.same S).new (u := .tup [.int (i : Nat), .ref q]) ht
        have S' : Same H (upd H' t (.tup [.int (i : Nat), .ref q])) := fun _ _ z => Bar.lkNew ht (S _ _ z)
        refine rTupU (SqT.of upd_same) rfl ?_
        walk_at "rd"
        refine rMG hg' (by decide) (by decide) ?_
        walk_at "rd"
        refine ⟨g, q, N, r, p.1, p.2, rfl, hg', Gq, p1, ?_⟩
        rw [within_fit p2 p3]
        walk_at "rd"
        refine ite2 (fun h => ?_) (fun h => ?_)
        · walk_at "rd"
          have := k _ S'
          rw [own_is ep h low] at this
          exact this
        · walk_at "rd"
          refine ⟨S', ⟨_, _, rfl⟩, fun j q' hj ej => ?_⟩
          by_cases ji : j = i
          · subst ji
            cases ep.symm.trans ej
            exact Bool.eq_false_iff.mpr h
          · exact low j q' (by omega) ej
      · rintro σ H' ⟨S, ⟨y, z, rfl⟩, low⟩
        rw [List.length_map, lg] at low
        walk_at "rd"
        have := k _ S
        rw [own_no fun j q hj ej => low j q hj ej] at this
        exact this
    · refine ⟨_, (pss_cons (ps_for PassesOwn.never rfl  (pi_enumT (by rfl) T.b_enumerate (pa_cons (pv 0) pa_nil)) (pg_tup rfl (pgs_cons (pg_name (i := 2) sc_first_around.nd rfl (Or.inl rfl)) (pgs_cons (pg_name (i := 3) sc_first_around.nd rfl (Or.inl rfl)) pgs_nil))) (pss_one (ps_if (pt_val (pe_mth m_Grid_within (pv 1) (hr.mono (by omega)) (pa_cons (pv 3) pa_nil))) (pss_one (ps_ret (pv 2))) pss_nil)))
    (pss_one (ps_ret pe_non))), ?_⟩
      refine Bar.rStart (σ := [some (.ref L), some (.ref g), none, none]) rfl ?_
      walk_at "rd"
      refine Bar.forET (xs := gs.map V.ref) (fun i σ H' => Same H H' ∧ (∃ y z : Option V, σ = [some (.ref L), some (.ref g), y, z]) ∧ ∀ (j : Nat) q, j < i → ps[j]? = some q → fitB q N r = false) (SqT.of hL) ⟨fun _ _ z => z, ⟨_, _, rfl⟩, fun j q hj => absurd hj (by omega)⟩ (fun i σ H2 _ ⟨S, _⟩ => SqT.of (S _ _ hL)) ?_ ?_
      · rintro i v σ H' t hv ⟨S, ⟨y, z, rfl⟩, low⟩ ht
        obtain ⟨q, p, rfl, ep, Gp, p1, p2, p3⟩ := step S hv
        have Gq := Gp.new (u := .tup [.int (i : Nat), .ref q]) ht
        have hg' := (hg.same S).new (u := .tup [.int (i : Nat), .ref q]) ht
        have S' : Same H (upd H' t (.tup [.int (i : Nat), .ref q])) := fun _ _ z => Bar.lkNew ht (S _ _ z)
        refine rTupU (SqT.of upd_same) rfl ?_
        walk_at "rd"
        refine rMG hg' (by decide) (by decide) ?_
        walk_at "rd"
        refine ⟨g, q, N, r, p.1, p.2, rfl, hg', Gq, p1, ?_⟩
        rw [within_fit p2 p3]
        walk_at "rd"
        refine ite2 (fun h => ?_) (fun h => ?_)
        · walk_at "rd"
          have := k _ S'
          rw [own_is ep h low] at this
          exact this
        · walk_at "rd"
          refine ⟨S', ⟨_, _, rfl⟩, fun j q' hj ej => ?_⟩
          by_cases ji : j = i
          · subst ji
            cases ep.symm.trans ej
            exact Bool.eq_false_iff.mpr h
          · exact low j q' (by omega) ej
      · rintro σ H' ⟨S, ⟨y, z, rfl⟩, low⟩
        rw [List.length_map, lg] at low
        walk_at "rd"
        have := k _ S
        rw [own_no fun j q hj ej => low j q hj ej] at this
        exact this
theorem ok_owners {f : Addr} {fd : FuncData} (F : Fun K "owners_of" "owners_of" s_owners_of f fd) (T : Txt mg) (mk_Grid2 : Made P w K mg base "Grid" C P_Grid___init__ [] 1 (spInit C)) (ffirst_around : Fn P w K mg base "first_around" P_first_around [] 3 (spAroundG C)) : FnOk P w K mg base CX0 4 f fd P_owners_of (spOwners C) := by
  refine F.ok sc_owners_of (fun vs H Q E h => ?_) (fun cdv A outer s H vs Q E hr h => ?_)
  · obtain ⟨L, gs, ps, N, rfl, _⟩ := h
    rfl
  · obtain ⟨L, gs, ps, N, rfl, GA, N1, N2, k0, k1⟩ := h
    refine ⟨_, (pss_cons (ps_set (i := 2) sc_owners_of.nd rfl (Or.inl rfl) (pe_lst pa_nil))
    (pss_cons (ps_for PassesOwn.never rfl  (pi_range1 rfl T.b_range (pa_cons (pv 1) pa_nil)) (pg_name (i := 3) sc_owners_of.nd rfl (Or.inl rfl)) (pss_cons (ps_set (i := 4) sc_owners_of.nd rfl (Or.inl rfl) (pe_fn ffirst_around (hr.mono (by omega)) rfl (pa_cons (pv 0) (pa_cons (pe_mk mk_Grid2 (hr.mono (by omega)) rfl (pa_cons (pv 1) (pa_cons (pv 3) pa_nil))) pa_nil))))
    (pss_cons (ps_if (pt_cmpR o_isN (pv 4) pe_non (nomark _)) (pss_one (ps_ret pe_non)) pss_nil)
    (pss_one (ps_expr (pe_bm PySem.F.plainAttrs_list PySem.F.slot_list_append PySem.F.type_list_append mt_append (pv 2) (pa_cons (pv 4) pa_nil)))))))
    (pss_one (ps_ret (pv 2))))), ?_⟩
    refine Bar.rStart (σ := [some (.ref L), some (.int (N : Nat)), none, none, none]) rfl ?_
    walk_at "rd"
    intro D hD
    walk_at "rd"
    refine Bar.forR N (Int.toNat_natCast N) (fun i σ H' => Same H H' ∧ (∀ j : Nat, j < i → (ownr ps N (j : Nat)).isSome = true) ∧ H' D = some (.lst (((List.range i).map fun r => (((ownr ps N (r : Nat)).getD 0 : Nat) : Int)).map V.int)) ∧ ∃ y z : Option V, σ = [some (.ref L), some (.int (N : Nat)), some (.ref D), y, z]) (by omega)
      ⟨fun _ _ z => Bar.lkNew hD z, fun j hj => absurd hj (by omega), upd_same, _, _, rfl⟩ ?_ ?_
    · rintro i σ H' hi ⟨S, some', hd, y, z, rfl⟩
      walk_at "rd"
      refine mkG (show (1 : Int) ≤ (N : Nat) by omega) fun g H2 hg S2 G2 => ?_
      rw [Int.emod_eq_of_lt (by omega) (by omega)] at G2
      have S3 : Same H H2 := fun _ _ z => S2 _ _ (S _ _ z)
      walk_at "rd"
      refine ⟨L, g, gs, ps, N, i, rfl, GA.same S3, G2, fun H4 S4 => ?_⟩
      have S5 : Same H H4 := fun _ _ z => S4 _ _ (S3 _ _ z)
      have hd4 := S4 _ _ (S2 _ _ hd)
      cases q : ownr ps N (i : Nat) with
      | none =>
        dsimp only [oN]
        walk_at "rd"
        refine k0 ?_ _ S5
        refine List.all_eq_false.mpr ⟨i, List.mem_range.mpr hi, ?_⟩
        rw [q]
        decide
      | some j =>
        dsimp only [oN]
        walk_at "rd"
        refine Bar.rAppend_ hd4 (Bar.szLt (by rw [List.length_map, List.length_map, List.length_range]; omega)) ?_
        walk_at "rd"
        refine ⟨fun p o z => ?_, fun j' hj => ?_, ?_, _, _, rfl⟩
        · rw [upd_ne (ne_of_none z hD)]
          exact S5 _ _ z
        · by_cases e : j' = i
          · rw [e, q]
            rfl
          · exact some' j' (by omega)
        · rw [upd_same, List.range_succ, List.map_append, List.map_append]
          show some (HO.lst (_ ++ [_])) = some (HO.lst (_ ++ [V.int (((ownr ps N (i : Nat)).getD 0 : Nat) : Int)]))
          rw [q]
          rfl
    · rintro σ H' ⟨S, some', hd, y, z, rfl⟩
      walk_at "rd"
      exact k1 (List.all_eq_true.mpr fun r hr => some' r (List.mem_range.mp hr)) D H' hD S hd
end

end Lw
namespace Lw
open PySem L2 Bar

/-! ### a cycle of a list, no errors -/
def spCyc (C : Addr) : Sp := fun vs H Q _ => ∃ (L : Addr) (gs : List Addr) (ps : List (Int × Int)), vs = [.ref L] ∧ GridsAt C H L gs ps ∧ ps.length ≤ 6 ∧
  (CycAt ps none → ∀ H', Same H H' → Q .non H') ∧ ∀ N, CycAt ps (some N) → ∀ D H', H D = none → Same H H' → H' D = some (.lst ((owns ps N).map V.int)) → Q (.ref D) H'
def spTwo : Sp := fun vs H Q _ => ∃ (R Fr : Addr) (ts : List Addr) (pr : Addr → Int × Int) (x : Int) (fs : List Int), vs = [.ref R, .int x, .ref Fr] ∧ RowsAt H R ts pr ∧ ts.length ≤ 6 ∧ H Fr = some (.lst (fs.map V.int)) ∧ ∀ H', Same H H' → Q (.bl true) H'
theorem fit_tick {p : Int × Int} {N : Nat} {r x : Int} (f : fitB p N r = true) (e : x % (N : Int) = r) : (x - p.2) % p.1 = 0 := by
  unfold fitB at f
  rw [Bool.and_eq_true, decide_eq_true_eq, decide_eq_true_eq] at f
  have q := Int.mul_ediv_add_emod x N
  rw [e] at q
  obtain ⟨c, ec⟩ := Int.dvd_of_emod_eq_zero f.1
  obtain ⟨d, ed⟩ := Int.dvd_of_emod_eq_zero f.2
  refine Int.emod_eq_zero_of_dvd ⟨c * (x / N) + d, ?_⟩
  rw [Int.mul_add, ← ed, ← Int.mul_assoc, ← ec]
  omega
theorem owns_at {ps : List (Int × Int)} {N i : Nat} (h : i < N) : (owns ps N)[i]? = some (((ownr ps N (i : Nat)).getD 0 : Nat) : Int) := by
  unfold owns
  rw [List.getElem?_map, List.getElem?_range h]
  rfl
theorem owns_len (ps : List (Int × Int)) (N : Nat) : (owns ps N).length = N := by
  unfold owns
  rw [List.length_map, List.length_range]
theorem cut_tail {xs : List V} : cutV xs (some 1) none = xs.drop 1 := by
  unfold cutV
  show List.take _ (List.drop _ xs) = _
  rw [HT.sIx_none]
  have e : HT.sIx xs.length 0 (some 1) = min 1 xs.length := HT.sIx_nat xs.length 0 1
  rw [e]
  by_cases h : 1 ≤ xs.length
  · rw [Nat.min_eq_left h, List.take_of_length_le (by rw [List.length_drop]; exact Nat.le_refl _)]
  · have z : xs = [] := List.length_eq_zero_iff.mp (by omega)
    rw [z]
    rfl
section
variable {P : Program} {w : World} {K : PySem.W.Frag} {mg : Str → Option Value} {base : Heap} {C : Addr}
theorem ok_cyc {f : Addr} {fd : FuncData} (F : Fun K "cycle_of" "cycle_of" s_cycle_of f fd) (T : Txt mg) (fcheck_grids : Fn P w K mg base "check_grids" P_check_grids [] 1 spCheck) (fowners_of : Fn P w K mg base "owners_of" P_owners_of [] 4 (spOwners C)) : FnOk P w K mg base CX0 5 f fd P_cycle_of (spCyc C) := by
  refine F.ok sc_cycle_of (fun vs H Q E h => ?_) (fun cdv A outer s H vs Q E hr h => ?_)
  · obtain ⟨L, gs, ps, rfl, _⟩ := h
    rfl
  · obtain ⟨L, gs, ps, rfl, GA, l6, k0, k1⟩ := h
    have hL := GA.1
    have lg := GA.2.1
    refine ⟨_, (pss_cons (ps_expr (pe_fn fcheck_grids (hr.mono (by omega)) rfl (pa_cons (pv 0) pa_nil)))
    (pss_cons (ps_for PassesOwn.never rfl  (pi_rangeW rfl T.b_range (pa_cons pe_int (pa_cons (pe_op op_add (pe_op op_fdiv (pe_op op_shl pe_int (pe_callB c_len rfl T.b_len PySem.boot_len (pa_cons (pv 0) pa_nil))) pe_int) pe_int) pa_nil))) (pg_name (i := 1) sc_cycle_of.nd rfl (Or.inl rfl)) (pss_cons (ps_set (i := 2) sc_cycle_of.nd rfl (Or.inl rfl) (pe_fn fowners_of (hr.mono (by omega)) rfl (pa_cons (pv 0) (pa_cons (pv 1) pa_nil))))
    (pss_one (ps_if (pt_cmpR o_notN (pv 2) pe_non (nomark _)) (pss_one (ps_ret (pv 2))) pss_nil))))
    (pss_one (ps_ret pe_non)))), ?_⟩
    refine Bar.rStart (σ := [some (.ref L), none, none]) rfl ?_
    have lgx : (gs.map V.ref).length = ps.length := by rw [List.length_map, lg]
    have ci : CPow 1 ((gs.map V.ref).length : Int) := ⟨by omega, by omega, by decide⟩
    have s6 := pow_six l6
    have ep : (2 : Int) ^ ps.length = ((2 ^ ps.length : Nat) : Int) := by rw [Int.natCast_pow]; rfl
    have ee : (((1 : Int) * 2 ^ ((gs.map V.ref).length : Int).toNat) / 2 + 1 - 1).toNat = 2 ^ ps.length / 2 := by
      rw [lgx, Int.toNat_natCast, Int.one_mul, ep]
      clear ep s6
      generalize (2 ^ ps.length : Nat) = B
      omega
    walk_at "rd"
    refine ⟨L, _, rfl, hL, by rw [List.length_map]; omega, ?_⟩
    walk_at "rd"
    refine Bar.forW (2 ^ ps.length / 2) ee (fun i σ H' => Same H H' ∧ (∃ y z : Option V, σ = [some (.ref L), y, z]) ∧ ∀ M, 1 ≤ M → M ≤ i → okn ps M = false) ⟨fun _ _ z => z, ⟨_, _, rfl⟩, fun M h1 h2 => absurd h1 (by omega)⟩ ?_ ?_
    · rintro i σ H' hi ⟨S, ⟨y, z, rfl⟩, low⟩
      walk_at "rd"
      refine ⟨L, gs, ps, i + 1, by rw [show ((i + 1 : Nat) : Int) = 1 + (i : Int) by omega]; rfl, (GA.same S).s, by omega, by omega, fun ok H2 S2 => ?_, fun ok D H2 hD S2 e => ?_⟩
      · walk_at "rd"
        refine ⟨fun _ _ z => S2 _ _ (S _ _ z), ⟨_, _, rfl⟩, fun M h1 h2 => ?_⟩
        by_cases e : M = i + 1
        · rw [e]; exact ok
        · exact low M h1 (by omega)
      · walk_at "rd"
        have hD0 : H D = none := by
          cases q : H D with
          | none => rfl
          | some o =>
            rw [S _ _ q] at hD
            cases hD
        exact k1 (i + 1) ⟨by omega, by omega, ok, fun M h1 h2 => low M h1 (by omega)⟩ D H2 hD0 (fun _ _ z => S2 _ _ (S _ _ z)) e
    · rintro σ H' ⟨S, ⟨y, z, rfl⟩, low⟩
      walk_at "rd"
      exact k0 low H' S
theorem ok_two {f : Addr} {fd : FuncData} (F : Fun K "_law_one_of_two" "_law_one_of_two" s_law_one_of_two f fd) (T : Txt mg) (f_law_made : Fn P w K mg base "_law_made" P_law_made [] 3 (spMade C)) (ffirst_gap : Fn P w K mg base "first_gap" P_first_gap [] 4 (spFirst C)) (fcycle_of : Fn P w K mg base "cycle_of" P_cycle_of [] 5 (spCyc C))
    (f_law_int : Fn P w K mg base "_law_int" P_law_int [] 1 spInt) (f_law_hit : Fn P w K mg base "_law_hit" P_law_hit [] 2 spHit) (f_law_in : Fn P w K mg base "_law_in" P_law_in [] 1 (spOn K)) : FnOk P w K mg base CX0 6 f fd P_law_one_of_two spTwo := by
  refine F.ok sc_law_one_of_two (fun vs H Q E h => ?_) (fun cdv A outer s H vs Q E hr h => ?_)
  · obtain ⟨R, Fr, ts, pr, x, fs, rfl, _⟩ := h
    rfl
  · obtain ⟨R, Fr, ts, pr, x, fs, rfl, RA, l6, hF, k⟩ := h
    have lps : (ts.map pr).length ≤ 6 := by rw [List.length_map]; exact l6
    have wps : ∀ p ∈ ts.map pr, 1 ≤ p.1 ∧ 0 ≤ p.2 := fun p hp => by
      obtain ⟨t, ht, rfl⟩ := List.mem_map.mp hp
      obtain ⟨_, g1, _, g3, _⟩ := RA.2 t ht
      exact ⟨g1, g3⟩
    refine ⟨_, (pss_cons (ps_set (i := 3) sc_law_one_of_two.nd rfl (Or.inl rfl) (pe_fn f_law_made (hr.mono (by omega)) rfl (pa_cons (pv 0) pa_nil)))
    (pss_cons (ps_set (i := 4) sc_law_one_of_two.nd rfl (Or.inl rfl) pe_int)
    (pss_cons (ps_for PassesOwn.never rfl  (pi_list (pv 0)) (pg_name (i := 5) sc_law_one_of_two.nd rfl (Or.inl rfl)) (pss_one (ps_set (i := 4) sc_law_one_of_two.nd rfl (Or.inl rfl) (pe_op op_mul (pv 4) pe_int))))
    (pss_cons (ps_set (i := 6) sc_law_one_of_two.nd rfl (Or.inl rfl) (pe_fn ffirst_gap (hr.mono (by omega)) rfl (pa_cons (pv 3) (pa_cons (pv 1) pa_nil))))
    (pss_cons (ps_set (i := 7) sc_law_one_of_two.nd rfl (Or.inl rfl) (pe_fn fcycle_of (hr.mono (by omega)) rfl (pa_cons (pv 3) pa_nil)))
    (pss_cons (ps_if (pt_cmpR o_notN (pv 6) pe_non (nomark _)) (pss_one (ps_ret (pe_and (pe_cmpR o_isN (pv 7) pe_non (nomark _)) (pe_and (pe_fn f_law_int (hr.mono (by omega)) rfl (pa_cons (pv 6) pa_nil)) (pe_and (pe_chain op_le op_lt (pv 1) (pv 6) (pe_op op_add (pv 1) (pv 4))) (pe_one (pe_not (pe_fn f_law_hit (hr.mono (by omega)) rfl (pa_cons (pv 0) (pa_cons (pv 6) pa_nil)))))))))) pss_nil)
    (pss_cons (ps_if (PW.pt (pw_or (pt_not (pt_val (pe_callB call_isi rfl T.b_isinstance (by decide +kernel) (pa_cons (pv 7) (pa_cons (pe_bltn (v := .ty "list") (u := .type "list") rfl T.b_list (by decide +kernel) rfl) pa_nil))))) (pw_or1 (pt_not (pt_chain op_le op_le pe_int (pe_callB c_len rfl T.b_len PySem.boot_len (pa_cons (pv 7) pa_nil)) (pe_op op_fdiv (pv 4) pe_int)))))) (pss_one (ps_ret pe_bl)) pss_nil)
    (pss_cons (ps_for PassesOwn.never rfl  (pi_range1 rfl T.b_range (pa_cons (pe_callB c_len rfl T.b_len PySem.boot_len (pa_cons (pv 7) pa_nil)) pa_nil)) (pg_name (i := 8) sc_law_one_of_two.nd rfl (Or.inl rfl)) (pss_cons (ps_if (PW.pt (pw_or (pt_not (pt_val (pe_fn f_law_int (hr.mono (by omega)) rfl (pa_cons (pe_ix ix_list (pv 7) (pv 8) (fun _ _ => rfl)) pa_nil)))) (pw_or1 (pt_not (pt_chain op_le op_lt pe_int (pe_ix ix_list (pv 7) (pv 8) (fun _ _ => rfl)) (pe_callB c_len rfl T.b_len PySem.boot_len (pa_cons (pv 0) pa_nil))))))) (pss_one (ps_ret pe_bl)) pss_nil)
    (pss_cons (ps_set (i := 5) sc_law_one_of_two.nd rfl (Or.inl rfl) (pe_ix ix_list (pv 0) (pe_ix ix_list (pv 7) (pv 8) (fun _ _ => rfl)) (fun _ _ => rfl)))
    (pss_one (ps_if (PW.pt (pw_or (pt_cmpR op_ne (pe_op op_mod (pe_callB c_len rfl T.b_len PySem.boot_len (pa_cons (pv 7) pa_nil)) (pe_ix ix_tup (pv 5) pe_int (fun _ _ => rfl))) pe_int (nomark _)) (pw_or1 (pt_not (pt_val (pe_fn f_law_in (hr.mono (by omega)) rfl (pa_cons (pv 5) (pa_cons (pv 8) pa_nil)))))))) (pss_one (ps_ret pe_bl)) pss_nil)))))
    (pss_cons (ps_for PassesOwn.never rfl  (pi_list (pv 2)) (pg_name (i := 9) sc_law_one_of_two.nd rfl (Or.inl rfl)) (pss_one (ps_if (pt_not (pt_val (pe_fn f_law_in (hr.mono (by omega)) rfl (pa_cons (pe_ix ix_list (pv 0) (pe_ix ix_list (pv 7) (pe_op op_mod (pe_callTy c_int rfl T.b_int (by decide +kernel) (pa_cons (pv 9) pa_nil)) (pe_callB c_len rfl T.b_len PySem.boot_len (pa_cons (pv 7) pa_nil))) (fun _ _ => rfl)) (fun _ _ => rfl)) (pa_cons (pv 9) pa_nil))))) (pss_one (ps_ret pe_bl)) pss_nil)))
    (pss_one (ps_ret pe_bl))))))))))), ?_⟩
    refine Bar.rStart (σ := [some (.ref R), some (.int x), some (.ref Fr), none, none, none, none, none, none, none]) rfl ?_
    walk_at "rd"
    refine ⟨R, ts, pr, rfl, RA, l6, fun L gs H1 hL S1 GA => ?_⟩
    have RA1 := RA.same S1
    have hF1 := S1 _ _ hF
    have hR1 := RA1.1
    walk_at "rd"
    refine Bar.forL (xs := ts.map V.ref) (fun i σ H' => H' = H1 ∧ ∃ y : Option V, σ = [some (.ref R), some (.int x), some (.ref Fr), some (.ref L), some (.int ((2 ^ i : Nat) : Int)), y, none, none, none, none]) (SqL.of hR1) ⟨rfl, _, rfl⟩ (fun i σ H2 _ ⟨e, _⟩ => by rw [e]; exact SqL.of hR1) ?_ ?_
    · rintro i v σ H' hv ⟨rfl, y, rfl⟩
      walk_at "rd"
      refine ⟨rfl, some v, ?_⟩
      rw [show ((2 ^ (i + 1) : Nat) : Int) = ((2 ^ i : Nat) : Int) * 2 by rw [Nat.pow_succ]; omega]
    · rintro σ H' ⟨rfl, y, rfl⟩
      rw [List.length_map]
      walk_at "rd"
      refine ⟨L, gs, _, x, rfl, GA, lps, fun H2 S2 all => ?_, fun g H2 S2 g0 g1 gh => ?_⟩
      · have RA2 := RA1.same S2
        have hF2 := S2 _ _ hF1
        walk_at "rd"
        refine ⟨L, gs, _, rfl, GA.same S2, lps, fun cy => absurd (fun j _ => all _) (cyc_none wps lps cy), fun N cy D H3 hD S3 eD => ?_⟩
        obtain ⟨N1, N2, ok, _⟩ := cy
        have RA3 := RA2.same S3
        have hR3 := RA3.1
        have hF3 := S3 _ _ hF2
        have p6 := pow_six lps
        have SF : Same H H3 := fun _ _ y => S3 _ _ (S2 _ _ (S1 _ _ y))
        have nl : ((owns (ts.map pr) N).map V.int).length = N := by rw [List.length_map, owns_len]
        have own : ∀ {r : Nat}, r < N → ∃ (j : Nat) (t : Addr), atI ((owns (ts.map pr) N).map V.int) (r : Int) = some (.int (j : Nat)) ∧ j < ts.length ∧ atI (ts.map V.ref) (j : Int) = some (.ref t) ∧ H3 t = some (.tup [.int (pr t).1, .int (pr t).2]) ∧ 1 ≤ (pr t).1 ∧ fitB (pr t) N (r : Nat) = true := fun {r} hr => by
          obtain ⟨j, ej⟩ := Option.isSome_iff_exists.mp (List.all_eq_true.mp ok r (List.mem_range.mpr hr))
          obtain ⟨p, ep, fit⟩ := own_fit ej
          rw [List.getElem?_map] at ep
          obtain ⟨t, et, rfl⟩ := Option.map_eq_some_iff.mp ep
          obtain ⟨ht, g1, _⟩ := RA3.2 t (List.mem_of_getElem? et)
          exact ⟨j, t, atI_nat (by rw [List.getElem?_map, owns_at hr, ej]; rfl), (List.getElem?_eq_some_iff.mp et).1, atI_nat (by rw [List.getElem?_map, et]; rfl), ht, g1, fit⟩
        have half : ((2 ^ ts.length : Nat) : Int) / 2 = ((2 ^ ts.length / 2 : Nat) : Int) := by
          generalize (2 ^ ts.length : Nat) = B
          omega
        have N3 : (N : Int) ≤ ((2 ^ ts.length : Nat) : Int) / 2 := by
          rw [half]
          rw [List.length_map] at N2
          exact Int.ofNat_le.mpr N2
        walk_at "rd"
        rw [nl]
        refine ite2 (fun h => ?_) (fun h => absurd (decide_eq_true (show (1 : Int) ≤ (N : Nat) by omega)) h)
        walk_at "rd"
        refine ite2 (fun h => ?_) (fun h => ?_)
        · rw [decide_eq_true N3] at h
          cases h
        walk_at "rd"
        rw [nl]
        refine Bar.forR N (Int.toNat_natCast N) (fun i σ H4 => H4 = H3 ∧ ∃ y z : Option V, σ = [some (.ref R), some (.int x), some (.ref Fr), some (.ref L), some (.int ((2 ^ ts.length : Nat) : Int)), y, some .non, some (.ref D), z, none]) (by omega) ⟨rfl, _, _, rfl⟩ ?_ ?_
        · rintro i σ H4 hi ⟨rfl, y, z, rfl⟩
          obtain ⟨j, t, hj, jl, ht, hT, t1, fit⟩ := own hi
          have fit' := fit
          unfold fitB at fit'
          rw [Bool.and_eq_true, decide_eq_true_eq, decide_eq_true_eq] at fit'
          walk_at "rd"
          refine Bar.rIxL_ (SqL.of eD) hj ?_
          walk_at "rd"
          refine Bar.rIxL_ (SqL.of eD) hj ?_
          walk_at "rd"
          refine ite2 (fun h => ?_) (fun h => absurd (decide_eq_true (show (0 : Int) ≤ (j : Nat) by omega)) h)
          walk_at "rd"
          refine ite2 (fun h => ?_) (fun h => ?_)
          · rw [decide_eq_true (show ((j : Nat) : Int) < ((ts.map V.ref).length : Nat) by rw [List.length_map]; omega)] at h
            cases h
          walk_at "rd"
          refine Bar.rIxL_ (SqL.of eD) hj ?_
          walk_at "rd"
          refine Bar.rIxL_ (SqL.of hR3) ht ?_
          walk_at "rd"
          rw [nl]
          refine ite2 (fun h => ?_) (fun h => ?_)
          · rw [fit'.1] at h
            simp at h
          walk_at "rd"
          refine ⟨t, _, _, i, rfl, SqT.of hT, t1, ?_⟩
          rw [decide_eq_true fit'.2]
          walk_at "rd"
          exact ⟨rfl, _, _, rfl⟩
        · rintro σ H4 ⟨rfl, y, z, rfl⟩
          walk_at "rd"
          refine Bar.forL (xs := fs.map V.int) (fun i σ H5 => H5 = H4 ∧ ∃ u : Option V, σ = [some (.ref R), some (.int x), some (.ref Fr), some (.ref L), some (.int ((2 ^ ts.length : Nat) : Int)), y, some .non, some (.ref D), z, u]) (SqL.of hF3) ⟨rfl, _, rfl⟩ (fun i σ H2 _ ⟨e, _⟩ => by rw [e]; exact SqL.of hF3) ?_ ?_
          · rintro i v σ H5 hv ⟨rfl, u, rfl⟩
            obtain ⟨tk, _, rfl⟩ := List.mem_map.mp (List.mem_of_getElem? hv)
            have n0 : (0 : Int) < (N : Nat) := by omega
            have m0 := Int.emod_nonneg tk (show ((N : Nat) : Int) ≠ 0 by omega)
            have m1 := Int.emod_lt_of_pos tk n0
            obtain ⟨r, er⟩ : ∃ r : Nat, tk % (N : Int) = r := ⟨(tk % N).toNat, by omega⟩
            obtain ⟨j, t, hj, jl, ht, hT, t1, fit⟩ := own (r := r) (by omega)
            have pn : 0 < (((owns (ts.map pr) N).map V.int).length : Int) := by rw [nl]; exact n0
            walk_at "rd"
            rw [nl, er]
            refine Bar.rIxL_ (SqL.of eD) hj ?_
            walk_at "rd"
            refine Bar.rIxL_ (SqL.of hR3) ht ?_
            walk_at "rd"
            refine ⟨t, _, _, tk, rfl, SqT.of hT, t1, ?_⟩
            rw [decide_eq_true (fit_tick fit er)]
            walk_at "rd"
            exact ⟨rfl, _, rfl⟩
          · rintro σ H5 ⟨rfl, u, rfl⟩
            walk_at "rd"
            exact k _ SF
      · have RA2 := RA1.same S2
        rw [List.length_map] at g1
        walk_at "rd"
        refine ⟨L, gs, _, rfl, GA.same S2, lps, fun _ H3 S3 => ?_, fun N cy D H3 hD S3 eD => ?_⟩
        · have RA3 := RA2.same S3
          walk_at "rd"
          refine ite2 (fun h => ?_) (fun h => absurd (decide_eq_true g0) h)
          walk_at "rd"
          refine ite2 (fun h => ?_) (fun h => absurd (decide_eq_true g1) h)
          walk_at "rd"
          refine ⟨R, ts, pr, g, rfl, RA3, ?_⟩
          rw [gh]
          walk_at "rd"
          exact k _ fun _ _ y => S3 _ _ (S2 _ _ (S1 _ _ y))
        · rw [okn_hits cy.1 cy.2.2.1 g] at gh
          cases gh
end

end Lw
namespace Lw
open PySem L2 Bar
def spLaw (K : PySem.W.Frag) : Sp := fun vs H Q _ => ∃ (a : Addr) (ns : List Int), vs = [.ref a] ∧ SqL K H a (ns.map V.int) ∧ ns.length ≤ 63 ∧ ∀ H', Q (.bl true) H'
section
variable {P : Program} {w : World} {K : PySem.W.Frag} {mg : Str → Option Value} {base : Heap} {C : Addr}
theorem ok_law {f : Addr} {fd : FuncData} (F : Fun K "law" "law" s_law f fd) (T : Txt mg) (f_law_box : Fn P w K mg base "_law_box" P_law_box [] 1 (spBox K)) (f_law_number : Fn P w K mg base "_law_number" P_law_number [] 3 spNum)
    (f_law_grids : Fn P w K mg base "_law_grids" P_law_grids [] 3 (spRows Gm 0)) (f_law_one_of_two : Fn P w K mg base "_law_one_of_two" P_law_one_of_two [] 6 spTwo) : FnOk P w K mg base CX0 7 f fd P_law (spLaw K) := by
  refine F.ok sc_law (fun vs H Q E h => ?_) (fun cdv A outer s H vs Q E hr h => ?_)
  · obtain ⟨a, ns, rfl, _⟩ := h
    rfl
  · obtain ⟨a, ns, rfl, ha, hl, k⟩ := h
    refine ⟨_, (pss_cons (ps_set (i := 1) sc_law.nd rfl (Or.inr rfl) (pe_fn f_law_box (hr.mono (by omega)) rfl (pa_cons (pv 0) (pa_cons pe_int pa_nil))))
    (pss_cons (ps_set (i := 2) sc_law.nd rfl (Or.inl rfl) (pe_fn f_law_grids (hr.mono (by omega)) rfl (pa_cons (pv 1) (pa_cons pe_int pa_nil))))
    (pss_cons (ps_set (i := 1) sc_law.nd rfl (Or.inr rfl) (pe_fn f_law_box (hr.mono (by omega)) rfl (pa_cons (pv 0) (pa_cons pe_int pa_nil))))
    (pss_cons (ps_set (i := 3) sc_law.nd rfl (Or.inl rfl) (pe_fn f_law_number (hr.mono (by omega)) rfl (pa_cons (pv 1) pa_nil)))
    (pss_cons (ps_setLc (i := 4) (own := [("_law_k", 5)]) (g := gName 5) rfl sc_law.nd rfl rfl (sw_true rfl rfl rfl (by decide +kernel)) (pi_range1 rfl T.b_range (pa_cons pe_int pa_nil)) (blkOk_by (own := [("_law_k", 5)]) (N := N_law) (sc := defScope s_law) (by decide +kernel)) (fun _ _ _ _ _ => pg_name (i := 5) sc_law.nd rfl (Or.inl rfl)) (fun _ _ _ _ _ => pts_nil) (fun _ _ _ _ _ => (pe_fn f_law_number (hr.mono (by omega)) rfl (pa_cons (pv 1) pa_nil))))
    (pss_cons (ps_if (pt_not (pt_val (pe_fn f_law_one_of_two (hr.mono (by omega)) rfl (pa_cons (pv 2) (pa_cons (pv 3) (pa_cons (pv 4) pa_nil)))))) (pss_one (ps_ret pe_bl)) pss_nil)
    (pss_one (ps_ret (pe_or (pe_cmpR op_lt (pe_callB c_len rfl T.b_len PySem.boot_len (pa_cons (pv 2) pa_nil)) pe_int (nomark _)) (pe_one (pe_fn f_law_one_of_two (hr.mono (by omega)) rfl (pa_cons (pe_slice sl_list (pv 2) (po_some pe_int) po_none) (pa_cons (pv 3) (pa_cons (pv 4) pa_nil)))))))))))))), ?_⟩
    refine Bar.rStart (σ := [some (.ref a), none, none, none, none, none]) rfl ?_
    walk_at "rd"
    refine ⟨a, ns, 0, rfl, ha, fun b H1 c z S1 hb hb1 => ?_⟩
    walk_at "rd"
    refine ⟨b, c, z, 0, 6, rfl, hb1, by decide, by decide, fun R q H2 hR ⟨K2, c2, n2, hb2⟩ _ q6 RP => ?_⟩
    obtain ⟨ts, pr, RA, lt⟩ := RP.at
    have l6 : ts.length ≤ 6 := by omega
    have ha3 : SqL K H2 a (ns.map V.int) := Bar.sqKf ((Kp.of_same S1).trans K2) hb ha
    clear S1 K2 hb hb1 hb2 hR RP lt q6 ha
    walk_at "rd"
    refine ⟨a, ns, 1, rfl, ha3, fun b H4 c z S4 hb4 hb => ?_⟩
    have RA4 := RA.same S4
    clear RA S4 hb4
    have nR : R ≠ b := ne_of RA4.1 hb fun e => box_ne ts (HO.lst.inj e).symm
    walk_at "rd"
    refine ⟨b, c, z, 0, rfl, hb, fun s0 H5 _ _ ⟨K5, c5, n5, hb5⟩ => ?_⟩
    have RA5 := RA4.kp K5 hb nR
    clear RA4 K5 hb ha3
    walk_at "rd"
    refine Bar.lcR (τ := [some (.ref a), some (.ref b), some (.ref R), some (.int s0), none, none]) 6 rfl rfl (by decide) (fun D hD => ⟨fun i H' => Kp b H5 H' ∧ (∃ c n, H' b = some (box c z n)) ∧ ∃ us : List Int, us.length = i ∧ H' D = some (.lst (us.map V.int)),
      ⟨Kp.new hD, ⟨_, _, Bar.lkNew hD hb5⟩, [], rfl, upd_same⟩, ?_, ?_⟩)
    · rintro i H' hi ⟨KK, ⟨c8, n8, hb8⟩, us, lu, hd⟩
      have nD : D ≠ b := fun e => by
        rw [e, hb5] at hD
        cases hD
      walk_at "rd"
      refine ⟨rfl, ?_⟩
      walk_at "rd"
      refine ⟨b, c8, z, n8, rfl, hb8, fun r H9 _ _ ⟨K9, c9, n9, hb9⟩ => ?_⟩
      refine ⟨_, K9 _ _ nD hd, Bar.szLt (by rw [List.length_map]; omega), fun p o n y => ?_, ⟨c9, n9, by rw [upd_ne (Ne.symm nD)]; exact hb9⟩, us ++ [r], by rw [List.length_append, lu]; rfl, by rw [upd_same, List.map_append]; rfl⟩
      rw [upd_ne (ne_of_none y hD)]
      exact K9 _ _ n (KK _ _ n y)
    · rintro H8 ⟨K8, ⟨c8, n8, hb8⟩, us, lu, hF⟩
      have RA8 := RA5.kp K8 hb5 nR
      clear K8 hb5 RA5 hb8
      walk_at "rd"
      refine ⟨R, D, ts, pr, s0, us, rfl, RA8, l6, hF, fun H9 S9 => ?_⟩
      have RA9 := RA8.same S9
      have hF9 := S9 _ _ hF
      have hR9 := RA9.1
      walk_at "rd"
      refine ite2 (fun h => ?_) (fun h => ?_)
      · walk_at "rd"
        exact k _
      · walk_at "rd"
        refine Bar.rSlL_ (SqL.of hR9) fun s1 hs1 => ?_
        walk_at "rd"
        rw [cut_tail]
        have RT : RowsAt (upd H9 s1 (.lst ((ts.map V.ref).drop 1))) s1 (ts.drop 1) pr := ⟨by rw [upd_same, List.map_drop], fun t ht => ⟨Bar.lkNew hs1 (RA9.2 t (List.mem_of_mem_drop ht)).1, (RA9.2 t (List.mem_of_mem_drop ht)).2⟩⟩
        refine ⟨s1, D, ts.drop 1, pr, s0, us, rfl, RT, by rw [List.length_drop]; omega, Bar.lkNew hs1 hF9, fun H10 S10 => ?_⟩
        walk_at "rd"
        exact k _
end

end Lw
namespace Lw
open PySem L2 Bar

abbrev lawLevel : Nat := 7
theorem all_mk {l : PySem.W.OpenLaw} {w : World} {K : PySem.W.Frag} {h : Heap} {mg : Str → Option Value} {fa f_law f_law_box f_law_draw f_law_size f_law_number C_Grid f_Grid___init__ dT6 f_law_int f_law_in f_law_hit f_law_cover f_law_pair f_law_grids f_law_made f_law_one_of_two f_Grid___contains__ f_Grid_within f_check_grids f_is_gap f_first_gap f_first_around f_owners_of f_cycle_of : Addr} (X : K.In h) (G : h.Ns mainGlobals mg) (hfa : mg "law" = some (.ref fa))
    {od1 an1 : Option Addr} {sl1 : Array (Option Value)} {oc1 kV1 dc1 pm1 cd1 ct1 : Value} {od2 an2 : Option Addr} {sl2 : Array (Option Value)} {oc2 kV2 dc2 pm2 cd2 ct2 : Value} {od3 an3 : Option Addr} {sl3 : Array (Option Value)} {oc3 kV3 dc3 pm3 cd3 ct3 : Value} {od4 an4 : Option Addr} {sl4 : Array (Option Value)} {oc4 kV4 dc4 pm4 cd4 ct4 : Value} {od5 an5 : Option Addr} {sl5 : Array (Option Value)} {oc5 kV5 dc5 pm5 cd5 ct5 : Value} {od6 an6 : Option Addr} {sl6 : Array (Option Value)} {oc6 kV6 dc6 pm6 cd6 ct6 : Value} {td6 : Option Addr} {ts6 : Array (Option Value)} {tc6 : Value} {tn6 : Nat} {tk6_0 : Tok} {od7 an7 : Option Addr} {sl7 : Array (Option Value)} {oc7 kV7 dc7 pm7 cd7 ct7 : Value} {od8 an8 : Option Addr} {sl8 : Array (Option Value)} {oc8 kV8 dc8 pm8 cd8 ct8 : Value} {od9 an9 : Option Addr} {sl9 : Array (Option Value)} {oc9 kV9 dc9 pm9 cd9 ct9 : Value} {od10 an10 : Option Addr} {sl10 : Array (Option Value)} {oc10 kV10 dc10 pm10 cd10 ct10 : Value} {od11 an11 : Option Addr} {sl11 : Array (Option Value)} {oc11 kV11 dc11 pm11 cd11 ct11 : Value} {od12 an12 : Option Addr} {sl12 : Array (Option Value)} {oc12 kV12 dc12 pm12 cd12 ct12 : Value} {od13 an13 : Option Addr} {sl13 : Array (Option Value)} {oc13 kV13 dc13 pm13 cd13 ct13 : Value} {od14 an14 : Option Addr} {sl14 : Array (Option Value)} {oc14 kV14 dc14 pm14 cd14 ct14 : Value} {od15 an15 : Option Addr} {sl15 : Array (Option Value)} {oc15 kV15 dc15 pm15 cd15 ct15 : Value} {od16 an16 : Option Addr} {sl16 : Array (Option Value)} {oc16 kV16 dc16 pm16 cd16 ct16 : Value} {od17 an17 : Option Addr} {sl17 : Array (Option Value)} {oc17 kV17 dc17 pm17 cd17 ct17 : Value} {od18 an18 : Option Addr} {sl18 : Array (Option Value)} {oc18 kV18 dc18 pm18 cd18 ct18 : Value} {od19 an19 : Option Addr} {sl19 : Array (Option Value)} {oc19 kV19 dc19 pm19 cd19 ct19 : Value} {od20 an20 : Option Addr} {sl20 : Array (Option Value)} {oc20 kV20 dc20 pm20 cd20 ct20 : Value} {od21 an21 : Option Addr} {sl21 : Array (Option Value)} {oc21 kV21 dc21 pm21 cd21 ct21 : Value} {od22 an22 : Option Addr} {sl22 : Array (Option Value)} {oc22 kV22 dc22 pm22 cd22 ct22 : Value} {tki23 : Tok}
    (a1 : PySem.W.nsIn K mainGlobals "law" = some (some (.ref f_law)))
    (l1 : K.lookup f_law = some ⟨oc1, od1, .func (PySem.W.fnOf "law" "law" (defArgs s_law) (defBody s_law) (defScope s_law) .none kV1 dc1 pm1 an1 cd1 ct1), sl1⟩)
    (c1 : PySem.W.codeIn K cd1 "law" = true)
    (k1 : PySem.W.keepIn K (.ref f_law) = true)
    (a2 : PySem.W.nsIn K mainGlobals "_law_box" = some (some (.ref f_law_box)))
    (l2 : K.lookup f_law_box = some ⟨oc2, od2, .func (PySem.W.fnOf "_law_box" "_law_box" (defArgs s_law_box) (defBody s_law_box) (defScope s_law_box) .none kV2 dc2 pm2 an2 cd2 ct2), sl2⟩)
    (c2 : PySem.W.codeIn K cd2 "_law_box" = true)
    (k2 : PySem.W.keepIn K (.ref f_law_box) = true)
    (a3 : PySem.W.nsIn K mainGlobals "_law_draw" = some (some (.ref f_law_draw)))
    (l3 : K.lookup f_law_draw = some ⟨oc3, od3, .func (PySem.W.fnOf "_law_draw" "_law_draw" (defArgs s_law_draw) (defBody s_law_draw) (defScope s_law_draw) .none kV3 dc3 pm3 an3 cd3 ct3), sl3⟩)
    (c3 : PySem.W.codeIn K cd3 "_law_draw" = true)
    (k3 : PySem.W.keepIn K (.ref f_law_draw) = true)
    (a4 : PySem.W.nsIn K mainGlobals "_law_size" = some (some (.ref f_law_size)))
    (l4 : K.lookup f_law_size = some ⟨oc4, od4, .func (PySem.W.fnOf "_law_size" "_law_size" (defArgs s_law_size) (defBody s_law_size) (defScope s_law_size) .none kV4 dc4 pm4 an4 cd4 ct4), sl4⟩)
    (c4 : PySem.W.codeIn K cd4 "_law_size" = true)
    (k4 : PySem.W.keepIn K (.ref f_law_size) = true)
    (a5 : PySem.W.nsIn K mainGlobals "_law_number" = some (some (.ref f_law_number)))
    (l5 : K.lookup f_law_number = some ⟨oc5, od5, .func (PySem.W.fnOf "_law_number" "_law_number" (defArgs s_law_number) (defBody s_law_number) (defScope s_law_number) .none kV5 dc5 pm5 an5 cd5 ct5), sl5⟩)
    (c5 : PySem.W.codeIn K cd5 "_law_number" = true)
    (k5 : PySem.W.keepIn K (.ref f_law_number) = true)
    (g_Grid : PySem.W.nsIn K mainGlobals "Grid" = some (some (.ref C_Grid)))
    (pg_Grid : PySem.W.plainGet K C_Grid Str.empty = true)
    (hd_Grid : PySem.W.hasDictIn K C_Grid = true)
    (po_Grid : PySem.W.plainOver K C_Grid = true)
    (sa_Grid : PySem.W.findIn K (.ref C_Grid) "__setattr__" = some (some (.builtin "object.__setattr__")))
    (mk_Grid : PySem.W.makesIn K C_Grid = true)
    (kp_Grid : PySem.W.keepIn K (.ref C_Grid) = true)
    (a6 : PySem.W.findIn K (.ref C_Grid) "__init__" = some (some (.ref f_Grid___init__)))
    (i6 : PySem.W.isFn K (.ref f_Grid___init__) = true)
    (l6 : K.lookup f_Grid___init__ = some ⟨oc6, od6, .func (PySem.W.fnOf "__init__" "Grid.__init__" (defArgs s_Grid___init__) (defBody s_Grid___init__) (defScope s_Grid___init__) (.ref dT6) kV6 dc6 pm6 an6 cd6 ct6), sl6⟩)
    (c6 : PySem.W.codeIn K cd6 "Grid.__init__" = true)
    (k6 : PySem.W.keepIn K (.ref f_Grid___init__) = true)
    (t6 : K.lookup dT6 = some ⟨tc6, td6, .seq (#[.int 0 tk6_0] : Array Value) tn6, ts6⟩)
    (no_Grid_step : PySem.W.findIn K (.ref C_Grid) "step" = some none)
    (no_Grid_offset : PySem.W.findIn K (.ref C_Grid) "offset" = some none)
    (z_len : PySem.W.nsIn K mainGlobals "len" = some none)
    (z_int : PySem.W.nsIn K mainGlobals "int" = some none)
    (z_abs : PySem.W.nsIn K mainGlobals "abs" = some none)
    (z_str : PySem.W.nsIn K mainGlobals "str" = some none)
    (z_range : PySem.W.nsIn K mainGlobals "range" = some none)
    (z_isinstance : PySem.W.nsIn K mainGlobals "isinstance" = some none)
    (z_bool : PySem.W.nsIn K mainGlobals "bool" = some none)
    (z_list : PySem.W.nsIn K mainGlobals "list" = some none)
    (z_tuple : PySem.W.nsIn K mainGlobals "tuple" = some none)
    (z_sum : PySem.W.nsIn K mainGlobals "sum" = some none)
    (z_min : PySem.W.nsIn K mainGlobals "min" = some none)
    (z_max : PySem.W.nsIn K mainGlobals "max" = some none)
    (z_any : PySem.W.nsIn K mainGlobals "any" = some none)
    (z_all : PySem.W.nsIn K mainGlobals "all" = some none)
    (z_sorted : PySem.W.nsIn K mainGlobals "sorted" = some none)
    (z_enumerate : PySem.W.nsIn K mainGlobals "enumerate" = some none)
    (a7 : PySem.W.nsIn K mainGlobals "_law_int" = some (some (.ref f_law_int)))
    (l7 : K.lookup f_law_int = some ⟨oc7, od7, .func (PySem.W.fnOf "_law_int" "_law_int" (defArgs s_law_int) (defBody s_law_int) (defScope s_law_int) .none kV7 dc7 pm7 an7 cd7 ct7), sl7⟩)
    (c7 : PySem.W.codeIn K cd7 "_law_int" = true)
    (k7 : PySem.W.keepIn K (.ref f_law_int) = true)
    (a8 : PySem.W.nsIn K mainGlobals "_law_in" = some (some (.ref f_law_in)))
    (l8 : K.lookup f_law_in = some ⟨oc8, od8, .func (PySem.W.fnOf "_law_in" "_law_in" (defArgs s_law_in) (defBody s_law_in) (defScope s_law_in) .none kV8 dc8 pm8 an8 cd8 ct8), sl8⟩)
    (c8 : PySem.W.codeIn K cd8 "_law_in" = true)
    (k8 : PySem.W.keepIn K (.ref f_law_in) = true)
    (a9 : PySem.W.nsIn K mainGlobals "_law_hit" = some (some (.ref f_law_hit)))
    (l9 : K.lookup f_law_hit = some ⟨oc9, od9, .func (PySem.W.fnOf "_law_hit" "_law_hit" (defArgs s_law_hit) (defBody s_law_hit) (defScope s_law_hit) .none kV9 dc9 pm9 an9 cd9 ct9), sl9⟩)
    (c9 : PySem.W.codeIn K cd9 "_law_hit" = true)
    (k9 : PySem.W.keepIn K (.ref f_law_hit) = true)
    (a10 : PySem.W.nsIn K mainGlobals "_law_cover" = some (some (.ref f_law_cover)))
    (l10 : K.lookup f_law_cover = some ⟨oc10, od10, .func (PySem.W.fnOf "_law_cover" "_law_cover" (defArgs s_law_cover) (defBody s_law_cover) (defScope s_law_cover) .none kV10 dc10 pm10 an10 cd10 ct10), sl10⟩)
    (c10 : PySem.W.codeIn K cd10 "_law_cover" = true)
    (k10 : PySem.W.keepIn K (.ref f_law_cover) = true)
    (a11 : PySem.W.nsIn K mainGlobals "_law_pair" = some (some (.ref f_law_pair)))
    (l11 : K.lookup f_law_pair = some ⟨oc11, od11, .func (PySem.W.fnOf "_law_pair" "_law_pair" (defArgs s_law_pair) (defBody s_law_pair) (defScope s_law_pair) .none kV11 dc11 pm11 an11 cd11 ct11), sl11⟩)
    (c11 : PySem.W.codeIn K cd11 "_law_pair" = true)
    (k11 : PySem.W.keepIn K (.ref f_law_pair) = true)
    (a12 : PySem.W.nsIn K mainGlobals "_law_grids" = some (some (.ref f_law_grids)))
    (l12 : K.lookup f_law_grids = some ⟨oc12, od12, .func (PySem.W.fnOf "_law_grids" "_law_grids" (defArgs s_law_grids) (defBody s_law_grids) (defScope s_law_grids) .none kV12 dc12 pm12 an12 cd12 ct12), sl12⟩)
    (c12 : PySem.W.codeIn K cd12 "_law_grids" = true)
    (k12 : PySem.W.keepIn K (.ref f_law_grids) = true)
    (a13 : PySem.W.nsIn K mainGlobals "_law_made" = some (some (.ref f_law_made)))
    (l13 : K.lookup f_law_made = some ⟨oc13, od13, .func (PySem.W.fnOf "_law_made" "_law_made" (defArgs s_law_made) (defBody s_law_made) (defScope s_law_made) .none kV13 dc13 pm13 an13 cd13 ct13), sl13⟩)
    (c13 : PySem.W.codeIn K cd13 "_law_made" = true)
    (k13 : PySem.W.keepIn K (.ref f_law_made) = true)
    (a14 : PySem.W.nsIn K mainGlobals "_law_one_of_two" = some (some (.ref f_law_one_of_two)))
    (l14 : K.lookup f_law_one_of_two = some ⟨oc14, od14, .func (PySem.W.fnOf "_law_one_of_two" "_law_one_of_two" (defArgs s_law_one_of_two) (defBody s_law_one_of_two) (defScope s_law_one_of_two) .none kV14 dc14 pm14 an14 cd14 ct14), sl14⟩)
    (c14 : PySem.W.codeIn K cd14 "_law_one_of_two" = true)
    (k14 : PySem.W.keepIn K (.ref f_law_one_of_two) = true)
    (a15 : PySem.W.findIn K (.ref C_Grid) "__contains__" = some (some (.ref f_Grid___contains__)))
    (i15 : PySem.W.isFn K (.ref f_Grid___contains__) = true)
    (l15 : K.lookup f_Grid___contains__ = some ⟨oc15, od15, .func (PySem.W.fnOf "__contains__" "Grid.__contains__" (defArgs s_Grid___contains__) (defBody s_Grid___contains__) (defScope s_Grid___contains__) .none kV15 dc15 pm15 an15 cd15 ct15), sl15⟩)
    (c15 : PySem.W.codeIn K cd15 "Grid.__contains__" = true)
    (k15 : PySem.W.keepIn K (.ref f_Grid___contains__) = true)
    (a16 : PySem.W.findIn K (.ref C_Grid) "within" = some (some (.ref f_Grid_within)))
    (i16 : PySem.W.isFn K (.ref f_Grid_within) = true)
    (l16 : K.lookup f_Grid_within = some ⟨oc16, od16, .func (PySem.W.fnOf "within" "Grid.within" (defArgs s_Grid_within) (defBody s_Grid_within) (defScope s_Grid_within) .none kV16 dc16 pm16 an16 cd16 ct16), sl16⟩)
    (c16 : PySem.W.codeIn K cd16 "Grid.within" = true)
    (k16 : PySem.W.keepIn K (.ref f_Grid_within) = true)
    (a17 : PySem.W.nsIn K mainGlobals "check_grids" = some (some (.ref f_check_grids)))
    (l17 : K.lookup f_check_grids = some ⟨oc17, od17, .func (PySem.W.fnOf "check_grids" "check_grids" (defArgs s_check_grids) (defBody s_check_grids) (defScope s_check_grids) .none kV17 dc17 pm17 an17 cd17 ct17), sl17⟩)
    (c17 : PySem.W.codeIn K cd17 "check_grids" = true)
    (k17 : PySem.W.keepIn K (.ref f_check_grids) = true)
    (a18 : PySem.W.nsIn K mainGlobals "is_gap" = some (some (.ref f_is_gap)))
    (l18 : K.lookup f_is_gap = some ⟨oc18, od18, .func (PySem.W.fnOf "is_gap" "is_gap" (defArgs s_is_gap) (defBody s_is_gap) (defScope s_is_gap) .none kV18 dc18 pm18 an18 cd18 ct18), sl18⟩)
    (c18 : PySem.W.codeIn K cd18 "is_gap" = true)
    (k18 : PySem.W.keepIn K (.ref f_is_gap) = true)
    (a19 : PySem.W.nsIn K mainGlobals "first_gap" = some (some (.ref f_first_gap)))
    (l19 : K.lookup f_first_gap = some ⟨oc19, od19, .func (PySem.W.fnOf "first_gap" "first_gap" (defArgs s_first_gap) (defBody s_first_gap) (defScope s_first_gap) .none kV19 dc19 pm19 an19 cd19 ct19), sl19⟩)
    (c19 : PySem.W.codeIn K cd19 "first_gap" = true)
    (k19 : PySem.W.keepIn K (.ref f_first_gap) = true)
    (a20 : PySem.W.nsIn K mainGlobals "first_around" = some (some (.ref f_first_around)))
    (l20 : K.lookup f_first_around = some ⟨oc20, od20, .func (PySem.W.fnOf "first_around" "first_around" (defArgs s_first_around) (defBody s_first_around) (defScope s_first_around) .none kV20 dc20 pm20 an20 cd20 ct20), sl20⟩)
    (c20 : PySem.W.codeIn K cd20 "first_around" = true)
    (k20 : PySem.W.keepIn K (.ref f_first_around) = true)
    (a21 : PySem.W.nsIn K mainGlobals "owners_of" = some (some (.ref f_owners_of)))
    (l21 : K.lookup f_owners_of = some ⟨oc21, od21, .func (PySem.W.fnOf "owners_of" "owners_of" (defArgs s_owners_of) (defBody s_owners_of) (defScope s_owners_of) .none kV21 dc21 pm21 an21 cd21 ct21), sl21⟩)
    (c21 : PySem.W.codeIn K cd21 "owners_of" = true)
    (k21 : PySem.W.keepIn K (.ref f_owners_of) = true)
    (a22 : PySem.W.nsIn K mainGlobals "cycle_of" = some (some (.ref f_cycle_of)))
    (l22 : K.lookup f_cycle_of = some ⟨oc22, od22, .func (PySem.W.fnOf "cycle_of" "cycle_of" (defArgs s_cycle_of) (defBody s_cycle_of) (defScope s_cycle_of) .none kV22 dc22 pm22 an22 cd22 ct22), sl22⟩)
    (c22 : PySem.W.codeIn K cd22 "cycle_of" = true)
    (k22 : PySem.W.keepIn K (.ref f_cycle_of) = true)
    (gi_MOST_GRIDS : PySem.W.nsIn K mainGlobals "MOST_GRIDS" = some (some (.int 6 tki23))) :
    ∃ fd : FuncData, (∀ (s : Shared) (v : Value), BindsTo s fd ⟨[v], []⟩ [("_law_script", v)]) ∧ ∀ base : Heap, K.In base → base.Ns mainGlobals mg → FnOk l.prog w K mg base CX0 lawLevel fa fd ["_law_script"] (spLaw K) := by
  have F_law := fun_mk (st := s_law) l1 c1 k1
  have g_law := PySem.W.mg_of X G a1
  have kp_law := k1
  have F_law_box := fun_mk (st := s_law_box) l2 c2 k2
  have b_law_box := F_law_box.binds (ps := P_law_box) fun _ _ _ _ _ _ us hl => match us, hl with | [_, _], _ => rfl
  have g_law_box := PySem.W.mg_of X G a2
  have kp_law_box := k2
  have F_law_draw := fun_mk (st := s_law_draw) l3 c3 k3
  have b_law_draw := F_law_draw.binds (ps := P_law_draw) fun _ _ _ _ _ _ us hl => match us, hl with | [_, _], _ => rfl
  have g_law_draw := PySem.W.mg_of X G a3
  have kp_law_draw := k3
  have F_law_size := fun_mk (st := s_law_size) l4 c4 k4
  have b_law_size := F_law_size.binds (ps := P_law_size) fun _ _ _ _ _ _ us hl => match us, hl with | [_], _ => rfl
  have g_law_size := PySem.W.mg_of X G a4
  have kp_law_size := k4
  have F_law_number := fun_mk (st := s_law_number) l5 c5 k5
  have b_law_number := F_law_number.binds (ps := P_law_number) fun _ _ _ _ _ _ us hl => match us, hl with | [_], _ => rfl
  have g_law_number := PySem.W.mg_of X G a5
  have kp_law_number := k5
  have cl_Grid : Cls K C_Grid := ⟨pg_Grid, hd_Grid, po_Grid, sa_Grid⟩
  have mg_Grid := PySem.W.mg_of X G g_Grid
  have F_Grid___init__ : FunD K "__init__" "Grid.__init__" (defArgs s_Grid___init__) (defBody s_Grid___init__) (defScope s_Grid___init__) [.int 0] [] f_Grid___init__ _ := ⟨⟨_, _, _, _, _, _, _, _, _, _, rfl, l6, c6, Or.inr ⟨by simp, _, _, _, _, rfl, t6, rfl, .cons ⟨_, rfl⟩ (.nil)⟩, Or.inl rfl⟩, k6⟩
  obtain ⟨ds_Grid___init___1, dr_Grid___init___1, b_Grid___init___1⟩ := F_Grid___init__.binds1 (ps := P_Grid___init__) 2 0 (by simp) rfl (fun T kV doc pm an cdv ct us its h1 h2 => match us, its, h1, h2 with | [_, _], [_], _, _ => ⟨_, rfl, rfl⟩)
  obtain ⟨ds_Grid___init___2, dr_Grid___init___2, b_Grid___init___2⟩ := F_Grid___init__.binds1 (ps := P_Grid___init__) 3 1 (by simp) rfl (fun T kV doc pm an cdv ct us its h1 h2 => match us, its, h1, h2 with | [_, _, _], [_], _, _ => ⟨_, rfl, rfl⟩)
  have mk_Grid___init__ : Mk K C_Grid f_Grid___init__ := ⟨mk_Grid, a6, i6, kp_Grid⟩
  have kp_Grid___init__ := k6
  have b_len := PySem.W.mg_none_of X G z_len
  have b_int := PySem.W.mg_none_of X G z_int
  have b_abs := PySem.W.mg_none_of X G z_abs
  have b_str := PySem.W.mg_none_of X G z_str
  have b_range := PySem.W.mg_none_of X G z_range
  have b_isinstance := PySem.W.mg_none_of X G z_isinstance
  have b_bool := PySem.W.mg_none_of X G z_bool
  have b_list := PySem.W.mg_none_of X G z_list
  have b_tuple := PySem.W.mg_none_of X G z_tuple
  have b_sum := PySem.W.mg_none_of X G z_sum
  have b_min := PySem.W.mg_none_of X G z_min
  have b_max := PySem.W.mg_none_of X G z_max
  have b_any := PySem.W.mg_none_of X G z_any
  have b_all := PySem.W.mg_none_of X G z_all
  have b_sorted := PySem.W.mg_none_of X G z_sorted
  have b_enumerate := PySem.W.mg_none_of X G z_enumerate
  have F_law_int := fun_mk (st := s_law_int) l7 c7 k7
  have b_law_int := F_law_int.binds (ps := P_law_int) fun _ _ _ _ _ _ us hl => match us, hl with | [_], _ => rfl
  have g_law_int := PySem.W.mg_of X G a7
  have kp_law_int := k7
  have F_law_in := fun_mk (st := s_law_in) l8 c8 k8
  have b_law_in := F_law_in.binds (ps := P_law_in) fun _ _ _ _ _ _ us hl => match us, hl with | [_, _], _ => rfl
  have g_law_in := PySem.W.mg_of X G a8
  have kp_law_in := k8
  have F_law_hit := fun_mk (st := s_law_hit) l9 c9 k9
  have b_law_hit := F_law_hit.binds (ps := P_law_hit) fun _ _ _ _ _ _ us hl => match us, hl with | [_, _], _ => rfl
  have g_law_hit := PySem.W.mg_of X G a9
  have kp_law_hit := k9
  have F_law_cover := fun_mk (st := s_law_cover) l10 c10 k10
  have b_law_cover := F_law_cover.binds (ps := P_law_cover) fun _ _ _ _ _ _ us hl => match us, hl with | [_, _], _ => rfl
  have g_law_cover := PySem.W.mg_of X G a10
  have kp_law_cover := k10
  have F_law_pair := fun_mk (st := s_law_pair) l11 c11 k11
  have b_law_pair := F_law_pair.binds (ps := P_law_pair) fun _ _ _ _ _ _ us hl => match us, hl with | [_], _ => rfl
  have g_law_pair := PySem.W.mg_of X G a11
  have kp_law_pair := k11
  have F_law_grids := fun_mk (st := s_law_grids) l12 c12 k12
  have b_law_grids := F_law_grids.binds (ps := P_law_grids) fun _ _ _ _ _ _ us hl => match us, hl with | [_, _], _ => rfl
  have g_law_grids := PySem.W.mg_of X G a12
  have kp_law_grids := k12
  have F_law_made := fun_mk (st := s_law_made) l13 c13 k13
  have b_law_made := F_law_made.binds (ps := P_law_made) fun _ _ _ _ _ _ us hl => match us, hl with | [_], _ => rfl
  have g_law_made := PySem.W.mg_of X G a13
  have kp_law_made := k13
  have F_law_one_of_two := fun_mk (st := s_law_one_of_two) l14 c14 k14
  have b_law_one_of_two := F_law_one_of_two.binds (ps := P_law_one_of_two) fun _ _ _ _ _ _ us hl => match us, hl with | [_, _, _], _ => rfl
  have g_law_one_of_two := PySem.W.mg_of X G a14
  have kp_law_one_of_two := k14
  have F_Grid___contains__ := fun_mk (st := s_Grid___contains__) l15 c15 k15
  have b_Grid___contains__ := F_Grid___contains__.binds (ps := P_Grid___contains__) fun _ _ _ _ _ _ us hl => match us, hl with | [_, _], _ => rfl
  have g_Grid___contains__ := (⟨a15, i15, k15⟩ : Meth K C_Grid "__contains__" f_Grid___contains__)
  have o_Grid___contains__ : Own K C_Grid "__contains__" f_Grid___contains__ := ⟨a15, i15⟩
  have kp_Grid___contains__ := k15
  have F_Grid_within := fun_mk (st := s_Grid_within) l16 c16 k16
  have b_Grid_within := F_Grid_within.binds (ps := P_Grid_within) fun _ _ _ _ _ _ us hl => match us, hl with | [_, _], _ => rfl
  have g_Grid_within := (⟨a16, i16, k16⟩ : Meth K C_Grid "within" f_Grid_within)
  have o_Grid_within : Own K C_Grid "within" f_Grid_within := ⟨a16, i16⟩
  have kp_Grid_within := k16
  have F_check_grids := fun_mk (st := s_check_grids) l17 c17 k17
  have b_check_grids := F_check_grids.binds (ps := P_check_grids) fun _ _ _ _ _ _ us hl => match us, hl with | [_], _ => rfl
  have g_check_grids := PySem.W.mg_of X G a17
  have kp_check_grids := k17
  have F_is_gap := fun_mk (st := s_is_gap) l18 c18 k18
  have b_is_gap := F_is_gap.binds (ps := P_is_gap) fun _ _ _ _ _ _ us hl => match us, hl with | [_, _], _ => rfl
  have g_is_gap := PySem.W.mg_of X G a18
  have kp_is_gap := k18
  have F_first_gap := fun_mk (st := s_first_gap) l19 c19 k19
  have b_first_gap := F_first_gap.binds (ps := P_first_gap) fun _ _ _ _ _ _ us hl => match us, hl with | [_, _], _ => rfl
  have g_first_gap := PySem.W.mg_of X G a19
  have kp_first_gap := k19
  have F_first_around := fun_mk (st := s_first_around) l20 c20 k20
  have b_first_around := F_first_around.binds (ps := P_first_around) fun _ _ _ _ _ _ us hl => match us, hl with | [_, _], _ => rfl
  have g_first_around := PySem.W.mg_of X G a20
  have kp_first_around := k20
  have F_owners_of := fun_mk (st := s_owners_of) l21 c21 k21
  have b_owners_of := F_owners_of.binds (ps := P_owners_of) fun _ _ _ _ _ _ us hl => match us, hl with | [_, _], _ => rfl
  have g_owners_of := PySem.W.mg_of X G a21
  have kp_owners_of := k21
  have F_cycle_of := fun_mk (st := s_cycle_of) l22 c22 k22
  have b_cycle_of := F_cycle_of.binds (ps := P_cycle_of) fun _ _ _ _ _ _ us hl => match us, hl with | [_], _ => rfl
  have g_cycle_of := PySem.W.mg_of X G a22
  have kp_cycle_of := k22
  have g_int_MOST_GRIDS := PySem.W.mg_of X G gi_MOST_GRIDS
  cases hfa.symm.trans g_law
  have T : Txt mg := ⟨b_len, b_int, b_abs, b_str, b_range, b_isinstance, b_bool, b_list, b_tuple, b_sum, b_min, b_max, b_any, b_all, b_sorted, b_enumerate⟩
  have GT : GTxt K C_Grid := ⟨cl_Grid, no_Grid_step, no_Grid_offset⟩
  refine ⟨PySem.W.fnOf "law" "law" (defArgs s_law) (defBody s_law) (defScope s_law) .none kV1 dc1 pm1 an1 cd1 ct1, fun s v => .of_eq rfl, fun base _ _ => ?_⟩
  have fDraw : Fn l.prog w K mg base "_law_draw" P_law_draw [] 1 spDraw := ⟨_, _, _, g_law_draw, kp_law_draw, b_law_draw, .nil, ok_draw F_law_draw T⟩
  have fBox : Fn l.prog w K mg base "_law_box" P_law_box [] 1 (spBox K) := ⟨_, _, _, g_law_box, kp_law_box, b_law_box, .nil, ok_box F_law_box T⟩
  have fSize : Fn l.prog w K mg base "_law_size" P_law_size [] 2 spSize := ⟨_, _, _, g_law_size, kp_law_size, b_law_size, .nil, ok_size F_law_size T fDraw⟩
  have fNum : Fn l.prog w K mg base "_law_number" P_law_number [] 3 spNum := ⟨_, _, _, g_law_number, kp_law_number, b_law_number, .nil, ok_number F_law_number T fDraw fSize⟩
  have mk2 : Made l.prog w K mg base "Grid" C_Grid P_Grid___init__ [] 1 (spInit C_Grid) := ⟨_, _, _, mg_Grid, mk_Grid___init__, b_Grid___init___2, dr_Grid___init___2, ok_init F_Grid___init__ GT⟩
  have mk1 : Made l.prog w K mg base "Grid" C_Grid P_Grid___init__ [.int 0] 1 (spInit C_Grid) := ⟨_, _, _, mg_Grid, mk_Grid___init__, b_Grid___init___1, dr_Grid___init___1, ok_init F_Grid___init__ GT⟩

  have fInt : Fn l.prog w K mg base "_law_int" P_law_int [] 1 spInt := ⟨_, _, _, g_law_int, kp_law_int, b_law_int, .nil, ok_int F_law_int T⟩
  have oIn : Opr l.prog w K mg base C_Grid "__contains__" P_Grid___contains__ 1 (spIn C_Grid) := ⟨_, _, o_Grid___contains__, b_Grid___contains__, ok_in F_Grid___contains__ GT⟩
  have fOn : Fn l.prog w K mg base "_law_in" P_law_in [] 1 (spOn K) := ⟨_, _, _, g_law_in, kp_law_in, b_law_in, .nil, ok_on F_law_in T⟩
  have fHit : Fn l.prog w K mg base "_law_hit" P_law_hit [] 2 spHit := ⟨_, _, _, g_law_hit, kp_law_hit, b_law_hit, .nil, ok_hit F_law_hit T fOn⟩
  have fMade : Fn l.prog w K mg base "_law_made" P_law_made [] 3 (spMade C_Grid) := ⟨_, _, _, g_law_made, kp_law_made, b_law_made, .nil, ok_made F_law_made T mk2⟩
  have fCover : Fn l.prog w K mg base "_law_cover" P_law_cover [] 2 (spRows (Gb 1000) 1) := ⟨_, _, _, g_law_cover, kp_law_cover, b_law_cover, .nil, ok_cover F_law_cover T (drawA fDraw)⟩
  have fPair : Fn l.prog w K mg base "_law_pair" P_law_pair [] 2 spPairD := ⟨_, _, _, g_law_pair, kp_law_pair, b_law_pair, .nil, ok_pair F_law_pair T (drawA fDraw)⟩
  have fGrids : Fn l.prog w K mg base "_law_grids" P_law_grids [] 3 (spRows Gm 0) := ⟨_, _, _, g_law_grids, kp_law_grids, b_law_grids, .nil, ok_grids F_law_grids T (drawA fDraw) fCover fPair⟩
  have fCheck : Fn l.prog w K mg base "check_grids" P_check_grids [] 1 spCheck := ⟨_, _, _, g_check_grids, kp_check_grids, b_check_grids, .nil, ok_check F_check_grids T g_int_MOST_GRIDS⟩
  have fGap : Fn l.prog w K mg base "is_gap" P_is_gap [] 3 (spGap C_Grid) := ⟨_, _, _, g_is_gap, kp_is_gap, b_is_gap, .nil, ok_gap F_is_gap T oIn⟩
  have fFirst : Fn l.prog w K mg base "first_gap" P_first_gap [] 4 (spFirst C_Grid) := ⟨_, _, _, g_first_gap, kp_first_gap, b_first_gap, .nil, ok_first F_first_gap T fCheck fGap⟩
  have mW : Mth l.prog w K mg base C_Grid "within" P_Grid_within [] 2 (spWithin C_Grid) := ⟨cl_Grid, _, _, _, g_Grid_within, b_Grid_within, .nil, ok_within F_Grid_within GT oIn⟩
  have fAround : Fn l.prog w K mg base "first_around" P_first_around [] 3 (spAroundG C_Grid) := ⟨_, _, _, g_first_around, kp_first_around, b_first_around, .nil, ok_aroundG F_first_around T mW⟩
  have fOwners : Fn l.prog w K mg base "owners_of" P_owners_of [] 4 (spOwners C_Grid) := ⟨_, _, _, g_owners_of, kp_owners_of, b_owners_of, .nil, ok_owners F_owners_of T mk2 fAround⟩
  have fCyc : Fn l.prog w K mg base "cycle_of" P_cycle_of [] 5 (spCyc C_Grid) := ⟨_, _, _, g_cycle_of, kp_cycle_of, b_cycle_of, .nil, ok_cyc F_cycle_of T fCheck fOwners⟩
  have fTwo : Fn l.prog w K mg base "_law_one_of_two" P_law_one_of_two [] 6 spTwo := ⟨_, _, _, g_law_one_of_two, kp_law_one_of_two, b_law_one_of_two, .nil, ok_two F_law_one_of_two T fMade fFirst fCyc fInt fHit fOn⟩
  exact ok_law F_law T fBox fNum fGrids fTwo
theorem walk {l : PySem.W.OpenLaw} {q : Program} {loose : List Str} {XP : (Str → Option Value) → Heap → Prop} {YP : World → Heap → Prop} {d : DefRec} {K : Params → PySem.W.Frag} (hn : l.most = some 63) (hdf : d.params.defaults = [])
    (hY : ∀ (w : World) (h : Heap), YP w h → (K w.params).In h)
    (F : ∀ (w : World) (mg : Str → Option Value) (fa : Addr) (h : Heap), (K w.params).In h → h.Ns mainGlobals mg → mg d.name = some (.ref fa) →
      ∃ fd : FuncData, (∀ (s : Shared) (u : Value), BindsTo s fd ⟨[u], []⟩ [("_law_script", u)]) ∧ ∀ base : Heap, (K w.params).In base → base.Ns mainGlobals mg → FnOk l.prog w (K w.params) mg base CX0 lawLevel fa fd ["_law_script"] (spLaw (K w.params))) :
    PySem.W.WalkO q loose XP YP l.row.toRowW d [] (fun f vs => PySem.call f vs) :=
  L2.walk_of (n := 63) (k := lawLevel) (x := "_law_script") (CX := fun _ => CX0) (sp := fun w => spLaw (K w.params)) hn (by decide) hdf ⟨rfl, by decide, by decide⟩ hY F (fun _ _ a ns hl _ hS => ⟨a, ns, rfl, hS, hl, fun _ => rfl⟩) fun _ _ _ _ _ z => z
end Lw

open PySem PySem.W PyProof.Rows in
set_option maxRecDepth 100000 in
set_option maxHeartbeats 0 in
theorem PySem.Challenge.cw_barclips_k14_whole_gap_or_cycle_holds : PySem.Challenge.rw_barclips_k14_whole_gap_or_cycle.Holds := by
  w_on; o_law; k_head; (case hw => w_witness2)
  k_fill
  refine Lw.walk (l := PySem.Challenge.rw_barclips_k14_whole_gap_or_cycle) rfl rfl (fun w h Y => PySem.W.kIn_of Y) ?F
  case F =>
    intro w mg fa h KX G hmg
    refine' Lw.all_mk KX G hmg ?a1 ?l1 ?c1 ?k1 ?a2 ?l2 ?c2 ?k2 ?a3 ?l3 ?c3 ?k3 ?a4 ?l4 ?c4 ?k4 ?a5 ?l5 ?c5 ?k5 ?g_Grid ?pg_Grid ?hd_Grid ?po_Grid ?sa_Grid ?mk_Grid ?kp_Grid ?a6 ?i6 ?l6 ?c6 ?k6 ?t6 ?no_Grid_step ?no_Grid_offset ?z_len ?z_int ?z_abs ?z_str ?z_range ?z_isinstance ?z_bool ?z_list ?z_tuple ?z_sum ?z_min ?z_max ?z_any ?z_all ?z_sorted ?z_enumerate ?a7 ?l7 ?c7 ?k7 ?a8 ?l8 ?c8 ?k8 ?a9 ?l9 ?c9 ?k9 ?a10 ?l10 ?c10 ?k10 ?a11 ?l11 ?c11 ?k11 ?a12 ?l12 ?c12 ?k12 ?a13 ?l13 ?c13 ?k13 ?a14 ?l14 ?c14 ?k14 ?a15 ?i15 ?l15 ?c15 ?k15 ?a16 ?i16 ?l16 ?c16 ?k16 ?a17 ?l17 ?c17 ?k17 ?a18 ?l18 ?c18 ?k18 ?a19 ?l19 ?c19 ?k19 ?a20 ?l20 ?c20 ?k20 ?a21 ?l21 ?c21 ?k21 ?a22 ?l22 ?c22 ?k22 ?gi_MOST_GRIDS
    (case a1 => k_is)
    (case l1 => k_is)
    (case c1 => k_is)
    (case k1 => k_is)
    (case a2 => k_is)
    (case l2 => k_is)
    (case c2 => k_is)
    (case k2 => k_is)
    (case a3 => k_is)
    (case l3 => k_is)
    (case c3 => k_is)
    (case k3 => k_is)
    (case a4 => k_is)
    (case l4 => k_is)
    (case c4 => k_is)
    (case k4 => k_is)
    (case a5 => k_is)
    (case l5 => k_is)
    (case c5 => k_is)
    (case k5 => k_is)
    (case g_Grid => k_is)
    (case pg_Grid => k_is)
    (case hd_Grid => k_is)
    (case po_Grid => k_is)
    (case sa_Grid => k_is)
    (case mk_Grid => k_is)
    (case kp_Grid => k_is)
    (case a6 => k_is)
    (case i6 => k_is)
    (case l6 => k_is)
    (case c6 => k_is)
    (case k6 => k_is)
    (case t6 => k_is)
    (case no_Grid_step => k_is)
    (case no_Grid_offset => k_is)
    (case z_len => k_is)
    (case z_int => k_is)
    (case z_abs => k_is)
    (case z_str => k_is)
    (case z_range => k_is)
    (case z_isinstance => k_is)
    (case z_bool => k_is)
    (case z_list => k_is)
    (case z_tuple => k_is)
    (case z_sum => k_is)
    (case z_min => k_is)
    (case z_max => k_is)
    (case z_any => k_is)
    (case z_all => k_is)
    (case z_sorted => k_is)
    (case z_enumerate => k_is)
    (case a7 => k_is)
    (case l7 => k_is)
    (case c7 => k_is)
    (case k7 => k_is)
    (case a8 => k_is)
    (case l8 => k_is)
    (case c8 => k_is)
    (case k8 => k_is)
    (case a9 => k_is)
    (case l9 => k_is)
    (case c9 => k_is)
    (case k9 => k_is)
    (case a10 => k_is)
    (case l10 => k_is)
    (case c10 => k_is)
    (case k10 => k_is)
    (case a11 => k_is)
    (case l11 => k_is)
    (case c11 => k_is)
    (case k11 => k_is)
    (case a12 => k_is)
    (case l12 => k_is)
    (case c12 => k_is)
    (case k12 => k_is)
    (case a13 => k_is)
    (case l13 => k_is)
    (case c13 => k_is)
    (case k13 => k_is)
    (case a14 => k_is)
    (case l14 => k_is)
    (case c14 => k_is)
    (case k14 => k_is)
    (case a15 => k_is)
    (case i15 => k_is)
    (case l15 => k_is)
    (case c15 => k_is)
    (case k15 => k_is)
    (case a16 => k_is)
    (case i16 => k_is)
    (case l16 => k_is)
    (case c16 => k_is)
    (case k16 => k_is)
    (case a17 => k_is)
    (case l17 => k_is)
    (case c17 => k_is)
    (case k17 => k_is)
    (case a18 => k_is)
    (case l18 => k_is)
    (case c18 => k_is)
    (case k18 => k_is)
    (case a19 => k_is)
    (case l19 => k_is)
    (case c19 => k_is)
    (case k19 => k_is)
    (case a20 => k_is)
    (case l20 => k_is)
    (case c20 => k_is)
    (case k20 => k_is)
    (case a21 => k_is)
    (case l21 => k_is)
    (case c21 => k_is)
    (case k21 => k_is)
    (case a22 => k_is)
    (case l22 => k_is)
    (case c22 => k_is)
    (case k22 => k_is)
    (case gi_MOST_GRIDS => k_is)

