import PyProof.Rows.All
import Wide.All
import OpenK.AllK
import Wide.FinOn
import HandS.ForMost
import HandS.Wide
import HandS.Gcd
import HandS.OwnEq
import HandS.IsInst
import HandS.Defaults
import HandS.Exc
import HandS.ExcInit
import HandS.ExcField
import HandS.ExcOwn
import HandS.ClsMeth
import HandS.WordsExc
import HandS.FStr
import HandS.Style
import PyProof.LongRange
import HandS.MakeKw
import HandS.Conv
import KE.KExcIs
import HandS.TryMany
import HandS.Nested
import HandS.MakeKwOnly
import HandS.Property
import KE.KSuper
import HandS.Iter
import HandS.Text
import HandS.Strs
import PyProof.StrLawsRepr
import HandS.StrMore
import KE.KCallOwn
import HandS.Star
import HandS.SetKeys
import HandS.IterVal
import KE.KOwnIter
import PyProof.FactsAll.tuple_iterator_1
import PySem.Challenge.RW_barclips_k25_track_rules
set_option Elab.async false
set_option linter.all false
set_option maxRecDepth 100000
set_option maxHeartbeats 4000000
set_option exponentiation.threshold 2000
set_option Elab.async false
set_option linter.all false
set_option maxRecDepth 100000
set_option maxHeartbeats 4000000
namespace Bar
open PySem L2

/-! ### one step of a reading -/
section
variable {D : Ends} {σ σ' : L2.St} {H : Hp} {Q : VK} {t u : TS} {te ta tb tc : TE} {tt tu : TT} {g : TG} {v x y : V} {i j : Int} {n : Nat}
theorem rSeq (h : t ⟨u D, D.rt, D.bk, D.ct⟩ σ H) : tSeq t u D σ H := h
theorem rNext (h : D.nx σ H) : tNext D σ H := h
theorem rNx {f : L2.St → Hp → Prop} {r : VK} {b c : L2.St → Hp → Prop} (h : f σ H) : Ends.nx ⟨f, r, b, c⟩ σ H := h
theorem rCt {f : L2.St → Hp → Prop} {r : VK} {b c : L2.St → Hp → Prop} (h : c σ H) : Ends.ct ⟨f, r, b, c⟩ σ H := h
theorem rBk {f : L2.St → Hp → Prop} {r : VK} {b c : L2.St → Hp → Prop} (h : b σ H) : Ends.bk ⟨f, r, b, c⟩ σ H := h
theorem rRt {f : L2.St → Hp → Prop} {r : VK} {b c : L2.St → Hp → Prop} (h : r v H) : Ends.rt ⟨f, r, b, c⟩ v H := h
theorem rBreak (h : D.bk σ H) : tBreak D σ H := h
theorem rCont (h : D.ct σ H) : tCont D σ H := h
theorem rAsg (h : te σ H fun x H1 => g x σ H1 D.nx) : tAsg te g D σ H := h
theorem rDrop (h : te σ H fun _ H1 => D.nx σ H1) : tDrop te D σ H := h
theorem rRet (h : te σ H D.rt) : tRet te D σ H := h
theorem rRetN (h : D.rt .non H) : tRetN D σ H := h
theorem rIfS (h : tt σ H fun b H1 => if b = true then t D σ H1 else u D σ H1) : tIfS tt t u D σ H := h
theorem rVar (e : σ[n]? = some (some v)) (h : Q v H) : tVar n σ H Q := ⟨v, e, h⟩
theorem rC (h : Q v H) : tC v σ H Q := h
theorem rOp {r : R2} (h : ta σ H fun x H1 => tb σ H1 fun y H2 => r x y H2 Q) : tOp r ta tb σ H Q := h
theorem rUn {r : V → Hp → VK → Prop} (h : ta σ H fun x H1 => r x H1 Q) : tUn r ta σ H Q := h
theorem rI0_ {f : Int → Int → V} (h : Q (f i j) H) : rI0 f (.int i) (.int j) H Q := ⟨i, j, rfl, rfl, h⟩
theorem rI_ {C : Int → Int → Prop} {f : Int → Int → V} (c : C i j) (h : Q (f i j) H) : rI C f (.int i) (.int j) H Q := ⟨i, j, rfl, rfl, c, h⟩
theorem rU_ {f : Int → V} (h : Q (f i) H) : rU f (.int i) H Q := ⟨i, rfl, h⟩
theorem rEq_ (e : scal x y = true) (h : Q (.bl (decide (x = y))) H) : rEq x y H Q := ⟨e, h⟩
theorem rNe_ (e : scal x y = true) (h : Q (.bl (!decide (x = y))) H) : rNe x y H Q := ⟨e, h⟩
theorem rEqI (h : Q (.bl (decide (i = j))) H) : rEq (.int i) (.int j) H Q := ⟨rfl, by
  have e : decide (V.int i = V.int j) = decide (i = j) := by
    by_cases q : i = j
    · subst q; rw [decide_eq_true rfl, decide_eq_true rfl]
    · rw [decide_eq_false q, decide_eq_false (fun z => q (V.int.inj z))]
  rw [e]
  exact h⟩
theorem rNeI (h : Q (.bl (!decide (i = j))) H) : rNe (.int i) (.int j) H Q := ⟨rfl, by
  have e : decide (V.int i = V.int j) = decide (i = j) := by
    by_cases q : i = j
    · subst q; rw [decide_eq_true rfl, decide_eq_true rfl]
    · rw [decide_eq_false q, decide_eq_false (fun z => q (V.int.inj z))]
  rw [e]
  exact h⟩
theorem dBl (a b : Bool) : decide (V.bl a = V.bl b) = (a == b) := by
  cases a <;> cases b <;> decide
theorem rEqBl {a b : Bool} (h : Q (.bl (a == b)) H) : rEq (.bl a) (.bl b) H Q := ⟨rfl, by
  rw [dBl]
  exact h⟩
theorem rNeBl {a b : Bool} (h : Q (.bl (!(a == b))) H) : rNe (.bl a) (.bl b) H Q := ⟨rfl, by
  rw [dBl]
  exact h⟩
theorem rTest {Q : Bool → Hp → Prop} (h : te σ H fun x H' => ∃ k, x = .bl k ∧ Q k H') : tTest te σ H Q := h
theorem rB {Q : Bool → Hp → Prop} (h : te σ H fun x H' => ∃ k, x = .bl k ∧ Q k H') : tB te σ H Q := h
theorem rBl {b : Bool} {P : Bool → Prop} (h : P b) : ∃ k, V.bl b = .bl k ∧ P k := ⟨b, rfl, h⟩
theorem rNot {Q : Bool → Hp → Prop} (h : tt σ H fun c H1 => Q (!c) H1) : tNot tt σ H Q := h
theorem rAnd {Q : Bool → Hp → Prop} (h : tt σ H fun c H1 => if c = true then tu σ H1 Q else Q false H1) : tAnd tt tu σ H Q := h
theorem rOr {Q : Bool → Hp → Prop} (h : tt σ H fun c H1 => if c = true then Q true H1 else tu σ H1 Q) : tOr tt tu σ H Q := h
theorem rAndV (h : ta σ H fun x H1 => ∃ c, x = .bl c ∧ if c = true then tb σ H1 Q else Q (.bl false) H1) : tAndV ta tb σ H Q := h
theorem rOrV (h : ta σ H fun x H1 => ∃ c, x = .bl c ∧ if c = true then Q (.bl true) H1 else tb σ H1 Q) : tOrV ta tb σ H Q := h
theorem rNotV (h : ta σ H fun x H1 => ∃ c, x = .bl c ∧ Q (.bl (!c)) H1) : tNotV ta σ H Q := h
theorem rIfE (h : tt σ H fun c H1 => if c = true then ta σ H1 Q else tb σ H1 Q) : tIf tt ta tb σ H Q := h
theorem rCB {r : List V → Hp → VK → Prop} {t : TA} (h : t σ H fun vs H1 => r vs H1 Q) : tCB r t σ H Q := h
theorem rNil {Q : List V → Hp → Prop} (h : Q [] H) : tNil σ H Q := h
theorem rCons {t : TA} {Q : List V → Hp → Prop} (h : te σ H fun x H1 => t σ H1 fun xs H2 => Q (x :: xs) H2) : tCons te t σ H Q := h
theorem rTup {t : TA} (h : t σ H fun xs H1 => xs.length ≤ sizeLine ∧ ∀ p, H1 p = none → Q (.ref p) (upd H1 p (.tup xs))) : tTup t σ H Q := h
theorem rLst {t : TA} (h : t σ H fun xs H1 => xs.length ≤ sizeLine ∧ ∀ p, H1 p = none → Q (.ref p) (upd H1 p (.lst xs))) : tLst t σ H Q := h
theorem rNew {xs : List V} {R : Addr → Prop} (l : xs.length ≤ sizeLine) (h : ∀ p, H p = none → R p) : xs.length ≤ sizeLine ∧ ∀ p, H p = none → R p := ⟨l, h⟩
theorem rCall {sp : Sp} {dvs : List V} {E : XK} {t : TA} (h : t σ H fun vs H1 => sp (vs ++ dvs) H1 Q E) : tCall sp dvs E t σ H Q := h
theorem rMake {C : Addr} {sp : Sp} {dvs : List V} {E : XK} {t : TA} (h : t σ H fun vs H1 => ∀ x dx, H1 x = none → H1 dx = none → dx ≠ x → sp (.ref x :: (vs ++ dvs)) (upd (upd H1 dx (.own x)) x (.ins C dx [])) (fun v H2 => v = .non ∧ Q (.ref x) H2) E) : tMake C sp dvs E t σ H Q := h
theorem rIxL_ {K : PySem.W.Frag} {a : Addr} {xs : List V} (h1 : SqL K H a xs) (h2 : atI xs i = some v) (h : Q v H) : rIxL K (.ref a) (.int i) H Q := ⟨a, xs, i, v, rfl, rfl, h1, h2, h⟩
theorem rIxT_ {K : PySem.W.Frag} {a : Addr} {xs : List V} (h1 : SqT K H a xs) (h2 : atI xs i = some v) (h : Q v H) : rIxT K (.ref a) (.int i) H Q := ⟨a, xs, i, v, rfl, rfl, h1, h2, h⟩
theorem rFldS {K : PySem.W.Frag} {ta tv : TE} {f : Str} (h : tv σ H fun y H1 => ta σ H1 fun x H2 => ∃ a C dx fs, x = .ref a ∧ H2 a = some (.ins C dx fs) ∧ Cls K C ∧ NoAttr K C f ∧ fs.length < 1000 ∧ D.nx σ (upd H2 a (.ins C dx (putF f y fs)))) : sFld K ta tv f D σ H := h
theorem rFld_ {K : PySem.W.Frag} {f : Str} (h : te σ H fun x H1 => ∃ a C dx fs v, x = .ref a ∧ H1 a = some (.ins C dx fs) ∧ Cls K C ∧ NoAttr K C f ∧ fs.lookup f = some v ∧ Q v H1) : tFld K te f σ H Q := h
theorem rFldV {K : PySem.W.Frag} {f : Str} {a C dx : Addr} {fs : List (Str × V)} {R : V → Prop} (h1 : H a = some (.ins C dx fs)) (c : Cls K C) (nA : NoAttr K C f) (l : fs.lookup f = some v) (h : R v) :
    ∃ a' C dx fs v, V.ref a = .ref a' ∧ H a' = some (.ins C dx fs) ∧ Cls K C ∧ NoAttr K C f ∧ fs.lookup f = some v ∧ R v := ⟨a, C, dx, fs, v, rfl, h1, c, nA, l, h⟩
theorem gN {i : Nat} {Q : L2.St → Hp → Prop} (e : σ.set i (some v) = σ') (h : Q σ' H) : gName i v σ H Q := by
  subst e
  exact h
theorem gN0 {a : Option V} {Q : L2.St → Hp → Prop} (h : Q (some v :: σ) H) : gName 0 v (a :: σ) H Q := h
theorem gN1 {a b : Option V} {Q : L2.St → Hp → Prop} (h : Q (a :: some v :: σ) H) : gName 1 v (a :: b :: σ) H Q := h
theorem gN2 {a b c : Option V} {Q : L2.St → Hp → Prop} (h : Q (a :: b :: some v :: σ) H) : gName 2 v (a :: b :: c :: σ) H Q := h
theorem gN3 {a b c d : Option V} {Q : L2.St → Hp → Prop} (h : Q (a :: b :: c :: some v :: σ) H) : gName 3 v (a :: b :: c :: d :: σ) H Q := h
theorem gN4 {a b c d e : Option V} {Q : L2.St → Hp → Prop} (h : Q (a :: b :: c :: d :: some v :: σ) H) : gName 4 v (a :: b :: c :: d :: e :: σ) H Q := h
theorem gN5 {a b c d e f : Option V} {Q : L2.St → Hp → Prop} (h : Q (a :: b :: c :: d :: e :: some v :: σ) H) : gName 5 v (a :: b :: c :: d :: e :: f :: σ) H Q := h
theorem gN6 {a b c d e f k : Option V} {Q : L2.St → Hp → Prop} (h : Q (a :: b :: c :: d :: e :: f :: some v :: σ) H) : gName 6 v (a :: b :: c :: d :: e :: f :: k :: σ) H Q := h
theorem gN7 {a b c d e f k l : Option V} {Q : L2.St → Hp → Prop} (h : Q (a :: b :: c :: d :: e :: f :: k :: some v :: σ) H) : gName 7 v (a :: b :: c :: d :: e :: f :: k :: l :: σ) H Q := h
theorem gN8 {a b c d e f k l m : Option V} {Q : L2.St → Hp → Prop} (h : Q (a :: b :: c :: d :: e :: f :: k :: l :: some v :: σ) H) : gName 8 v (a :: b :: c :: d :: e :: f :: k :: l :: m :: σ) H Q := h
theorem gN9 {a b c d e f k l m o : Option V} {Q : L2.St → Hp → Prop} (h : Q (a :: b :: c :: d :: e :: f :: k :: l :: m :: some v :: σ) H) : gName 9 v (a :: b :: c :: d :: e :: f :: k :: l :: m :: o :: σ) H Q := h
theorem gN10 {a b c d e f k l m o p : Option V} {Q : L2.St → Hp → Prop} (h : Q (a :: b :: c :: d :: e :: f :: k :: l :: m :: o :: some v :: σ) H) : gName 10 v (a :: b :: c :: d :: e :: f :: k :: l :: m :: o :: p :: σ) H Q := h
theorem gN11 {a b c d e f k l m o p q : Option V} {Q : L2.St → Hp → Prop} (h : Q (a :: b :: c :: d :: e :: f :: k :: l :: m :: o :: p :: some v :: σ) H) : gName 11 v (a :: b :: c :: d :: e :: f :: k :: l :: m :: o :: p :: q :: σ) H Q := h
theorem rStart {N : List Str} {vs : List V} (e : start N vs = σ) (h : t D σ H) : t D (start N vs) H := by
  rw [e]
  exact h
theorem iteBT {A B : Prop} {b : Bool} (e : b = true) (h : A) : if b = true then A else B := by
  rw [if_pos e]
  exact h
theorem iteBF {A B : Prop} {b : Bool} (e : b = false) (h : B) : if b = true then A else B := by
  rw [e, if_neg Bool.false_ne_true]
  exact h
end

/-! ### a def that is called by its name -/
structure Fn (P : Program) (w : World) (K : PySem.W.Frag) (mg : Str → Option Value) (base : Heap) (x : Str) (ps : List Str) (dvs : List V) (k : Nat) (sp : Sp) : Prop where
  ex : ∃ (f : Addr) (fd : FuncData) (ds : List Value), mg x = some (.ref f) ∧ PySem.W.keepIn K (.ref f) = true ∧ Binds K fd ps ds ∧ Vals dvs ds ∧ FnOk P w K mg base CX0 k f fd ps sp
section
variable {X : Cx} {k : Nat} {sp : Sp} {ps : List Str} {dvs : List V} {x : Str} {p pos : Pos} {e : Expr} {es : List Expr} {t : TA}
theorem pe_fn (F : Fn X.prog X.w X.K X.mg X.base x ps dvs k sp) (hr : Room k X.A) (hg : Gl X x) (ha : PA X (e :: es) t) (hdb : (x == ("__debug__" : Str)) = false := by decide)
    (he : starEach (e :: es) X.env = (false, eval e X.env) :: starEach es X.env := by rfl) (hpl : (backTo pos (starEach es X.env)).any (·.1) = false := by rfl) : PE X (.Call (.Name x p) (e :: es) [] pos) (tCall sp dvs E0 t) := by
  obtain ⟨f, fd, ds, hm, hk, hb, hd, ok⟩ := F.ex
  exact pe_call ok hr hg hm hk hb hd pass0 ha hdb he hpl
end

/-! ### what is kept beside b -/
def Kp (b : Addr) (H H' : Hp) : Prop := ∀ a o, a ≠ b → H a = some o → H' a = some o
theorem Kp.refl {b : Addr} {H : Hp} : Kp b H H := fun _ _ _ h => h
theorem Kp.trans {b : Addr} {H H1 H2 : Hp} (h : Kp b H H1) (k : Kp b H1 H2) : Kp b H H2 := fun a o n e => k a o n (h a o n e)
theorem Kp.upd {b : Addr} {H : Hp} {o : HO} : Kp b H (upd H b o) := fun a u n e => by
  rw [upd_ne n]
  exact e
theorem Kp.new {b p : Addr} {H : Hp} {o : HO} (hp : H p = none) : Kp b H (L2.upd H p o) := fun a u n e => by
  rw [upd_ne (ne_of_none e hp)]
  exact e
theorem Kp.of_same {b : Addr} {H H' : Hp} (h : Same H H') : Kp b H H' := fun a u _ e => h a u e
theorem Kp.free {b p : Addr} {H H' : Hp} (k : Kp b H H') {o u : HO} (hb : H b = some o) (hb' : H' b = some u) (hp : H' p = none) : H p = none := by
  cases q : H p with
  | none => rfl
  | some z =>
    have n : p ≠ b := fun e => by rw [e, hb'] at hp; cases hp
    rw [k p z n q] at hp
    cases hp
theorem lkKp {b a : Addr} {H H' : Hp} {o u : HO} (k : Kp b H H') (h : H a = some o) (hb : H b = some u) (d : o ≠ u) : H' a = some o := k a o (ne_of h hb d) h
theorem lkKn {b a : Addr} {H H' : Hp} {o : HO} (k : Kp b H H') (n : a ≠ b) (h : H a = some o) : H' a = some o := k a o n h
theorem lkSm {a : Addr} {H H' : Hp} {o : HO} (k : Same H H') (h : H a = some o) : H' a = some o := k a o h
theorem sqSame {K : PySem.W.Frag} {a : Addr} {xs : List V} {H H' : Hp} (k : Same H H') (h : SqL K H a xs) : SqL K H' a xs := k.seq h
theorem Kp.trans' {b : Addr} {H H1 H2 : Hp} (h : Same H H1) (k : Kp b H1 H2) : Kp b H H2 := fun a o n e => k a o n (h a o e)
theorem sqKf {K : PySem.W.Frag} {b a : Addr} {xs : List V} {H H' : Hp} (k : Kp b H H') (hb : H b = none) (h : SqL K H a xs) : SqL K H' a xs := by
  rcases h with (h | ⟨o, h⟩) | h
  · exact .inl (.inl (k a _ (ne_of_none h hb) h))
  · exact .inl (.inr ⟨o, k a _ (ne_of_none h hb) h⟩)
  · exact .inr h
theorem Kp.sqT {K : PySem.W.Frag} {b t : Addr} {xs ys : List V} {H H' : Hp} (k : Kp b H H') (hb : H b = some (.lst ys)) (h : SqT K H t xs) : SqT K H' t xs := by
  rcases h with (h | ⟨o, h⟩) | h
  · exact .inl (.inl (k t _ (ne_of h hb (by intro z; cases z)) h))
  · exact .inl (.inr ⟨o, k t _ (ne_of h hb (by intro z; cases z)) h⟩)
  · exact .inr h
theorem Kp.sqL {K : PySem.W.Frag} {b t : Addr} {xs : List V} {H H' : Hp} (k : Kp b H H') (n : t ≠ b) (h : SqL K H t xs) : SqL K H' t xs := by
  rcases h with (h | ⟨o, h⟩) | h
  · exact .inl (.inl (k t _ n h))
  · exact .inl (.inr ⟨o, k t _ n h⟩)
  · exact .inr h
theorem szLe {n : Nat} (h : n ≤ 1000) : n ≤ sizeLine := Nat.le_trans h (by decide)
theorem szLt {n : Nat} (h : n < 1000) : n < sizeLine := Nat.lt_of_lt_of_le h (by decide)
def Kp2 (b l : Addr) (H H' : Hp) : Prop := ∀ a o, a ≠ b → a ≠ l → H a = some o → H' a = some o
theorem Kp2.refl {b l : Addr} {H : Hp} : Kp2 b l H H := fun _ _ _ _ h => h
theorem Kp2.kp {b l : Addr} {H H1 H2 : Hp} (k : Kp2 b l H H1) (h : Kp b H1 H2) : Kp2 b l H H2 := fun a o n m e => h a o n (k a o n m e)
theorem Kp2.set {b l : Addr} {H H1 : Hp} {u : HO} (k : Kp2 b l H H1) : Kp2 b l H (L2.upd H1 l u) := fun a o n m e => by
  rw [upd_ne m]
  exact k a o n m e
theorem freeNew {p q : Addr} {H : Hp} {o : HO} (h : L2.upd H q o p = none) : H p = none := by
  by_cases e : p = q
  · subst e
    rw [upd_same] at h
    cases h
  · rwa [upd_ne e] at h
theorem lkNew {p a : Addr} {H : Hp} {o u : HO} (hp : H p = none) (h : H a = some u) : L2.upd H p o a = some u := by
  rw [upd_ne (ne_of_none h hp)]
  exact h
theorem lkNe {p a : Addr} {H : Hp} {o u : HO} (n : a ≠ p) (h : H a = some u) : L2.upd H p o a = some u := by
  rw [upd_ne n]
  exact h

/-! ### powers of great ints -/
def CPowW (i j : Int) : Prop := 0 ≤ j ∧ (Builtin.Int.intBits i : Int) * j ≤ 2 ^ 27
theorem op_powW {X : Cx} : OpR X (binaryOp .Pow) (rI CPowW fun i j => .int (i ^ j.toNat)) := opI fun _ _ _ _ _ _ _ hc q => PyProof.Rows.pow_int hc.1 hc.2 q
theorem powW_ok {i j : Int} (n : Nat) (h0 : 0 ≤ j) (h : i.natAbs < 2 ^ n) (hb : (n : Int) * j ≤ 2 ^ 27) : CPowW i j := by
  refine ⟨h0, Int.le_trans (Int.mul_le_mul_of_nonneg_right ?_ h0) hb⟩
  have := PyProof.Rows.intBits_le h
  omega

/-! ### own operators -/
structure Own (K : PySem.W.Frag) (C : Addr) (m : Str) (f : Addr) : Prop where
  find : PySem.W.findIn K (.ref C) m = some (some (.ref f))
  fn : PySem.W.isFn K (.ref f) = true
/-- x in o, by an own __contains__ that gives a truth value -/
def rOwnIn (C : Addr) (sp : Sp) : R2 := fun x y H Q => ∃ a dx fs, y = .ref a ∧ H a = some (.ins C dx fs) ∧ sp [y, x] H (fun v H' => ∃ c, v = .bl c ∧ Q (.bl c) H') E0
section
variable {X : Cx} {C f : Addr} {fd : FuncData} {ps : List Str} {k : Nat} {sp : Sp}
theorem op_in_own (O : Own X.K C "__contains__" f) (F : FnOk X.prog X.w X.K X.mg X.base CX0 k f fd ps sp) (hr : Room k X.A) (hb : Binds X.K fd ps []) : OpR X (compareOp .In) (rOwnIn C sp) := by
  intro pins s σ H x y v u Q I rx ry h
  obtain ⟨a, dx, fs, rfl, ea, q⟩ := h
  obtain rfl : u = Value.ref a := ry
  obtain ⟨mA, O', _⟩ := ins_get I.hok ea
  obtain ⟨od, J, _⟩ := O'.look
  obtain ⟨m, Fr⟩ := I.fr
  refine PySem.W.in_K Fr I.mod.kin J O.find O.fn ?_
  refine thn (run_fn (us := [.ref a, v]) (vs := [.ref a, x]) F hr hb .nil pass0 I (.cons rfl (.cons rx .nil)) q) fun u' s' hq => ?_
  obtain ⟨v', H', I', rv, hv⟩ := hq
  obtain ⟨b, hb, q'⟩ := hv
  subst hb
  obtain rfl : u' = Value.bool b := rv
  exact wpAny_truthy_bool ⟨.bl b, H', I', rfl, q'⟩
end

/-! ### an own class that is called, a method that is called -/
structure Made (P : Program) (w : World) (K : PySem.W.Frag) (mg : Str → Option Value) (base : Heap) (x : Str) (C : Addr) (ps : List Str) (dvs : List V) (k : Nat) (sp : Sp) : Prop where
  ex : ∃ (f : Addr) (fd : FuncData) (ds : List Value), mg x = some (.ref C) ∧ Mk K C f ∧ Binds K fd ps ds ∧ Vals dvs ds ∧ FnOk P w K mg base CX0 k f fd ps sp
structure Mth (P : Program) (w : World) (K : PySem.W.Frag) (mg : Str → Option Value) (base : Heap) (C : Addr) (m : Str) (ps : List Str) (dvs : List V) (k : Nat) (sp : Sp) : Prop where
  cl : Cls K C
  ex : ∃ (f : Addr) (fd : FuncData) (ds : List Value), Meth K C m f ∧ Binds K fd ps ds ∧ Vals dvs ds ∧ FnOk P w K mg base CX0 k f fd ps sp
structure Opr (P : Program) (w : World) (K : PySem.W.Frag) (mg : Str → Option Value) (base : Heap) (C : Addr) (m : Str) (ps : List Str) (k : Nat) (sp : Sp) : Prop where
  ex : ∃ (f : Addr) (fd : FuncData), Own K C m f ∧ Binds K fd ps [] ∧ FnOk P w K mg base CX0 k f fd ps sp
section
variable {X : Cx} {k : Nat} {sp : Sp} {ps : List Str} {dvs : List V} {C : Addr} {x m : Str} {p pos apos : Pos} {e o : Expr} {es : List Expr} {t : TA} {ta : TE}
theorem pe_mk (F : Made X.prog X.w X.K X.mg X.base x C ps dvs k sp) (hr : Room (k + 1) X.A) (hg : Gl X x) (ha : PA X (e :: es) t) (hdb : (x == ("__debug__" : Str)) = false := by decide)
    (he : starEach (e :: es) X.env = (false, eval e X.env) :: starEach es X.env := by rfl) (hpl : (backTo pos (starEach es X.env)).any (·.1) = false := by rfl) : PE X (.Call (.Name x p) (e :: es) [] pos) (tMake C sp dvs E0 t) := by
  obtain ⟨f, fd, ds, hm, hk, hb, hd, ok⟩ := F.ex
  exact pe_make hk ok hr hg hm hb hd pass0 ha hdb he hpl
theorem pe_mth {pl : Sem Bool} (F : Mth X.prog X.w X.K X.mg X.base C m ps dvs k sp) (he : PE X o ta) (hr : Room k X.A) (ha : PA X (e :: es) t)
    (hst : starEach (e :: es) X.env = (false, eval e X.env) :: starEach es X.env := by rfl) (hpl : (backTo pos (starEach es X.env)).any (·.1) = false := by rfl)
    (ht : eval (.Call (.Attribute o m apos) (e :: es) [] pos) X.env = (do
      let ov ← eval o X.env
      standAt apos.atName
      let (f, first) ← holding [ov] (getMethod ov m pl)
      callWith pos f first (backTo pos (starEach (e :: es) X.env)) (backToKw pos (keywordEach [] X.env))) := by rfl) :
    PE X (.Call (.Attribute o m apos) (e :: es) [] pos) (tMeth C m sp dvs E0 ta t) := by
  obtain ⟨f, fd, ds, hm, hb, hd, ok⟩ := F.ex
  exact pe_meth he F.cl hm ok hr hb hd pass0 ha hst hpl ht
theorem op_in (F : Opr X.prog X.w X.K X.mg X.base C "__contains__" ps k sp) (hr : Room k X.A) : OpR X (compareOp .In) (rOwnIn C sp) := by
  obtain ⟨f, fd, O, hb, ok⟩ := F.ex
  exact op_in_own O ok hr hb
end
theorem rMeth {C : Addr} {m : Str} {sp : Sp} {dvs : List V} {E : XK} {ta : TE} {t : TA} {σ : L2.St} {H : Hp} {Q : VK} (h : ta σ H fun x H1 => ∃ a dx fs, x = .ref a ∧ H1 a = some (.ins C dx fs) ∧ fs.lookup m = none ∧ t σ H1 fun vs H2 => sp (x :: (vs ++ dvs)) H2 Q E) :
  tMeth C m sp dvs E ta t σ H Q := h
theorem lkMut {p a : Addr} {H : Hp} {o u o' : HO} (h : H a = some u) (hp : H p = some o') (d : u ≠ o') : L2.upd H p o a = some u := lkNe (ne_of h hp d) h
def rInt : List V → Hp → VK → Prop := fun xs H Q => (∃ i, xs = [.int i] ∧ Q (.int i) H) ∨ ∃ k : Bool, xs = [.bl k] ∧ Q (.int (if k then 1 else 0)) H
theorem c_int {X : Cx} : CallR X (.type "int") rInt := call_int1
theorem rInt_ {i : Int} {H : Hp} {Q : VK} (h : Q (.int i) H) : rInt [.int i] H Q := Or.inl ⟨i, rfl, h⟩
def rAbs : List V → Hp → VK → Prop := fun xs H Q => ∃ i, xs = [.int i] ∧ Q (.int (if i < 0 then -i else i)) H
theorem c_abs {X : Cx} : CallR X (.builtin "abs") rAbs := call_abs
theorem rAbs_ {i : Int} {H : Hp} {Q : VK} (h : Q (.int (if i < 0 then -i else i)) H) : rAbs [.int i] H Q := ⟨i, rfl, h⟩
def rStr : List V → Hp → VK → Prop := fun xs H Q => ∃ i : Int, xs = [.int i] ∧ i.natAbs.log2 < 1920 ∧ Q (.str (toString i)) H
theorem c_str {X : Cx} : CallR X (.type "str") rStr := call_str_int
theorem rStr_ {i : Int} {H : Hp} {Q : VK} (l : i.natAbs.log2 < 1920) (h : Q (.str (toString i)) H) : rStr [.int i] H Q := ⟨i, rfl, l, h⟩
def rLenStr : List V → Hp → VK → Prop := fun xs H Q => ∃ z : Str, xs = [.str z] ∧ z.length ≤ sizeLine ∧ Q (.int z.length) H
theorem c_lenStr {X : Cx} : CallR X (.builtin "len") rLenStr := call_len_str
theorem rLenStr_ {z : Str} {H : Hp} {Q : VK} (l : z.length ≤ sizeLine) (h : Q (.int z.length) H) : rLenStr [.str z] H Q := ⟨z, rfl, l, h⟩
def rLen (K : PySem.W.Frag) : List V → Hp → VK → Prop := fun xs H Q => ∃ p ys, xs = [.ref p] ∧ (SqL K H p ys ∨ SqT K H p ys) ∧ Q (.int ys.length) H
theorem c_len {X : Cx} : CallR X (.builtin "len") (rLen X.K) := call_len_seq
theorem rLenL {K : PySem.W.Frag} {a : Addr} {ys : List V} {H : Hp} {Q : VK} (h1 : SqL K H a ys) (h : Q (.int ys.length) H) : rLen K [.ref a] H Q := ⟨a, ys, rfl, Or.inl h1, h⟩
theorem rLenT {K : PySem.W.Frag} {a : Addr} {ys : List V} {H : Hp} {Q : VK} (h1 : SqT K H a ys) (h : Q (.int ys.length) H) : rLen K [.ref a] H Q := ⟨a, ys, rfl, Or.inr h1, h⟩
theorem rSub {to ti : TE} {t : TSet} {v : V} {σ : L2.St} {H : Hp} {Q : L2.St → Hp → Prop} (h : to σ H fun o H1 => ti σ H1 fun i H2 => t o i v H2 fun H3 => Q σ H3) : gSub to ti t v σ H Q := h
theorem rSetL_ {a : Addr} {xs : List V} {k : Int} {j : Nat} {v : V} {H : Hp} {Q : Hp → Prop} (h1 : H a = some (.lst xs)) (h2 : ixN xs.length k = some j) (h : Q (upd H a (.lst (xs.set j v)))) : rSetL (.ref a) (.int k) v H Q := ⟨a, xs, k, j, rfl, rfl, h1, h2, h⟩
theorem rAppend_ {a : Addr} {xs : List V} {y : V} {H : Hp} {Q : VK} (h1 : H a = some (.lst xs)) (l : xs.length < sizeLine) (h : Q .non (upd H a (.lst (xs ++ [y])))) : rAppend (.ref a) [y] H Q := ⟨a, xs, y, rfl, rfl, h1, l, h⟩
theorem rBM {K : PySem.W.Frag} {T : String} {r : V → List V → Hp → VK → Prop} {to : TE} {t : TA} {σ : L2.St} {H : Hp} {Q : VK} (h : to σ H fun x H1 => tyV K T x H1 ∧ t σ H1 fun xs H2 => r x xs H2 Q) : tBM K T r to t σ H Q := h
theorem tyL {K : PySem.W.Frag} {a : Addr} {xs : List V} {H : Hp} {R : Prop} (h1 : SqL K H a xs) (h : R) : tyV K "list" (.ref a) H ∧ R := ⟨Or.inl ⟨rfl, _, h1⟩, h⟩
theorem sqW (x : Int) {m : Int} (h0 : 0 < m) (h : m ≤ 2147483647) : CMulW (x % m) (x % m) := by
  have h1 := Int.emod_nonneg x (Int.ne_of_gt h0)
  have h2 := Int.emod_lt_of_pos x h0
  have h3 : (x % m).natAbs < 2 ^ 31 := by omega
  exact wide_mul h3 h3 (by decide) (by decide) (by decide)
theorem rSl {r : V → Option Int → Option Int → Hp → VK → Prop} {te : TE} {tl th : TO} {σ : L2.St} {H : Hp} {Q : VK} (h : te σ H fun x H1 => tl σ H1 fun l H2 => th σ H2 fun u H3 => r x l u H3 Q) : tSl r te tl th σ H Q := h
theorem rNoPart {σ : L2.St} {H : Hp} {Q : Option Int → Hp → Prop} (h : Q none H) : tNoPart σ H Q := h
theorem rPart {t : TE} {σ : L2.St} {H : Hp} {Q : Option Int → Hp → Prop} (h : t σ H fun x H1 => ∃ i, x = .int i ∧ Q (some i) H1) : tPart t σ H Q := h
theorem rInI {i : Int} {R : Int → Prop} (h : R i) : ∃ j, V.int i = .int j ∧ R j := ⟨i, rfl, h⟩
theorem rSlL_ {K : PySem.W.Frag} {a : Addr} {xs : List V} {lo hi : Option Int} {H : Hp} {Q : VK} (h1 : SqL K H a xs) (h : ∀ p, H p = none → Q (.ref p) (upd H p (.lst (cutV xs lo hi)))) : rSlL K (.ref a) lo hi H Q := ⟨a, xs, rfl, h1, h⟩
theorem cut_mem {xs : List V} {lo hi : Option Int} {v : V} (h : v ∈ cutV xs lo hi) : v ∈ xs := List.mem_of_mem_drop (List.mem_of_mem_take h)
theorem cut_int {ns : List Int} {lo hi : Option Int} {i : Nat} {v : V} (h : (cutV (ns.map V.int) lo hi)[i]? = some v) : ∃ u, v = .int u := by
  have h1 := cut_mem (List.mem_of_getElem? h)
  obtain ⟨u, _, e⟩ := List.mem_map.mp h1
  exact ⟨u, e.symm⟩
theorem at_map {ns : List Int} {j : Nat} (h : j < ns.length) : atI (ns.map V.int) (j : Int) = some (.int ns[j]) := atI_nat (by
  rw [List.getElem?_map, List.getElem?_eq_getElem h]
  rfl)
/-! ### loops -/
section
variable {σ : L2.St} {H : Hp} {D : Ends} {g : TG} {tb : TS} {K : PySem.W.Frag}
theorem rFor {wi : TI} (h : wi σ H fun J H1 => ∃ W : Nat → Nat → L2.St → Hp → Prop, (∃ m, W 0 m σ H1) ∧ ∀ i m σ H, W i m σ H →
  (J.stop i H ∧ D.nx σ H) ∨ (J.go i H ∧ ∃ N : L2.St → Hp → Prop, (∀ σ' H', N σ' H' → ∃ m', m' < m ∧ W (i + 1) m' σ' H') ∧ ∀ x H', J.yld i H x H' → g x σ H' fun σ2 H2 => tb { D with nx := N, ct := N, bk := D.nx } σ2 H2)) : tFor wi g tb D σ H := h
theorem rRng1 {ta : TA} {R : It → Hp → Prop} (h : ta σ H fun vs H1 => ∃ j : Int, vs = [.int j] ∧ -(2 ^ 62) ≤ j ∧ j < 2 ^ 62 ∧ R (Itr 0 j.toNat) H1) : iRng1 ta σ H R := h
theorem rRng2 {ta : TA} {R : It → Hp → Prop} (h : ta σ H fun vs H1 => ∃ i j : Int, vs = [.int i, .int j] ∧ (-(2 ^ 62) ≤ i ∧ i < 2 ^ 62 ∧ -(2 ^ 62) ≤ j ∧ j < 2 ^ 62) ∧ R (Itr i (j - i).toNat) H1) : iRng2 ta σ H R := h
theorem rLst1 {tl : TE} {R : It → Hp → Prop} (h : tl σ H fun x H1 => ∃ a, x = .ref a ∧ (∃ xs, SqL K H1 a xs) ∧ R (Itl K a) H1) : iList K tl σ H R := h
theorem rTup1 {tl : TE} {R : It → Hp → Prop} (h : tl σ H fun x H1 => ∃ a, x = .ref a ∧ (∃ xs, SqT K H1 a xs) ∧ R (Itt K a) H1) : iTup K tl σ H R := h
/-- a loop over range(j), the turn's number an int -/
theorem forR {j : Int} (n : Nat) (e : j.toNat = n) (Pv : Nat → L2.St → Hp → Prop) (b : -(2 ^ 62) ≤ j ∧ j < 2 ^ 62) (h0 : Pv 0 σ H)
    (hs : ∀ i σ H, i < n → Pv i σ H → g (.int (i : Int)) σ H fun σ2 H2 => tb ⟨Pv (i + 1), D.rt, D.nx, Pv (i + 1)⟩ σ2 H2) (hd : ∀ σ H, Pv n σ H → D.nx σ H) :
    ∃ j', [V.int j] = [V.int j'] ∧ -(2 ^ 62) ≤ j' ∧ j' < 2 ^ 62 ∧ ∃ W : Nat → Nat → L2.St → Hp → Prop, (∃ m, W 0 m σ H) ∧ ∀ i m σ H, W i m σ H →
      ((Itr 0 j'.toNat).stop i H ∧ D.nx σ H) ∨ ((Itr 0 j'.toNat).go i H ∧ ∃ N : L2.St → Hp → Prop, (∀ σ' H', N σ' H' → ∃ m', m' < m ∧ W (i + 1) m' σ' H') ∧ ∀ x H', (Itr 0 j'.toNat).yld i H x H' → g x σ H' fun σ2 H2 => tb { D with nx := N, ct := N, bk := D.nx } σ2 H2) := by
  subst e
  refine ⟨j, rfl, b.1, b.2, for_range (lo := 0) (n := j.toNat) Pv h0 (fun i σ H hi p => ?_) hd⟩
  have e : (0 : Int) + (i : Int) = (i : Int) := Int.zero_add _
  rw [e]
  exact hs i σ H hi p
/-- a loop over a list that stands still -/
theorem forL {a : Addr} {xs : List V} (Pv : Nat → L2.St → Hp → Prop) (hx : SqL K H a xs) (h0 : Pv 0 σ H) (hl : ∀ i σ H, i ≤ xs.length → Pv i σ H → SqL K H a xs)
    (hs : ∀ i x σ H, xs[i]? = some x → Pv i σ H → g x σ H fun σ2 H2 => tb ⟨Pv (i + 1), D.rt, D.nx, Pv (i + 1)⟩ σ2 H2) (hd : ∀ σ H, Pv xs.length σ H → D.nx σ H) :
    ∃ a', V.ref a = V.ref a' ∧ (∃ xs, SqL K H a' xs) ∧ ∃ W : Nat → Nat → L2.St → Hp → Prop, (∃ m, W 0 m σ H) ∧ ∀ i m σ H, W i m σ H →
      ((Itl K a').stop i H ∧ D.nx σ H) ∨ ((Itl K a').go i H ∧ ∃ N : L2.St → Hp → Prop, (∀ σ' H', N σ' H' → ∃ m', m' < m ∧ W (i + 1) m' σ' H') ∧ ∀ x H', (Itl K a').yld i H x H' → g x σ H' fun σ2 H2 => tb { D with nx := N, ct := N, bk := D.nx } σ2 H2) :=
  ⟨a, rfl, ⟨xs, hx⟩, for_list Pv h0 hl hs hd⟩
theorem forT {a : Addr} {xs : List V} (Pv : Nat → L2.St → Hp → Prop) (hx : SqT K H a xs) (h0 : Pv 0 σ H) (hl : ∀ i σ H, i ≤ xs.length → Pv i σ H → SqT K H a xs)
    (hs : ∀ i x σ H, xs[i]? = some x → Pv i σ H → g x σ H fun σ2 H2 => tb ⟨Pv (i + 1), D.rt, D.nx, Pv (i + 1)⟩ σ2 H2) (hd : ∀ σ H, Pv xs.length σ H → D.nx σ H) :
    ∃ a', V.ref a = V.ref a' ∧ (∃ xs, SqT K H a' xs) ∧ ∃ W : Nat → Nat → L2.St → Hp → Prop, (∃ m, W 0 m σ H) ∧ ∀ i m σ H, W i m σ H →
      ((Itt K a').stop i H ∧ D.nx σ H) ∨ ((Itt K a').go i H ∧ ∃ N : L2.St → Hp → Prop, (∀ σ' H', N σ' H' → ∃ m', m' < m ∧ W (i + 1) m' σ' H') ∧ ∀ x H', (Itt K a').yld i H x H' → g x σ H' fun σ2 H2 => tb { D with nx := N, ct := N, bk := D.nx } σ2 H2) :=
  ⟨a, rfl, ⟨xs, hx⟩, for_tup Pv h0 hl hs hd⟩
end
/-! ### isinstance, is None -/
theorem kit_int_int : kitB "int" "int" = some true := by decide +kernel
theorem kit_int_bool : kitB "int" "bool" = some false := by decide +kernel
theorem kit_int_str : kitB "int" "str" = some false := by decide +kernel
theorem kit_int_list : kitB "int" "list" = some false := by decide +kernel
theorem kit_int_tuple : kitB "int" "tuple" = some false := by decide +kernel
theorem kit_bool_int : kitB "bool" "int" = some true := by decide +kernel
theorem kit_bool_bool : kitB "bool" "bool" = some true := by decide +kernel
theorem kit_bool_str : kitB "bool" "str" = some false := by decide +kernel
theorem kit_bool_list : kitB "bool" "list" = some false := by decide +kernel
theorem kit_bool_tuple : kitB "bool" "tuple" = some false := by decide +kernel
theorem kit_str_int : kitB "str" "int" = some false := by decide +kernel
theorem kit_str_bool : kitB "str" "bool" = some false := by decide +kernel
theorem kit_str_str : kitB "str" "str" = some true := by decide +kernel
theorem kit_str_list : kitB "str" "list" = some false := by decide +kernel
theorem kit_str_tuple : kitB "str" "tuple" = some false := by decide +kernel
theorem kit_list_int : kitB "list" "int" = some false := by decide +kernel
theorem kit_list_bool : kitB "list" "bool" = some false := by decide +kernel
theorem kit_list_str : kitB "list" "str" = some false := by decide +kernel
theorem kit_list_list : kitB "list" "list" = some true := by decide +kernel
theorem kit_list_tuple : kitB "list" "tuple" = some false := by decide +kernel
theorem kit_tuple_int : kitB "tuple" "int" = some false := by decide +kernel
theorem kit_tuple_bool : kitB "tuple" "bool" = some false := by decide +kernel
theorem kit_tuple_str : kitB "tuple" "str" = some false := by decide +kernel
theorem kit_tuple_list : kitB "tuple" "list" = some false := by decide +kernel
theorem kit_tuple_tuple : kitB "tuple" "tuple" = some true := by decide +kernel
theorem kit_NoneType_int : kitB "NoneType" "int" = some false := by decide +kernel
theorem kit_NoneType_bool : kitB "NoneType" "bool" = some false := by decide +kernel
theorem kit_NoneType_str : kitB "NoneType" "str" = some false := by decide +kernel
theorem kit_NoneType_list : kitB "NoneType" "list" = some false := by decide +kernel
theorem kit_NoneType_tuple : kitB "NoneType" "tuple" = some false := by decide +kernel
section
variable {X : Cx} {K : PySem.W.Frag} {H : Hp} {Q : VK} {b : String} {r : Bool} {σ : L2.St}
theorem isiTy {x : V} {a : String} (t : TyX K H x (.type a)) (h : kitB a b = some r) (q : Q (.bl r) H) : rIsi K [x, .ty b] H Q := ⟨x, .ty b, _, _, r, rfl, .ty b, t, kit_ty h, q⟩
theorem isiI {i : Int} (h : kitB "int" b = some r) (q : Q (.bl r) H) : rIsi K [.int i, .ty b] H Q := isiTy (.base (.int i)) h q
theorem isiB {i : Bool} (h : kitB "bool" b = some r) (q : Q (.bl r) H) : rIsi K [.bl i, .ty b] H Q := isiTy (.base (.bl i)) h q
theorem isiS {i : Str} (h : kitB "str" b = some r) (q : Q (.bl r) H) : rIsi K [.str i, .ty b] H Q := isiTy (.base (.str i)) h q
theorem isiN (h : kitB "NoneType" b = some r) (q : Q (.bl r) H) : rIsi K [.non, .ty b] H Q := isiTy (.base .non) h q
theorem isiL {a : Addr} {xs : List V} (e : H a = some (.lst xs)) (h : kitB "list" b = some r) (q : Q (.bl r) H) : rIsi K [.ref a, .ty b] H Q := isiTy (.base (.lst e)) h q
theorem isiT {a : Addr} {xs : List V} (e : H a = some (.tup xs)) (h : kitB "tuple" b = some r) (q : Q (.bl r) H) : rIsi K [.ref a, .ty b] H Q := isiTy (.base (.tup e)) h q
def rIsNone : R2 := fun x y H Q => y = .non ∧ Q (.bl (decide (x = .non))) H
def rNotNone : R2 := fun x y H Q => y = .non ∧ Q (.bl (!decide (x = .non))) H
theorem o_isN : OpR X (compareOp .Is) rIsNone := op_isN
theorem o_notN : OpR X (compareOp .IsNot) rNotNone := op_notN
theorem rIsN_n (q : Q (.bl true) H) : rIsNone .non .non H Q := ⟨rfl, q⟩
theorem rIsN_i {i : Int} (q : Q (.bl false) H) : rIsNone (.int i) .non H Q := ⟨rfl, q⟩
theorem rIsN_b {i : Bool} (q : Q (.bl false) H) : rIsNone (.bl i) .non H Q := ⟨rfl, q⟩
theorem rIsN_s {i : Str} (q : Q (.bl false) H) : rIsNone (.str i) .non H Q := ⟨rfl, q⟩
theorem rIsN_r {i : Addr} (q : Q (.bl false) H) : rIsNone (.ref i) .non H Q := ⟨rfl, q⟩
theorem rNoN_n (q : Q (.bl false) H) : rNotNone .non .non H Q := ⟨rfl, q⟩
theorem rNoN_i {i : Int} (q : Q (.bl true) H) : rNotNone (.int i) .non H Q := ⟨rfl, q⟩
theorem rNoN_b {i : Bool} (q : Q (.bl true) H) : rNotNone (.bl i) .non H Q := ⟨rfl, q⟩
theorem rNoN_s {i : Str} (q : Q (.bl true) H) : rNotNone (.str i) .non H Q := ⟨rfl, q⟩
theorem rNoN_r {i : Addr} (q : Q (.bl true) H) : rNotNone (.ref i) .non H Q := ⟨rfl, q⟩
theorem rIxSL {a : Addr} {xs : List V} {i : Int} {v : V} (h1 : H a = some (.lst xs)) (h2 : atI xs i = some v) (h : Q v H) : rIx K (.ref a) (.int i) H Q := .inl ⟨a, xs, i, v, rfl, rfl, SqL.of h1, h2, h⟩
theorem rIxST {a : Addr} {xs : List V} {i : Int} {v : V} (h1 : H a = some (.tup xs)) (h2 : atI xs i = some v) (h : Q v H) : rIx K (.ref a) (.int i) H Q := .inr (.inl ⟨a, xs, i, v, rfl, rfl, SqT.of h1, h2, h⟩)
theorem rEqS {s : Str} (q : Q (.bl true) H) : rEq (.str s) (.str s) H Q := ⟨rfl, by
  rw [decide_eq_true rfl]
  exact q⟩
theorem fn_false {P : Program} {w : World} {mg : Str → Option Value} {base : Heap} {k : Nat} {f : Addr} {fd : FuncData} {ps : List Str} {sp : Sp} (h : ∀ vs H Q E, ¬ sp vs H Q E) : FnOk P w K mg base CX0 k f fd ps sp :=
  ⟨fun _ _ _ _ q => (h _ _ _ _ q).elim, fun _ _ _ _ _ _ _ _ _ _ _ _ _ q => (h _ _ _ _ q).elim⟩
end
/-! ### the steps that ask nothing, found by their form -/
class Rd (p : Prop) (q : outParam Prop) : Prop where
  imp : q → p
theorem rd {p q : Prop} [h : Rd p q] (x : q) : p := h.imp x
/-- what stands in a slot -/
class At (σ : L2.St) (i : Nat) (v : outParam V) : Prop where
  eq : σ[i]? = some (some v)
instance {v : V} {σ : L2.St} : At (some v :: σ) 0 v := ⟨rfl⟩
instance {v : V} {a : Option V} {σ : L2.St} {i : Nat} [h : At σ i v] : At (a :: σ) (i + 1) v := ⟨h.eq⟩
class Put (σ : L2.St) (i : Nat) (v : V) (τ : outParam L2.St) : Prop where
  eq : σ.set i (some v) = τ
instance {v : V} {a : Option V} {σ : L2.St} : Put (a :: σ) 0 v (some v :: σ) := ⟨rfl⟩
instance {v : V} {a : Option V} {σ τ : L2.St} {i : Nat} [h : Put σ i v τ] : Put (a :: σ) (i + 1) v (a :: τ) := ⟨congrArg (List.cons a) h.eq⟩
section
variable {D : Ends} {σ τ : L2.St} {H : Hp} {Q : VK} {QB : Bool → Hp → Prop} {QL : List V → Hp → Prop} {QS : L2.St → Hp → Prop} {QI : It → Hp → Prop} {QO : Option Int → Hp → Prop} {t u : TS} {te ta tb tc : TE} {tt tu : TT} {g : TG} {v x y : V} {i j : Int} {n : Nat} {K : PySem.W.Frag}
instance : Rd (tSeq t u D σ H) (t ⟨u D, D.rt, D.bk, D.ct⟩ σ H) := ⟨fun h => h⟩
instance : Rd (tNext D σ H) (D.nx σ H) := ⟨fun h => h⟩
instance : Rd (tBreak D σ H) (D.bk σ H) := ⟨fun h => h⟩
instance : Rd (tCont D σ H) (D.ct σ H) := ⟨fun h => h⟩
instance {f b c : L2.St → Hp → Prop} {r : VK} : Rd (Ends.nx ⟨f, r, b, c⟩ σ H) (f σ H) := ⟨fun h => h⟩
instance {f b c : L2.St → Hp → Prop} {r : VK} : Rd (Ends.ct ⟨f, r, b, c⟩ σ H) (c σ H) := ⟨fun h => h⟩
instance {f b c : L2.St → Hp → Prop} {r : VK} : Rd (Ends.bk ⟨f, r, b, c⟩ σ H) (b σ H) := ⟨fun h => h⟩
instance {f b c : L2.St → Hp → Prop} {r : VK} : Rd (Ends.rt ⟨f, r, b, c⟩ v H) (r v H) := ⟨fun h => h⟩
instance : Rd (tAsg te g D σ H) (te σ H fun x H1 => g x σ H1 D.nx) := ⟨fun h => h⟩
instance : Rd (tDrop te D σ H) (te σ H fun _ H1 => D.nx σ H1) := ⟨fun h => h⟩
instance : Rd (tRet te D σ H) (te σ H D.rt) := ⟨fun h => h⟩
instance : Rd (tRetN D σ H) (D.rt .non H) := ⟨fun h => h⟩
instance : Rd (tIfS tt t u D σ H) (tt σ H fun b H1 => if b = true then t D σ H1 else u D σ H1) := ⟨fun h => h⟩
instance [h : At σ n v] : Rd (tVar n σ H Q) (Q v H) := ⟨fun q => ⟨v, h.eq, q⟩⟩
instance [h : Put σ n v τ] : Rd (gName n v σ H QS) (QS τ H) := ⟨fun q => by rw [← h.eq] at q; exact q⟩
instance : Rd (tC v σ H Q) (Q v H) := ⟨fun h => h⟩
instance {r : R2} : Rd (tOp r ta tb σ H Q) (ta σ H fun x H1 => tb σ H1 fun y H2 => r x y H2 Q) := ⟨fun h => h⟩
instance {r : V → Hp → VK → Prop} : Rd (tUn r ta σ H Q) (ta σ H fun x H1 => r x H1 Q) := ⟨fun h => h⟩
instance {f : Int → Int → V} : Rd (rI0 f (.int i) (.int j) H Q) (Q (f i j) H) := ⟨rI0_⟩
instance {f : Int → V} : Rd (rU f (.int i) H Q) (Q (f i) H) := ⟨rU_⟩
instance : Rd (rEq (.int i) (.int j) H Q) (Q (.bl (decide (i = j))) H) := ⟨rEqI⟩
instance : Rd (rNe (.int i) (.int j) H Q) (Q (.bl (!decide (i = j))) H) := ⟨rNeI⟩
instance {a b : Bool} : Rd (rEq (.bl a) (.bl b) H Q) (Q (.bl (a == b)) H) := ⟨rEqBl⟩
instance {a b : Bool} : Rd (rNe (.bl a) (.bl b) H Q) (Q (.bl (!(a == b))) H) := ⟨rNeBl⟩
instance {s : Str} : Rd (rEq (.str s) (.str s) H Q) (Q (.bl true) H) := ⟨rEqS⟩
instance : Rd (tTest te σ H QB) (te σ H fun x H' => ∃ k, x = .bl k ∧ QB k H') := ⟨fun h => h⟩
instance : Rd (tB te σ H QB) (te σ H fun x H' => ∃ k, x = .bl k ∧ QB k H') := ⟨fun h => h⟩
instance {b : Bool} {P : Bool → Prop} : Rd (∃ k, V.bl b = .bl k ∧ P k) (P b) := ⟨rBl⟩
instance {P : Int → Prop} : Rd (∃ k, V.int i = .int k ∧ P k) (P i) := ⟨rInI⟩
instance : Rd (tNot tt σ H QB) (tt σ H fun c H1 => QB (!c) H1) := ⟨fun h => h⟩
instance : Rd (tAnd tt tu σ H QB) (tt σ H fun c H1 => if c = true then tu σ H1 QB else QB false H1) := ⟨fun h => h⟩
instance : Rd (tOr tt tu σ H QB) (tt σ H fun c H1 => if c = true then QB true H1 else tu σ H1 QB) := ⟨fun h => h⟩
instance : Rd (tAndV ta tb σ H Q) (ta σ H fun x H1 => ∃ c, x = .bl c ∧ if c = true then tb σ H1 Q else Q (.bl false) H1) := ⟨fun h => h⟩
instance : Rd (tOrV ta tb σ H Q) (ta σ H fun x H1 => ∃ c, x = .bl c ∧ if c = true then Q (.bl true) H1 else tb σ H1 Q) := ⟨fun h => h⟩
instance : Rd (tNotV ta σ H Q) (ta σ H fun x H1 => ∃ c, x = .bl c ∧ Q (.bl (!c)) H1) := ⟨fun h => h⟩
instance : Rd (tIf tt ta tb σ H Q) (tt σ H fun c H1 => if c = true then ta σ H1 Q else tb σ H1 Q) := ⟨fun h => h⟩
instance {r : List V → Hp → VK → Prop} {t : TA} : Rd (tCB r t σ H Q) (t σ H fun vs H1 => r vs H1 Q) := ⟨fun h => h⟩
instance : Rd (tNil σ H QL) (QL [] H) := ⟨fun h => h⟩
instance {t : TA} : Rd (tCons te t σ H QL) (te σ H fun x H1 => t σ H1 fun xs H2 => QL (x :: xs) H2) := ⟨fun h => h⟩
instance {t : TA} : Rd (tTup t σ H Q) (t σ H fun xs H1 => xs.length ≤ sizeLine ∧ ∀ p, H1 p = none → Q (.ref p) (upd H1 p (.tup xs))) := ⟨fun h => h⟩
instance {t : TA} : Rd (tLst t σ H Q) (t σ H fun xs H1 => xs.length ≤ sizeLine ∧ ∀ p, H1 p = none → Q (.ref p) (upd H1 p (.lst xs))) := ⟨fun h => h⟩
instance {sp : Sp} {dvs : List V} {E : XK} {t : TA} : Rd (tCall sp dvs E t σ H Q) (t σ H fun vs H1 => sp (vs ++ dvs) H1 Q E) := ⟨fun h => h⟩
instance {C : Addr} {sp : Sp} {dvs : List V} {E : XK} {t : TA} : Rd (tMake C sp dvs E t σ H Q) (t σ H fun vs H1 => ∀ x dx, H1 x = none → H1 dx = none → dx ≠ x → sp (.ref x :: (vs ++ dvs)) (upd (upd H1 dx (.own x)) x (.ins C dx [])) (fun v H2 => v = .non ∧ Q (.ref x) H2) E) := ⟨fun h => h⟩
instance {C : Addr} {m : Str} {sp : Sp} {dvs : List V} {E : XK} {t : TA} : Rd (tMeth C m sp dvs E ta t σ H Q) (ta σ H fun x H1 => ∃ a dx fs, x = .ref a ∧ H1 a = some (.ins C dx fs) ∧ fs.lookup m = none ∧ t σ H1 fun vs H2 => sp (x :: (vs ++ dvs)) H2 Q E) := ⟨fun h => h⟩
instance {f : Str} : Rd (tFld K te f σ H Q) (te σ H fun x H1 => ∃ a C dx fs v, x = .ref a ∧ H1 a = some (.ins C dx fs) ∧ Cls K C ∧ NoAttr K C f ∧ fs.lookup f = some v ∧ Q v H1) := ⟨fun h => h⟩
instance {f : Str} : Rd (sFld K ta te f D σ H) (te σ H fun y H1 => ta σ H1 fun x H2 => ∃ a C dx fs, x = .ref a ∧ H2 a = some (.ins C dx fs) ∧ Cls K C ∧ NoAttr K C f ∧ fs.length < 1000 ∧ D.nx σ (upd H2 a (.ins C dx (putF f y fs)))) := ⟨fun h => h⟩
instance {r r' : R2} : Rd (tChain r r' ta tb tc σ H Q) (ta σ H fun x H1 => tb σ H1 fun y H2 => r x y H2 fun z H3 => ∃ k, z = .bl k ∧ (if k = true then tc σ H3 fun w' H4 => r' y w' H4 Q else Q (.bl false) H3)) := ⟨fun h => h⟩
instance : Rd (rInt [.int i] H Q) (Q (.int i) H) := ⟨rInt_⟩
instance : Rd (rAbs [.int i] H Q) (Q (.int (if i < 0 then -i else i)) H) := ⟨rAbs_⟩
instance {to ti : TE} {t : TSet} : Rd (gSub to ti t v σ H QS) (to σ H fun o H1 => ti σ H1 fun i H2 => t o i v H2 fun H3 => QS σ H3) := ⟨fun h => h⟩
instance {T : String} {r : V → List V → Hp → VK → Prop} {to : TE} {t : TA} : Rd (tBM K T r to t σ H Q) (to σ H fun x H1 => tyV K T x H1 ∧ t σ H1 fun xs H2 => r x xs H2 Q) := ⟨fun h => h⟩
instance {T : String} {r : V → List V → Hp → VK → Prop} {to : TE} : Rd (tBM0 K T r to σ H Q) (to σ H fun x H1 => tyV K T x H1 ∧ r x [] H1 Q) := ⟨fun h => h⟩
instance {r : V → Option Int → Option Int → Hp → VK → Prop} {tl th : TO} : Rd (tSl r te tl th σ H Q) (te σ H fun x H1 => tl σ H1 fun l H2 => th σ H2 fun u H3 => r x l u H3 Q) := ⟨fun h => h⟩
instance : Rd (tNoPart σ H QO) (QO none H) := ⟨fun h => h⟩
instance : Rd (tPart te σ H QO) (te σ H fun x H1 => ∃ i, x = .int i ∧ QO (some i) H1) := ⟨fun h => h⟩
instance {wi : TI} : Rd (tFor wi g t D σ H) (wi σ H fun J H1 => ∃ W : Nat → Nat → L2.St → Hp → Prop, (∃ m, W 0 m σ H1) ∧ ∀ i m σ H, W i m σ H →
  (J.stop i H ∧ D.nx σ H) ∨ (J.go i H ∧ ∃ N : L2.St → Hp → Prop, (∀ σ' H', N σ' H' → ∃ m', m' < m ∧ W (i + 1) m' σ' H') ∧ ∀ x H', J.yld i H x H' → g x σ H' fun σ2 H2 => t { D with nx := N, ct := N, bk := D.nx } σ2 H2)) := ⟨fun h => h⟩
instance {ta : TA} : Rd (iRng1 ta σ H QI) (ta σ H fun vs H1 => ∃ j : Int, vs = [.int j] ∧ -(2 ^ 62) ≤ j ∧ j < 2 ^ 62 ∧ QI (Itr 0 j.toNat) H1) := ⟨fun h => h⟩
instance {ta : TA} : Rd (iRng2 ta σ H QI) (ta σ H fun vs H1 => ∃ i j : Int, vs = [.int i, .int j] ∧ (-(2 ^ 62) ≤ i ∧ i < 2 ^ 62 ∧ -(2 ^ 62) ≤ j ∧ j < 2 ^ 62) ∧ QI (Itr i (j - i).toNat) H1) := ⟨fun h => h⟩
instance : Rd (iList K te σ H QI) (te σ H fun x H1 => ∃ a, x = .ref a ∧ (∃ xs, SqL K H1 a xs) ∧ QI (Itl K a) H1) := ⟨fun h => h⟩
instance : Rd (iTup K te σ H QI) (te σ H fun x H1 => ∃ a, x = .ref a ∧ (∃ xs, SqT K H1 a xs) ∧ QI (Itt K a) H1) := ⟨fun h => h⟩
instance : Rd (rIsNone .non .non H Q) (Q (.bl true) H) := ⟨rIsN_n⟩
instance : Rd (rIsNone (.int i) .non H Q) (Q (.bl false) H) := ⟨rIsN_i⟩
instance {b : Bool} : Rd (rIsNone (.bl b) .non H Q) (Q (.bl false) H) := ⟨rIsN_b⟩
instance {b : Str} : Rd (rIsNone (.str b) .non H Q) (Q (.bl false) H) := ⟨rIsN_s⟩
instance {b : Addr} : Rd (rIsNone (.ref b) .non H Q) (Q (.bl false) H) := ⟨rIsN_r⟩
instance : Rd (rNotNone .non .non H Q) (Q (.bl false) H) := ⟨rNoN_n⟩
instance : Rd (rNotNone (.int i) .non H Q) (Q (.bl true) H) := ⟨rNoN_i⟩
instance {b : Bool} : Rd (rNotNone (.bl b) .non H Q) (Q (.bl true) H) := ⟨rNoN_b⟩
instance {b : Str} : Rd (rNotNone (.str b) .non H Q) (Q (.bl true) H) := ⟨rNoN_s⟩
instance {b : Addr} : Rd (rNotNone (.ref b) .non H Q) (Q (.bl true) H) := ⟨rNoN_r⟩
instance : Rd (rIsi K [.int i, .ty "int"] H Q) (Q (.bl true) H) := ⟨isiI kit_int_int⟩
instance : Rd (rIsi K [.int i, .ty "bool"] H Q) (Q (.bl false) H) := ⟨isiI kit_int_bool⟩
instance : Rd (rIsi K [.int i, .ty "str"] H Q) (Q (.bl false) H) := ⟨isiI kit_int_str⟩
instance : Rd (rIsi K [.int i, .ty "list"] H Q) (Q (.bl false) H) := ⟨isiI kit_int_list⟩
instance : Rd (rIsi K [.int i, .ty "tuple"] H Q) (Q (.bl false) H) := ⟨isiI kit_int_tuple⟩
instance {bb : Bool} : Rd (rIsi K [.bl bb, .ty "int"] H Q) (Q (.bl true) H) := ⟨isiB kit_bool_int⟩
instance {bb : Bool} : Rd (rIsi K [.bl bb, .ty "bool"] H Q) (Q (.bl true) H) := ⟨isiB kit_bool_bool⟩
instance {bb : Bool} : Rd (rIsi K [.bl bb, .ty "str"] H Q) (Q (.bl false) H) := ⟨isiB kit_bool_str⟩
instance {bb : Bool} : Rd (rIsi K [.bl bb, .ty "list"] H Q) (Q (.bl false) H) := ⟨isiB kit_bool_list⟩
instance {bb : Bool} : Rd (rIsi K [.bl bb, .ty "tuple"] H Q) (Q (.bl false) H) := ⟨isiB kit_bool_tuple⟩
instance {ss : Str} : Rd (rIsi K [.str ss, .ty "int"] H Q) (Q (.bl false) H) := ⟨isiS kit_str_int⟩
instance {ss : Str} : Rd (rIsi K [.str ss, .ty "bool"] H Q) (Q (.bl false) H) := ⟨isiS kit_str_bool⟩
instance {ss : Str} : Rd (rIsi K [.str ss, .ty "str"] H Q) (Q (.bl true) H) := ⟨isiS kit_str_str⟩
instance {ss : Str} : Rd (rIsi K [.str ss, .ty "list"] H Q) (Q (.bl false) H) := ⟨isiS kit_str_list⟩
instance {ss : Str} : Rd (rIsi K [.str ss, .ty "tuple"] H Q) (Q (.bl false) H) := ⟨isiS kit_str_tuple⟩
instance : Rd (rIsi K [.non, .ty "int"] H Q) (Q (.bl false) H) := ⟨isiN kit_NoneType_int⟩
instance : Rd (rIsi K [.non, .ty "bool"] H Q) (Q (.bl false) H) := ⟨isiN kit_NoneType_bool⟩
instance : Rd (rIsi K [.non, .ty "str"] H Q) (Q (.bl false) H) := ⟨isiN kit_NoneType_str⟩
instance : Rd (rIsi K [.non, .ty "list"] H Q) (Q (.bl false) H) := ⟨isiN kit_NoneType_list⟩
instance : Rd (rIsi K [.non, .ty "tuple"] H Q) (Q (.bl false) H) := ⟨isiN kit_NoneType_tuple⟩
theorem iteLit : True := trivial
instance {A B : Prop} {d : Decidable ((true) = true)} : Rd (@ite Prop ((true) = true) d A B) A := ⟨fun h => by rw [if_pos (show _ from by first | rfl | (intro z; cases z))]; exact h⟩
instance {A B : Prop} {d : Decidable ((false) = true)} : Rd (@ite Prop ((false) = true) d A B) B := ⟨fun h => by rw [if_neg (show _ from by first | rfl | (intro z; cases z))]; exact h⟩
instance {A B : Prop} {d : Decidable ((!true) = true)} : Rd (@ite Prop ((!true) = true) d A B) B := ⟨fun h => by rw [if_neg (show _ from by first | rfl | (intro z; cases z))]; exact h⟩
instance {A B : Prop} {d : Decidable ((!false) = true)} : Rd (@ite Prop ((!false) = true) d A B) A := ⟨fun h => by rw [if_pos (show _ from by first | rfl | (intro z; cases z))]; exact h⟩
instance {A B : Prop} {d : Decidable ((true == true) = true)} : Rd (@ite Prop ((true == true) = true) d A B) A := ⟨fun h => by rw [if_pos (show _ from by first | rfl | (intro z; cases z))]; exact h⟩
instance {A B : Prop} {d : Decidable ((!(true == true)) = true)} : Rd (@ite Prop ((!(true == true)) = true) d A B) B := ⟨fun h => by rw [if_neg (show _ from by first | rfl | (intro z; cases z))]; exact h⟩
instance {A B : Prop} {d : Decidable ((true == false) = true)} : Rd (@ite Prop ((true == false) = true) d A B) B := ⟨fun h => by rw [if_neg (show _ from by first | rfl | (intro z; cases z))]; exact h⟩
instance {A B : Prop} {d : Decidable ((!(true == false)) = true)} : Rd (@ite Prop ((!(true == false)) = true) d A B) A := ⟨fun h => by rw [if_pos (show _ from by first | rfl | (intro z; cases z))]; exact h⟩
instance {A B : Prop} {d : Decidable ((false == true) = true)} : Rd (@ite Prop ((false == true) = true) d A B) B := ⟨fun h => by rw [if_neg (show _ from by first | rfl | (intro z; cases z))]; exact h⟩
instance {A B : Prop} {d : Decidable ((!(false == true)) = true)} : Rd (@ite Prop ((!(false == true)) = true) d A B) A := ⟨fun h => by rw [if_pos (show _ from by first | rfl | (intro z; cases z))]; exact h⟩
instance {A B : Prop} {d : Decidable ((false == false) = true)} : Rd (@ite Prop ((false == false) = true) d A B) A := ⟨fun h => by rw [if_pos (show _ from by first | rfl | (intro z; cases z))]; exact h⟩
instance {A B : Prop} {d : Decidable ((!(false == false)) = true)} : Rd (@ite Prop ((!(false == false)) = true) d A B) B := ⟨fun h => by rw [if_neg (show _ from by first | rfl | (intro z; cases z))]; exact h⟩
end
end Bar

namespace Bar
open PySem PySem.W PySem.Calls PyProof.Rows
section
variable {prog : Program} {w : World} {A : Around} {E : Value → Shared → Prop} {s : Shared} {i : Int} {t : Tok} {x : Addr} {ob : Obj} {Q : Value → Shared → Prop}
theorem int_no_floordiv (hx : s.heap.get? x = some ob) (hd : ob.data = .plain) (h : Q .notImplemented s) : wpAny (model prog w) A (call (.builtin "int.__floordiv__") [.int i t, .ref x]) Q E s := by
  refine GQ.call_here PySem.F.slot_int_floordiv (typeIs_int _ _ _) PySem.F.entry_int_floordiv (PySem.F.args_int_floordiv_2 _ _) ?_
  obtain ⟨hp, g, d, tk, os⟩ := s
  obtain ⟨c, dd, dt, sl⟩ := ob
  simp only at hd
  subst hd
  wp_walk using AutoSeq1.wpAny_loadPart' hx
  exact h
theorem int_no_mod (hx : s.heap.get? x = some ob) (hd : ob.data = .plain) (h : Q .notImplemented s) : wpAny (model prog w) A (call (.builtin "int.__mod__") [.int i t, .ref x]) Q E s := by
  refine GQ.call_here PySem.F.slot_int_mod (typeIs_int _ _ _) PySem.F.entry_int_mod (PySem.F.args_int_mod_2 _ _) ?_
  obtain ⟨hp, g, d, tk, os⟩ := s
  obtain ⟨c, dd, dt, sl⟩ := ob
  simp only at hd
  subst hd
  wp_walk using AutoSeq1.wpAny_loadPart' hx
  exact h
theorem int_no_add (hx : s.heap.get? x = some ob) (hd : ob.data = .plain) (h : Q .notImplemented s) : wpAny (model prog w) A (call (.builtin "int.__add__") [.int i t, .ref x]) Q E s := by
  refine GQ.call_here PySem.F.slot_int_add (typeIs_int _ _ _) PySem.F.entry_int_add (PySem.F.args_int_add_2 _ _) ?_
  obtain ⟨hp, g, d, tk, os⟩ := s
  obtain ⟨c, dd, dt, sl⟩ := ob
  simp only at hd
  subst hd
  wp_walk using AutoSeq1.wpAny_loadPart' hx
  exact h
theorem int_no_mul (hx : s.heap.get? x = some ob) (hd : ob.data = .plain) (h : Q .notImplemented s) : wpAny (model prog w) A (call (.builtin "int.__mul__") [.int i t, .ref x]) Q E s := by
  refine GQ.call_here PySem.F.slot_int_mul (typeIs_int _ _ _) PySem.F.entry_int_mul (PySem.F.args_int_mul_2 _ _) ?_
  obtain ⟨hp, g, d, tk, os⟩ := s
  obtain ⟨c, dd, dt, sl⟩ := ob
  simp only at hd
  subst hd
  wp_walk using AutoSeq1.wpAny_loadPart' hx
  exact h
end
theorem fillsR {M : Model} {K : Frag} {C f : Addr} {h : Heap} {nm : String} {cd : ClassData} {rest : List Value} {fo : Option Value} (X : K.In h) (hc : clsIn K C = some cd) (hm : cd.mro = .ref C :: rest)
    (hfo : findIn K (.ref C) (PySem.dunder nm) = some fo) (ho : fo = none ∨ ∃ g : Addr, fo = some (.ref g)) (hr : findIn K (.ref C) (dunderR nm) = some (some (.ref f))) : Looks M h (fillsNumberSlot (.ref C) nm) true := by
  intro A Q E s k q
  unfold fillsNumberSlot
  refine wpAny_bind ((looks_clsIn X hc).andThen (f := fun cd => pure cd.mro) .now A _ E s k ?_)
  rw [hm, List.anyM_cons]
  refine wpAny_bind ?_
  show wpAny M A (List.anyM _ [PySem.dunder nm, dunderR nm]) _ _ _
  rw [List.anyM_cons]
  refine wpAny_bind (wpAny_bind (looks_findIn X hfo A _ E s k ?_))
  rcases ho with rfl | ⟨g, rfl⟩
  · dsimp only
    refine wpAny_pure ?_
    rw [if_neg (by simp), List.anyM_cons]
    refine wpAny_bind (wpAny_bind (looks_findIn X hr A _ E s k ?_))
    dsimp only
    rw [if_pos (show (!ownNameWrapper (.ref f) (dunderR nm)) = true from rfl)]
    refine wpAny_pure ?_
    rw [if_pos rfl]
    refine wpAny_pure ?_
    rw [if_pos rfl]
    exact wpAny_pure q
  · dsimp only
    rw [if_pos (show (!ownNameWrapper (.ref g) (PySem.dunder nm)) = true from rfl)]
    refine wpAny_pure ?_
    rw [if_pos rfl]
    refine wpAny_pure ?_
    rw [if_pos rfl]
    exact wpAny_pure q
theorem own_right {prog : Program} {w : World} {A : Around} {E : Value → Shared → Prop} {s : Shared} {K : Frag} {x C L f : Addr} {h₀ : Heap} {m : Str → Option Value} {ox : Obj} {od : Option Obj} {i : Int} {t : Tok} {op : Operator} {fo : Option Value} {idl : String} {Q : Value → Shared → Prop}
    (F : Fr h₀ L s.heap m) (X₀ : K.In h₀) (I : InstAt s.heap x ox C od) (hc : selfFirst K C = true) (hfo : findIn K (.ref C) (PySem.dunder op.info.2) = some fo) (ho : fo = none ∨ ∃ g : Addr, fo = some (.ref g))
    (hr : findIn K (.ref C) (dunderR op.info.2) = some (some (.ref f))) (hf : isFn K (.ref f) = true) (hsub : subIn K (.ref C) (.type "int") = some false)
    (fillsT : fillsNumberSlot (.type "int") op.info.2 = pure true) (slot : Slot "int" (PySem.dunder op.info.2) idl)
    (dec : ∀ Q' : Value → Shared → Prop, Q' .notImplemented s → wpAny (model prog w) A (call (.builtin idl) [.int i t, .ref x]) Q' E s)
    (h : wpAny (model prog w) A (call (.ref f) [.ref x, .int i t]) (PySem.W.CmpBack Q) E s) : wpAny (model prog w) A (binaryOp op (.int i t) (.ref x)) Q E s := by
  have X := X₀.keeps F.keep
  obtain ⟨cd, rest, hcd, hm⟩ := ksp_first hc
  rcases hi : op.info with ⟨sym, nm'⟩
  rw [hi] at hfo hr fillsT slot
  dsimp only at hfo hr fillsT slot
  have one := ksp_try X I hr hf h
  have two : wpAny (model prog w) A (tryMethod (.int i t) (PySem.dunder nm') (.ref x)) (fun r s' => r = none ∧ s' = s) E s :=
    wpAny_tryMethod_declines (typeIs_int _ _ _) slot (dec _ ⟨rfl, rfl, rfl⟩)
  obtain ⟨hh, g, d, tt, os⟩ := s
  have L2 : Looks (model prog w) hh (typeOf (.ref x)) (.ref C) := I.type
  have L3 : Looks (model prog w) hh (fillsNumberSlot (.ref C) nm') true := fillsR X hcd hm hfo ho hr
  have L5 : Looks (model prog w) hh (isSubtype (.ref C) (.type "int")) false := looks_subIn X hsub
  have hne : (Value.type "int" == Value.ref C) = false := Bool.eq_false_iff.mpr fun q => by cases beq_iff_eq.mp q
  have hpy : numberSlotInPython (.type "int") nm' = pure false := rfl
  simp only [binaryOp, hi]
  refine wpAny_holding (wpAny_bind ?_)
  unfold binaryOp1
  refine wpAny_bind (wpAny_typeOf (typeIs_int _ _ _) (wpAny_bind (L2.at (wpAny_bind (wpAny_of_eq fillsT ?_)))))
  simp only [hne, Bool.false_eq_true, if_false]
  refine wpAny_bind (L3.at ?_)
  simp only [Bool.and_self, if_true]
  refine wpAny_bind (L5.at ?_)
  simp only [Bool.false_eq_true, if_false, pure_bind, Bool.not_false, Bool.and_self, if_true, hpy]
  refine wpAny_bind (wpAny_mono two (fun r s1 hr1 => ?_) fun _ _ e => e)
  obtain ⟨rfl, rfl⟩ := hr1
  dsimp only
  refine wpAny_bind (wpAny_mono one (fun r s2 hr2 => ?_) fun _ _ e => e)
  obtain ⟨v, rfl, hq⟩ := hr2
  dsimp only
  exact wpAny_bind (wpAny_rule (wpAny_pure (wpAny_pure hq)))
end Bar

namespace Bar
open PySem L2
theorem relV_back {v : V} {u : Value} {Q : Value → Shared → Prop} {s : Shared} (r : RelV v u) (h : Q u s) : PySem.W.CmpBack Q u s := by
  cases v with
  | non => cases (show u = Value.none from r); exact h
  | bl b => cases (show u = Value.bool b from r); exact h
  | int i => obtain ⟨t, rfl⟩ := (show ∃ t, u = Value.int i t from r); exact h
  | str i => obtain ⟨t, rfl⟩ := (show ∃ t, u = Value.str i t from r); exact h
  | byt i => obtain ⟨t, rfl⟩ := (show ∃ t, u = Value.bytes i t from r); exact h
  | flt i => obtain ⟨t, rfl⟩ := (show ∃ t, u = Value.float i t from r); exact h
  | ref i => cases (show u = Value.ref i from r); exact h
  | ty n => cases (show u = Value.type n from r); exact h
def oi (op : Operator) : String := op.info.2
/-- what the written part says of an own operator beside an int -/
structure OwnL (K : PySem.W.Frag) (C : Addr) (op : Operator) (f : Addr) : Prop where
  sf : PySem.W.selfFirst K C = true
  find : PySem.W.findIn K (.ref C) (PySem.dunder op.info.2) = some (some (.ref f))
  fn : PySem.W.isFn K (.ref f) = true
  rr : ∃ rc, PySem.W.findIn K (.ref C) (dunderR op.info.2) = some rc ∧ (rc = none ∨ ∃ g : Addr, rc = some (.ref g))
  i1 : ∃ fo, PySem.W.findIn K (.type "int") (PySem.dunder op.info.2) = some fo
  i2 : ∃ ro, PySem.W.findIn K (.type "int") (dunderR op.info.2) = some ro
  sub : PySem.W.subIn K (.type "int") (.ref C) = some false
structure OwnR (K : PySem.W.Frag) (C : Addr) (op : Operator) (f : Addr) : Prop where
  sf : PySem.W.selfFirst K C = true
  find : PySem.W.findIn K (.ref C) (dunderR op.info.2) = some (some (.ref f))
  fn : PySem.W.isFn K (.ref f) = true
  ll : ∃ rc, PySem.W.findIn K (.ref C) (PySem.dunder op.info.2) = some rc ∧ (rc = none ∨ ∃ g : Addr, rc = some (.ref g))
  sub : PySem.W.subIn K (.ref C) (.type "int") = some false
/-- how an int declines -/
structure IntNo (op : Operator) : Prop where
  fills : fillsNumberSlot (.type "int") op.info.2 = pure true
  ex : ∃ idl, Slot "int" (PySem.dunder op.info.2) idl ∧ ∀ {prog : Program} {w : World} {A : Around} {E : Value → Shared → Prop} {s : Shared} {i : Int} {t : Tok} {x : Addr} {ob : Obj} {Q : Value → Shared → Prop}, s.heap.get? x = some ob → ob.data = .plain → Q .notImplemented s →
    wpAny (model prog w) A (call (.builtin idl) [.int i t, .ref x]) Q E s
theorem no_floordiv : IntNo .FloorDiv := ⟨PySem.F.fills_int_floordiv, _, PySem.F.slot_int_floordiv, fun hx hd h => int_no_floordiv hx hd h⟩
theorem no_mod : IntNo .Mod := ⟨PySem.F.fills_int_mod, _, PySem.F.slot_int_mod, fun hx hd h => int_no_mod hx hd h⟩
theorem no_add : IntNo .Add := ⟨PySem.F.fills_int_add, _, PySem.F.slot_int_add, fun hx hd h => int_no_add hx hd h⟩
theorem no_mul : IntNo .Mult := ⟨PySem.F.fills_int_mul, _, PySem.F.slot_int_mul, fun hx hd h => int_no_mul hx hd h⟩
/-- o op n, n op o -/
def rOwnL (C : Addr) (sp : Sp) : R2 := fun x y H Q => ∃ a dx fs i, x = .ref a ∧ y = .int i ∧ H a = some (.ins C dx fs) ∧ sp [x, y] H Q E0
def rOwnR (C : Addr) (sp : Sp) : R2 := fun x y H Q => ∃ a dx fs i, y = .ref a ∧ x = .int i ∧ H a = some (.ins C dx fs) ∧ sp [y, x] H Q E0
structure OprL (P : Program) (w : World) (K : PySem.W.Frag) (mg : Str → Option Value) (base : Heap) (C : Addr) (op : Operator) (ps : List Str) (k : Nat) (sp : Sp) : Prop where
  ex : ∃ (f : Addr) (fd : FuncData), OwnL K C op f ∧ Binds K fd ps [] ∧ FnOk P w K mg base CX0 k f fd ps sp
structure OprR (P : Program) (w : World) (K : PySem.W.Frag) (mg : Str → Option Value) (base : Heap) (C : Addr) (op : Operator) (ps : List Str) (k : Nat) (sp : Sp) : Prop where
  ex : ∃ (f : Addr) (fd : FuncData), OwnR K C op f ∧ Binds K fd ps [] ∧ FnOk P w K mg base CX0 k f fd ps sp
section
variable {X : Cx} {C f : Addr} {ps : List Str} {k : Nat} {sp : Sp} {op : Operator}
theorem op_L (F : OprL X.prog X.w X.K X.mg X.base C op ps k sp) (hr : Room k X.A) : OpR X (binaryOp op) (rOwnL C sp) := by
  intro pins s σ H x y v u Q I rx ry h
  obtain ⟨f, fd, O, hb, ok⟩ := F.ex
  obtain ⟨a, dx, fs, i, rfl, rfl, ea, q⟩ := h
  obtain rfl : v = Value.ref a := rx
  obtain ⟨t, rfl⟩ := (show ∃ t, u = Value.int i t from ry)
  obtain ⟨mA, O', _⟩ := ins_get I.hok ea
  obtain ⟨od, J, _⟩ := O'.look
  obtain ⟨m, Fr⟩ := I.fr
  obtain ⟨rc, hrc, hp⟩ := O.rr
  obtain ⟨fo, h1⟩ := O.i1
  obtain ⟨ro, h2⟩ := O.i2
  refine PySem.W.ksp_binT Fr I.mod.kin J rfl O.sf O.find O.fn hrc hp h1 h2 O.sub ?_
  refine thn (run_fn (us := [.ref a, .int i t]) (vs := [.ref a, .int i]) ok hr hb .nil pass0 I (.cons rfl (.cons ⟨t, rfl⟩ .nil)) q) fun u' s' hq => ?_
  obtain ⟨v', H', I', rv, hv⟩ := hq
  exact relV_back rv ⟨v', H', I', rv, hv⟩
theorem op_R (F : OprR X.prog X.w X.K X.mg X.base C op ps k sp) (N : IntNo op) (hr : Room k X.A) : OpR X (binaryOp op) (rOwnR C sp) := by
  intro pins s σ H x y v u Q I rx ry h
  obtain ⟨f, fd, O, hb, ok⟩ := F.ex
  obtain ⟨a, dx, fs, i, rfl, rfl, ea, q⟩ := h
  obtain rfl : u = Value.ref a := ry
  obtain ⟨t, rfl⟩ := (show ∃ t, v = Value.int i t from rx)
  obtain ⟨mA, O', _⟩ := ins_get I.hok ea
  obtain ⟨od, J, _⟩ := O'.look
  obtain ⟨m, Fr⟩ := I.fr
  obtain ⟨rc, hrc, hp⟩ := O.ll
  obtain ⟨idl, slot, dec⟩ := N.ex
  refine own_right Fr I.mod.kin J O.sf hrc hp O.find O.fn O.sub N.fills slot (fun Q' hq => dec O'.obj rfl hq) ?_
  refine thn (run_fn (us := [.ref a, .int i t]) (vs := [.ref a, .int i]) ok hr hb .nil pass0 I (.cons rfl (.cons ⟨t, rfl⟩ .nil)) q) fun u' s' hq => ?_
  obtain ⟨v', H', I', rv, hv⟩ := hq
  exact relV_back rv ⟨v', H', I', rv, hv⟩
end
end Bar

namespace Bar
open PySem L2
section
variable {σ τ : L2.St} {H : Hp} {Q : VK} {g : TG} {tt : TT} {te : TE} {vs : List Nat}
instance {wi : TI} : Rd (tLc wi g tt te vs σ H Q) (wi σ H fun J H1 => ∀ D, H1 D = none → ∃ W : Nat → Nat → Hp → Prop, (∃ m, W 0 m (upd H1 D (.lst []))) ∧ ∀ i m H, W i m H →
  (J.stop i H ∧ Q (.ref D) H) ∨ (J.go i H ∧ ∃ Nx : Hp → Prop, (∀ H', Nx H' → ∃ m', m' < m ∧ W (i + 1) m' H') ∧ ∀ x H', J.yld i H x H' → g x (wipe σ vs) H' fun σ2 H2 => wipe σ2 vs = wipe σ vs ∧ tt σ2 H2 fun b H3 =>
    if b = true then te σ2 H3 fun y H4 => ∃ acc, H4 D = some (.lst acc) ∧ acc.length < sizeLine ∧ Nx (upd H4 D (.lst (acc ++ [y]))) else Nx H3)) := ⟨fun h => h⟩
instance {QB : Bool → Hp → Prop} : Rd (tYes σ H QB) (QB true H) := ⟨fun h => h⟩
/-- a comprehension over range(j) -/
theorem lcR {j : Int} {R : Addr → Hp → Prop} (n : Nat) (e : j.toNat = n) (ew : wipe σ vs = τ) (b : -(2 ^ 62) ≤ j ∧ j < 2 ^ 62)
    (h : ∀ D, H D = none → ∃ Pv : Nat → Hp → Prop, Pv 0 (upd H D (.lst [])) ∧
      (∀ i H', i < n → Pv i H' → g (.int (i : Int)) τ H' fun σ2 H2 => wipe σ2 vs = τ ∧ tt σ2 H2 fun b H3 =>
        if b = true then te σ2 H3 fun y H4 => ∃ acc, H4 D = some (.lst acc) ∧ acc.length < sizeLine ∧ Pv (i + 1) (upd H4 D (.lst (acc ++ [y]))) else Pv (i + 1) H3) ∧ ∀ H', Pv n H' → R D H') :
    ∃ j', [V.int j] = [V.int j'] ∧ -(2 ^ 62) ≤ j' ∧ j' < 2 ^ 62 ∧ ∀ D, H D = none → ∃ W : Nat → Nat → Hp → Prop, (∃ m, W 0 m (upd H D (.lst []))) ∧ ∀ i m H, W i m H →
      ((Itr 0 j'.toNat).stop i H ∧ R D H) ∨ ((Itr 0 j'.toNat).go i H ∧ ∃ Nx : Hp → Prop, (∀ H', Nx H' → ∃ m', m' < m ∧ W (i + 1) m' H') ∧ ∀ x H', (Itr 0 j'.toNat).yld i H x H' → g x (wipe σ vs) H' fun σ2 H2 => wipe σ2 vs = wipe σ vs ∧ tt σ2 H2 fun b H3 =>
        if b = true then te σ2 H3 fun y H4 => ∃ acc, H4 D = some (.lst acc) ∧ acc.length < sizeLine ∧ Nx (upd H4 D (.lst (acc ++ [y]))) else Nx H3) := by
  subst e ew
  refine ⟨j, rfl, b.1, b.2, fun D hD => ?_⟩
  obtain ⟨Pv, h0, hs, hd⟩ := h D hD
  refine lc_range (lo := 0) (n := j.toNat) Pv h0 (fun i H' hi p => ?_) hd
  have e : (0 : Int) + (i : Int) = (i : Int) := Int.zero_add _
  rw [e]
  exact hs i H' hi p
/-- over a list that stands still -/
theorem lcL {K : PySem.W.Frag} {a : Addr} {xs : List V} {R : Addr → Hp → Prop} (ew : wipe σ vs = τ) (hx : SqL K H a xs)
    (h : ∀ D, H D = none → ∃ Pv : Nat → Hp → Prop, Pv 0 (upd H D (.lst [])) ∧ (∀ i H', i ≤ xs.length → Pv i H' → SqL K H' a xs) ∧
      (∀ i x H', xs[i]? = some x → Pv i H' → g x τ H' fun σ2 H2 => wipe σ2 vs = τ ∧ tt σ2 H2 fun b H3 =>
        if b = true then te σ2 H3 fun y H4 => ∃ acc, H4 D = some (.lst acc) ∧ acc.length < sizeLine ∧ Pv (i + 1) (upd H4 D (.lst (acc ++ [y]))) else Pv (i + 1) H3) ∧ ∀ H', Pv xs.length H' → R D H') :
    ∃ a', V.ref a = V.ref a' ∧ (∃ xs, SqL K H a' xs) ∧ ∀ D, H D = none → ∃ W : Nat → Nat → Hp → Prop, (∃ m, W 0 m (upd H D (.lst []))) ∧ ∀ i m H, W i m H →
      ((Itl K a').stop i H ∧ R D H) ∨ ((Itl K a').go i H ∧ ∃ Nx : Hp → Prop, (∀ H', Nx H' → ∃ m', m' < m ∧ W (i + 1) m' H') ∧ ∀ x H', (Itl K a').yld i H x H' → g x (wipe σ vs) H' fun σ2 H2 => wipe σ2 vs = wipe σ vs ∧ tt σ2 H2 fun b H3 =>
        if b = true then te σ2 H3 fun y H4 => ∃ acc, H4 D = some (.lst acc) ∧ acc.length < sizeLine ∧ Nx (upd H4 D (.lst (acc ++ [y]))) else Nx H3) := by
  subst ew
  refine ⟨a, rfl, ⟨xs, hx⟩, fun D hD => ?_⟩
  obtain ⟨Pv, h0, hl, hs, hd⟩ := h D hD
  exact lc_list Pv h0 hl hs hd
theorem rSum_ {K : PySem.W.Frag} {a : Addr} {ns : List Int} (h1 : SqL K H a (ns.map V.int)) (h : Q (.int ns.sum) H) : rSum K [.ref a] H Q := ⟨a, ns, rfl, h1, h⟩
theorem sum_ones : ∀ n : Nat, (List.replicate n (1 : Int)).sum = (n : Int)
  | 0 => rfl
  | n + 1 => by
    rw [List.replicate_succ, List.sum_cons, sum_ones n]
    omega
end
end Bar

namespace Bar
open PySem PySem.W PySem.Calls PyProof.Rows
theorem ne_own {prog : Program} {w : World} {A : Around} {E : Value → Shared → Prop} {s : Shared} {K : Frag} {x C L f : Addr} {h₀ : Heap} {m : Str → Option Value} {ox : Obj} {od : Option Obj} {b tb : Value} {Q : Value → Shared → Prop}
    (hu : A.units + 1 < cLine) (F : Fr h₀ L s.heap m) (X₀ : K.In h₀) (I : InstAt s.heap x ox C od) (hb : Looks (model prog w) s.heap (typeOf b) tb) (hn : notFirst K C tb = true)
    (hne : findIn K (.ref C) "__ne__" = some (some (.builtin "object.__ne__"))) (heq : findIn K (.ref C) "__eq__" = some (some (.ref f))) (hf : isFn K (.ref f) = true) (hm : mroIn K C (.type "object") = some true)
    (h : wpAny (model prog w) A.in1 (call (.ref f) [.ref x, b]) (fun r s' => ∃ c, r = .bool c ∧ Q (.bool (!c)) s') E s) : wpAny (model prog w) A (richCompare .NotEq (.ref x) b) Q E s := by
  have X := X₀.keeps F.keep
  have one : wpAny (model prog w) A (tryCompare (.ref x) "__ne__" b) (fun r s' => ∃ v, r = some v ∧ Q v s') E s := by
    have sub : Looks (model prog w) s.heap (isInstance (.ref x) (.type "object")) true := I.type.andThen (looks_mroIn X hm)
    have back : wpAny (model prog w) A (call (.builtin "object.__ne__") [.ref x, b]) (fun v s' => ∃ c, v = .bool c ∧ Q (.bool c) s') E s := by
      refine wpAny_call (codeAny_call_builtin PySem.F.cmp_object.ne.plain PySem.F.cmpEntry_ne (@PySem.W.check_slot (model prog w) _ _ s "object.__ne__" "object" "__ne__" (.ref x) [b] [] _ PySem.F.cmpKind_ne PySem.F.cmpSplit_ne sub (PySem.F.cmpArgs_ne _ _) ?_))
      unfold Builtin.«object.__ne__»
      refine wpAny_bind (wpAny_of_eq (a := ((Value.ref x : Value), [b])) (by first | rfl | (simp only [slotArgs]; rfl)) ?_)
      refine wpAny_bind (wpAny_cRoomFor hu ?_)
      refine wpAny_bind (ifBound_K X I heq hf (wpAny_mono h (fun v s' hv => ?_) fun _ _ e => e))
      obtain ⟨c, rfl, q⟩ := hv
      dsimp only
      refine wpAny_bind (wpAny_truthy_bool ?_)
      exact wpAny_pure ⟨!c, rfl, q⟩
    simp only [tryCompare, callSpecialIfBound?, bindSpecialIfBound?]
    refine wpAny_bind (wpAny_holding (wpAny_bind (wpAny_bind (wpAny_bind (I.type.here ((looks_findIn X hne).here ?_))))))
    simp only [PySem.F.cmp_object.ne.bind]
    refine wpAny_bind (wpAny_askSetting (wpAny_ite ?_))
    have fin : wpAny (model prog w) A (call (.builtin "object.__ne__") ([.ref x] ++ [b]) >>= fun v => pure (some v)) (fun r s' => wpAny (model prog w) A (match r with | some .notImplemented => pure none | none => pure none | some v => pure (some v)) (fun r s' => ∃ v, r = some v ∧ Q v s') E s') E s :=
      wpAny_bind (wpAny_mono back (fun v s' hv => by
        obtain ⟨c, rfl, q⟩ := hv
        exact wpAny_pure (wpAny_pure ⟨_, rfl, q⟩)) fun _ _ e => e)
    split
    · exact wpAny_bind (wpAny_pure (wpAny_pure fin))
    · exact wpAny_tryCatch (wpAny_bind (wpAny_pure (wpAny_pure fin)))
  unfold richCompare
  simp only [oneThing_ref]
  refine wpAny_holding (wpAny_bind (wpAny_cRoomFor (by omega) ?_))
  refine wpAny_bind (I.type.here (wpAny_bind (hb.here ?_)))
  split
  · rename_i q
    have e : subIn K tb (.ref C) = some false := by
      rcases Bool.or_eq_true_iff.mp hn with e | e
      · rw [beq_iff_eq.mp e] at q; simp at q
      · exact beq_iff_eq.mp e
    refine wpAny_bind ((looks_subIn X e).here ?_)
    simp only [Bool.false_eq_true, if_false]
    refine wpAny_bind (wpAny_mono one (fun r s' z => ?_) fun _ _ e => e)
    obtain ⟨v, rfl, hq⟩ := z
    exact wpAny_pure hq
  · refine wpAny_bind (wpAny_pure ?_)
    simp only [Bool.false_eq_true, if_false]
    refine wpAny_bind (wpAny_mono one (fun r s' z => ?_) fun _ _ e => e)
    obtain ⟨v, rfl, hq⟩ := z
    exact wpAny_pure hq
end Bar

namespace Bar
open PySem L2
structure OwnEq (K : PySem.W.Frag) (C f : Addr) : Prop where
  eq : PySem.W.findIn K (.ref C) "__eq__" = some (some (.ref f))
  fn : PySem.W.isFn K (.ref f) = true
  ne : PySem.W.findIn K (.ref C) "__ne__" = some (some (.builtin "object.__ne__"))
  ob : PySem.W.mroIn K C (.type "object") = some true
def rOwnEq (K : PySem.W.Frag) (C : Addr) (neg : Bool) (sp : Sp) : R2 := fun x y H Q => ∃ a dx fs t, x = .ref a ∧ H a = some (.ins C dx fs) ∧ TyX K H y t ∧ PySem.W.notFirst K C t = true ∧ sp [x, y] H (fun v H' => ∃ c, v = .bl c ∧ Q (.bl (if neg then !c else c)) H') E0
structure OprEq (P : Program) (w : World) (K : PySem.W.Frag) (mg : Str → Option Value) (base : Heap) (C : Addr) (ps : List Str) (k : Nat) (sp : Sp) : Prop where
  ex : ∃ (f : Addr) (fd : FuncData), OwnEq K C f ∧ Binds K fd ps [] ∧ FnOk P w K mg base CX0 k f fd ps sp
section
variable {X : Cx} {C : Addr} {ps : List Str} {k : Nat} {sp : Sp}
theorem op_Eq (F : OprEq X.prog X.w X.K X.mg X.base C ps k sp) (hr : Room k X.A) : OpR X (compareOp .Eq) (rOwnEq X.K C false sp) := by
  intro pins s σ H x y v u Q I rx ry h
  obtain ⟨f, fd, O, hb, ok⟩ := F.ex
  obtain ⟨a, dx, fs, t, rfl, ea, ty, hn, q⟩ := h
  obtain rfl : v = Value.ref a := rx
  obtain ⟨mA, O', _⟩ := ins_get I.hok ea
  obtain ⟨od, J, _⟩ := O'.look
  obtain ⟨m, Fr⟩ := I.fr
  obtain ⟨Pz, Z, p, _⟩ := kit_of I ry ty
  show wpAny _ _ (richCompare .Eq (.ref a) u) _ _ _
  refine PySem.W.cmp_K (op := .Eq) hr.units0 Fr I.mod.kin J (Z.ty _ _ I.kIn p) hn O.eq O.fn ?_
  refine thn (run_fn (us := [.ref a, u]) (vs := [.ref a, y]) ok hr hb .nil pass0 I (.cons rfl (.cons ry .nil)) q) fun u' s' hq => ?_
  obtain ⟨v', H', I', rv, hv⟩ := hq
  obtain ⟨c, rfl, q'⟩ := hv
  exact relV_back rv ⟨_, H', I', rv, q'⟩
theorem op_Ne (F : OprEq X.prog X.w X.K X.mg X.base C ps k sp) (hr : Room (k + 1) X.A) : OpR X (compareOp .NotEq) (rOwnEq X.K C true sp) := by
  intro pins s σ H x y v u Q I rx ry h
  obtain ⟨f, fd, O, hb, ok⟩ := F.ex
  obtain ⟨a, dx, fs, t, rfl, ea, ty, hn, q⟩ := h
  obtain rfl : v = Value.ref a := rx
  obtain ⟨mA, O', _⟩ := ins_get I.hok ea
  obtain ⟨od, J, _⟩ := O'.look
  obtain ⟨m, Fr⟩ := I.fr
  obtain ⟨Pz, Z, p, _⟩ := kit_of I ry ty
  show wpAny _ _ (richCompare .NotEq (.ref a) u) _ _ _
  refine ne_own (by have := hr.units; omega) Fr I.mod.kin J (Z.ty _ _ I.kIn p) hn O.ne O.eq O.fn O.ob ?_
  have r2 : Vals [V.ref a, y] [Value.ref a, u] := .cons rfl (.cons ry .nil)
  have hl : ([Value.ref a, u] ++ ([] : List Value)).length = ps.length := by
    have e := ok.len _ _ _ _ q
    rw [← e]
    rfl
  have bnd : BindsTo s fd ⟨[Value.ref a, u], []⟩ (ps.zip [Value.ref a, u]) := by
    have e := hb s [Value.ref a, u] I.kIn hl
    rwa [List.append_nil] at e
  have run := ok.run X.A.in1 X.stack s H ⟨[Value.ref a, u], []⟩ [Value.ref a, u] [V.ref a, y] _ E0 hr.in1 I.env0.in1 bnd r2 q
  refine wpAny_call (codeAny_mono run fun r s' hq => ?_)
  cases r with
  | error e => exact False.elim hq
  | ok fl =>
    cases fl with
    | ret u' =>
      obtain ⟨v', H', I', rv, c, ev, q'⟩ := I.after hq
      subst ev
      exact ⟨c, rv, .bl (!c), H', I', rfl, q'⟩
    | next => exact False.elim hq
    | brk => exact False.elim hq
    | cont => exact False.elim hq
end
end Bar

set_option Elab.async false
set_option linter.all false
set_option maxRecDepth 100000
set_option maxHeartbeats 4000000
namespace Bar
open PySem L2
/-! ### own errors: their making -/
/-- an own error class, made by its name; sp: what its __init__ keeps -/
structure Err (P : Program) (w : World) (K : PySem.W.Frag) (mg : Str → Option Value) (base : Heap) (x : Str) (C : Addr) (ps : List Str) (k : Nat) (sp : Sp) : Prop where
  ex : ∃ (f : Addr) (fd : FuncData), mg x = some (.ref C) ∧ OexC K C ∧ PySem.W.findIn K (.ref C) "__init__" = some (some (.ref f)) ∧ PySem.W.typeIn K (.ref f) = some (.type "function") ∧ Binds K fd ps [] ∧ FnOk P w K mg base CX0 k f fd ps sp
/-- the base class's own name, and its __init__ -/
structure EBase (K : PySem.W.Frag) (mg : Str → Option Value) (bn : Str) (B : Addr) : Prop where
  g : mg bn = some (.ref B)
  r : ClX.CRead K B (.type "type")
  v : PySem.W.findCls K (.ref B) (.type "type") "__init__" = some (.val (.builtin "ValueError.__init__"))
section
variable {X : Cx} {B C : Addr} {x bn : Str} {k : Nat} {sp : Sp} {ps : List Str} {e : Expr} {es : List Expr} {ta : TA} {p p1 p2 pos : Pos}
theorem pmk_err (F : Err X.prog X.w X.K X.mg X.base x C ps k sp) (hr : Room (k + 1) X.A) (hg : Gl X x) (ha : PA X (e :: es) ta) (hdb : (x == ("__debug__" : Str)) = false := by decide)
    (he : starEach (e :: es) X.env = (false, eval e X.env) :: starEach es X.env := by rfl) (hpl : (backTo pos (starEach es X.env)).any (·.1) = false := by rfl) : PMk X (.Call (.Name x p) (e :: es) [] pos) (tMkO C sp [] ta) := by
  obtain ⟨f, fd, hm, T, iC, tI, hb, ok⟩ := F.ex
  exact pmk_oex T iC tI ok hr hb .nil (fun _ _ _ _ _ _ _ z => z.elim) hg hm ha hdb he hpl
theorem pe_baseInit {pl : Sem Bool} (N : EBase X.K X.mg bn B) (hg : Gl X bn) (ha : PA X (e :: es) ta) (hdb : (bn == ("__debug__" : Str)) = false := by decide)
    (hc : eval (.Call (.Attribute (.Name bn p1) "__init__" p2) (e :: es) [] pos) X.env = (do
      let ov ← eval (.Name bn p1) X.env; standAt p2.atName
      let (f, first) ← holding [ov] (getMethod ov "__init__" pl)
      callWith pos f first (backTo pos (starEach (e :: es) X.env)) (backToKw pos (keywordEach [] X.env))) := by rfl)
    (he : starEach (e :: es) X.env = (false, eval e X.env) :: starEach es X.env := by rfl) (hpl : (backTo pos (starEach es X.env)).any (·.1) = false := by rfl) :
    PE X (.Call (.Attribute (.Name bn p1) "__init__" p2) (e :: es) [] pos) (tVeI X.K ta) := ⟨fun pins s σ H Q I h => by
  refine PySem.W.methodCall_KW (pl := pl) (ld_glob I hg N.g ?_ hdb) hc
  refine PySem.W.method_cls I.kIn N.r.ga (PySem.W.cls_value I.kIn N.r.rd N.v rfl ?_)
  show wpAny _ _ (callWith pos (.builtin "ValueError.__init__") [] (backTo pos (starEach (e :: es) X.env)) []) _ _ _
  have I' := I.tok (s.toks + 1)
  refine PyProof.Rows.callWith_method1 (thn (ha.run pos pins _ σ H _ I' h) fun us s1 hs => ?_) he hpl
  obtain ⟨vs, H1, J, rv, a, C, ws, ev, hl, T, ea, q⟩ := hs
  subst ev
  cases rv with
  | cons ra rw' =>
    cases ra
    refine oinit_ok T J ea ?_ fun s' J' => ⟨.non, H1, J', rfl, q⟩
    rw [← Paired.length rw', sizeLine_eq]
    omega⟩
end

/-! ### defs that raise, called where what they raise is taken -/
structure FnX (P : Program) (w : World) (K : PySem.W.Frag) (mg : Str → Option Value) (base : Heap) (x : Str) (ps : List Str) (dvs : List V) (k : Nat) (sp : Sp) : Prop where
  ex : ∃ (f : Addr) (fd : FuncData) (ds : List Value), mg x = some (.ref f) ∧ PySem.W.keepIn K (.ref f) = true ∧ Binds K fd ps ds ∧ Vals dvs ds ∧ FnOk P w K mg base (L2.CX P w) k f fd ps sp
structure MadeX (P : Program) (w : World) (K : PySem.W.Frag) (mg : Str → Option Value) (base : Heap) (x : Str) (C : Addr) (ps : List Str) (dvs : List V) (k : Nat) (sp : Sp) : Prop where
  ex : ∃ (f : Addr) (fd : FuncData) (ds : List Value), mg x = some (.ref C) ∧ Mk K C f ∧ Binds K fd ps ds ∧ Vals dvs ds ∧ FnOk P w K mg base (L2.CX P w) k f fd ps sp
structure MthX (P : Program) (w : World) (K : PySem.W.Frag) (mg : Str → Option Value) (base : Heap) (C : Addr) (m : Str) (ps : List Str) (dvs : List V) (k : Nat) (sp : Sp) : Prop where
  cl : Cls K C
  ex : ∃ (f : Addr) (fd : FuncData) (ds : List Value), Meth K C m f ∧ Binds K fd ps ds ∧ Vals dvs ds ∧ FnOk P w K mg base (L2.CX P w) k f fd ps sp
/-- what is raised, wished for at the slots as they stand -/
def wAt (W : WX) (σ : L2.St) : XK := fun cls d H => W cls d σ H
def tCallX (sp : Sp) (dvs : List V) (W : WX) (t : TA) : TE := fun σ H Q => t σ H fun vs H1 => sp (vs ++ dvs) H1 Q (wAt W σ)
def tMakeX (C : Addr) (sp : Sp) (dvs : List V) (W : WX) (t : TA) : TE := fun σ H Q => t σ H fun vs H1 => ∀ x dx, H1 x = none → H1 dx = none → dx ≠ x →
  sp (.ref x :: (vs ++ dvs)) (upd (upd H1 dx (.own x)) x (.ins C dx [])) (fun v H2 => v = .non ∧ Q (.ref x) H2) (wAt W σ)
def tMethX (C : Addr) (m : Str) (sp : Sp) (dvs : List V) (W : WX) (ta : TE) (t : TA) : TE := fun σ H Q => ta σ H fun x H1 => ∃ a dx fs, x = .ref a ∧ H1 a = some (.ins C dx fs) ∧ fs.lookup m = none ∧
  t σ H1 fun vs H2 => sp (x :: (vs ++ dvs)) H2 Q (wAt W σ)
section
variable {X : Cx} {W : WX} {k : Nat} {f C : Addr} {fd : FuncData} {ps : List Str} {sp : Sp} {dvs : List V} {ds : List Value} {x m : Str} {p pos apos : Pos} {e o : Expr} {es : List Expr} {ta : TE} {t : TA}
theorem run_fnX {pins : List (Addr × Obj)} {σ : L2.St} {H : Hp} {s : Shared} {Q : VK} {us : List Value} {vs : List V} (F : FnOk X.prog X.w X.K X.mg X.base (L2.CX X.prog X.w) k f fd ps sp) (hr : Room k X.A) (hb : Binds X.K fd ps ds) (hd : Vals dvs ds)
    (tk : Takes X W) (I : Inv X pins σ H s) (r : Vals vs us) (h : sp (vs ++ dvs) H Q (wAt W σ)) : wpAny (model X.prog X.w) X.A (call (.ref f) us) (EP X pins σ Q) X.xe s := by
  have r2 : Vals (vs ++ dvs) (us ++ ds) := r.append hd
  have hl : (us ++ ds).length = ps.length := r2.length.symm.trans (F.len _ _ _ _ h)
  refine wpAny_call (codeAny_mono (F.run X.A X.stack s H ⟨us, []⟩ (us ++ ds) (vs ++ dvs) Q (wAt W σ) hr I.env0 (hb s us I.kIn hl) r2 h) fun z s' hq => ?_)
  match z, hq with
  | .error e, hq => exact tk e s' (XE.of_call I (fun _ _ _ h => h) hq)
  | .ok (.ret u), hq => exact I.after hq
theorem pe_fnX (F : FnX X.prog X.w X.K X.mg X.base x ps dvs k sp) (tk : Takes X W) (hr : Room k X.A) (hg : Gl X x) (ha : PA X (e :: es) t) (hdb : (x == ("__debug__" : Str)) = false := by decide)
    (he : starEach (e :: es) X.env = (false, eval e X.env) :: starEach es X.env := by rfl) (hpl : (backTo pos (starEach es X.env)).any (·.1) = false := by rfl) : PE X (.Call (.Name x p) (e :: es) [] pos) (tCallX sp dvs W t) := ⟨fun pins s σ H Q I h => by
  obtain ⟨f, fd, ds, hm, hk, hb, hd, ok⟩ := F.ex
  refine wpAny_Call_Name_kw (ld_glob I hg hm ?_ hdb)
  refine PySem.W.callWith_K (h₀ := X.base) I.ok.mod.kin hk (thn (ha.run pos pins s σ H _ I h) fun us s1 hs => ?_) he hpl
  obtain ⟨vs, H1, J, r, q⟩ := hs
  exact ⟨J.kIn, run_fnX ok hr hb hd tk J r q⟩⟩
theorem pe_mthX {pl : Sem Bool} (F : MthX X.prog X.w X.K X.mg X.base C m ps dvs k sp) (tk : Takes X W) (ho : PE X o ta) (hr : Room k X.A) (ha : PA X (e :: es) t)
    (hst : starEach (e :: es) X.env = (false, eval e X.env) :: starEach es X.env := by rfl) (hpl : (backTo pos (starEach es X.env)).any (·.1) = false := by rfl)
    (ht : eval (.Call (.Attribute o m apos) (e :: es) [] pos) X.env = (do
      let ov ← eval o X.env; standAt apos.atName
      let (f, first) ← holding [ov] (getMethod ov m pl)
      callWith pos f first (backTo pos (starEach (e :: es) X.env)) (backToKw pos (keywordEach [] X.env))) := by rfl) :
    PE X (.Call (.Attribute o m apos) (e :: es) [] pos) (tMethX C m sp dvs W ta t) := ⟨fun pins s σ H Q I h => by
  obtain ⟨f, fd, ds, hm, hb, hd, ok⟩ := F.ex
  refine PySem.W.methodCall_KW (pl := pl) (thn (ho.run pins s σ H _ I h) fun u s1 hs => ?_) ht
  obtain ⟨x, H1, J, rx, a, dx, fs, ex, ea, l, q⟩ := hs
  subst ex
  cases rx
  refine getmeth_ok J ea F.cl hm l (PySem.W.callWith_K (first := [.ref a]) (h₀ := X.base) J.ok.mod.kin hm.kp (thn (ha.run pos pins s1 σ H1 _ J q) fun us s2 hs => ?_) hst hpl)
  obtain ⟨vs, H2, J2, r, q2⟩ := hs
  exact ⟨J2.kIn, run_fnX (us := .ref a :: us) (vs := .ref a :: vs) ok hr hb hd tk J2 (.cons rfl r) q2⟩⟩
theorem run_makeX {pins : List (Addr × Obj)} {σ : L2.St} {H : Hp} {s : Shared} {Q : VK} {us : List Value} {vs : List V} (M : Mk X.K C f) (F : FnOk X.prog X.w X.K X.mg X.base (L2.CX X.prog X.w) k f fd ps sp) (hr : Room (k + 1) X.A) (hb : Binds X.K fd ps ds) (hd : Vals dvs ds)
    (tk : Takes X W) (I : Inv X pins σ H s) (r : Vals vs us)
    (h : ∀ x dx, H x = none → H dx = none → dx ≠ x → sp (.ref x :: (vs ++ dvs)) (upd (upd H dx (.own x)) x (.ins C dx [])) (fun v H2 => v = .non ∧ Q (.ref x) H2) (wAt W σ)) :
    wpAny (model X.prog X.w) X.A (call (.ref C) us) (EP X pins σ Q) X.xe s := by
  have hq := h (s.heap.objs.size + 1) s.heap.objs.size (I.hok.fresh (Nat.le_succ _)) (I.hok.fresh (Nat.le_refl _)) (Nat.ne_of_lt (Nat.lt_succ_self _))
  have J := Inv.made (C := C) I
  have r2 : Vals (V.ref (s.heap.objs.size + 1) :: (vs ++ dvs)) (Value.ref (s.heap.objs.size + 1) :: (us ++ ds)) := .cons rfl (r.append hd)
  have hl : (Value.ref (s.heap.objs.size + 1) :: us ++ ds).length = ps.length := r2.length.symm.trans (F.len _ _ _ _ hq)
  refine wpAny_call (make_map (f := f) I.kIn M.makes M.init (beq_iff_eq.mp M.fn) (codeAny_mono (F.run _ X.stack _ _ ⟨Value.ref (s.heap.objs.size + 1) :: us, []⟩ (Value.ref (s.heap.objs.size + 1) :: (us ++ ds)) _ _ (wAt W σ) (hr.make C us [])
    (J.env0.make C us []) (hb _ (Value.ref (s.heap.objs.size + 1) :: us) J.kIn hl) r2 hq) fun z s' hz => ?_))
  match z, hz with
  | .error e, hz => exact tk e s' (XE.of_call J (fun _ _ _ h => h) hz)
  | .ok (.ret u), hz =>
    obtain ⟨v, H', J3, rv, ev, q3⟩ := J.after hz
    subst ev
    exact ⟨rv, ⟨V.ref (s.heap.objs.size + 1), H', J3, rfl, q3⟩⟩
theorem pe_mkX (F : MadeX X.prog X.w X.K X.mg X.base x C ps dvs k sp) (tk : Takes X W) (hr : Room (k + 1) X.A) (hg : Gl X x) (ha : PA X (e :: es) t) (hdb : (x == ("__debug__" : Str)) = false := by decide)
    (he : starEach (e :: es) X.env = (false, eval e X.env) :: starEach es X.env := by rfl) (hpl : (backTo pos (starEach es X.env)).any (·.1) = false := by rfl) : PE X (.Call (.Name x p) (e :: es) [] pos) (tMakeX C sp dvs W t) := ⟨fun pins s σ H Q I h => by
  obtain ⟨f, fd, ds, hm, M, hb, hd, ok⟩ := F.ex
  refine wpAny_Call_Name_kw (ld_glob I hg hm ?_ hdb)
  refine PySem.W.callWith_K (h₀ := X.base) I.ok.mod.kin M.kp (thn (ha.run pos pins s σ H _ I h) fun us s1 hs => ?_) he hpl
  obtain ⟨vs, H1, J, r, q⟩ := hs
  exact ⟨J.kIn, run_makeX M ok hr hb hd tk J r q⟩⟩
end

/-- what raises nothing here, though it may -/
theorem FnX0 {P : Program} {w : World} {K : PySem.W.Frag} {mg : Str → Option Value} {base : Heap} {k : Nat} {f : Addr} {fd : FuncData} {ps : List Str} {sp : Sp} (F : FnOk P w K mg base (L2.CX P w) k f fd ps sp) : FnOk P w K mg base CX0 k f fd ps (fun vs H Q _ => sp vs H Q E0) :=
  ⟨fun vs H Q _ h => F.len vs H Q E0 h, fun A outer s H args us vs Q _ hr e0 hb r h => codeAny_mono (F.run A outer s H args us vs Q E0 hr e0 hb r h) fun z s' hq => by
    match z, hq with
    | .error e, hq =>
      obtain ⟨_, _, _, _, _, _, _, _, _, _, _, _, x⟩ := hq
      exact x.elim
    | .ok (.ret u), hq => exact hq⟩
/-- a block, with a word between its first statement and the rest -/
def tMid (t u : TS) : TS := fun D σ H => ∃ M : L2.St → Hp → Prop, t { D with nx := M } σ H ∧ ∀ σ' H', M σ' H' → u D σ' H'
theorem pss_mid {X : Cx} {s1 : Stmt} {ss : List Stmt} {t u : TS} (a : PS X s1 t) (b : PSs X ss u) : PSs X (s1 :: ss) (tMid t u) := ⟨fun pins s σ H D I ⟨M, hm, hu⟩ => by
  refine wpAny_execs_cons (thn (a.run pins s σ H { D with nx := M } I hm) fun z s1 q => ?_)
  match z, q with
  | .next, ⟨σ', H', I', q⟩ => exact b.run pins s1 σ' H' D I' (hu σ' H' q)
  | .ret _, q => exact q
  | .brk, q => exact q
  | .cont, q => exact q⟩
/-! ### range of two ints of any size -/
theorem turn_big {P : Program} {w : World} {K : PySem.W.Frag} {tg : Expr} (it : Addr) (lo : Int) (n : Nat) : Turn P w K tg (Itr lo n) [it] it (fun i h => IsLongIter h it (lo + (i : Nat) * 1) ((n : Int) - (i : Nat)) 1) where
  mem := List.mem_singleton.mpr rfl
  obj := fun i h st b hb => by
    cases List.mem_singleton.mp hb
    refine ⟨_, st, fun v z => ?_⟩
    have y : Data.fields _ = Data.cell v := z
    cases y
  keep := fun i h h' st k => k it (List.mem_singleton.mpr rfl) _ st
  item := by
    rintro X rfl rfl rfl hc i pins s σ H E I hf st hg
    obtain ⟨f0, f1, f2, f3, f4, f5⟩ := hf it (List.mem_singleton.mpr rfl)
    refine (Walks.longrange (prog := X.prog) (w := X.w) (I.ok.hd hc) it lo 1 n).item i s _ _ hg st fun v h' tk hv st' kk => ?_
    obtain ⟨t, rfl⟩ := hv
    have J : Inv X pins σ H { s with heap := h', toks := tk } := I.turned (fun b o hb e => kk b o (fun z => hb (List.mem_singleton.mp z)) e) f0 f1 f3 f4 f5
    exact ⟨_, rfl, go_of (s := { s with heap := h', toks := tk }) (n := "longrange_iterator") st' rfl rfl (by decide) ⟨.int (lo + i), H, J, ⟨t, by rw [Int.mul_one]⟩, ⟨rfl, rfl⟩, st', fun b hb => (hf b hb).1⟩⟩
  done := by
    rintro X rfl rfl rfl hc i pins s σ H E I hf st hg
    obtain ⟨f0, f1, f2, f3, f4, f5⟩ := hf it (List.mem_singleton.mpr rfl)
    have hn : n ≤ i := hg
    exact wpAny_pyNext_long_end (I.ok.hd hc) st (by omega) fun h' eb => ⟨rfl, I.turned (t' := s.toks) (fun b o hb e => eb b o hb e) f0 f1 f3 f4 f5⟩
  self := fun _ _ _ _ _ st h => wpAny_pyIter_longiter st h
section
variable {X : Cx} {tg : Expr}
theorem range_any {pins : List (Addr × Obj)} {σ : L2.St} {H : Hp} {s : Shared} {R : It → Hp → Prop} {E : Value → Shared → Prop} {lo hi : Int} {t u v : Tok} {tk : Nat} (I : Inv X pins σ H s) (q : R (Itr lo (hi - lo).toNat) H) :
    wpAny (model X.prog X.w) X.A (pyIter (.ref s.heap.objs.size)) (PIE X pins σ tg R) E { s with heap := s.heap.push { cls := .type "range", data := .fields #[.int lo t, .int hi u, .int 1 v] }, toks := tk } := by
  have J : Inv X pins σ H { s with heap := s.heap.push { cls := .type "range", data := .fields #[.int lo t, .int hi u, .int 1 v] }, toks := tk } := I.kept fun b o e => Heap.get?_push_of_some _ e
  have ef : ∀ b, b ∈ [(s.heap.push { cls := .type "range", data := .fields #[.int lo t, .int hi u, .int 1 v] }).objs.size] → b = (s.heap.push { cls := .type "range", data := .fields #[.int lo t, .int hi u, .int 1 v] }).objs.size := fun b hb => List.mem_singleton.mp hb
  have e1 : lo + ((0 : Nat) : Int) * 1 = lo := by simp
  have e2 : (((hi - lo).toNat : Nat) : Int) - ((0 : Nat) : Int) = Builtin.Range.rangeSize lo hi 1 := by
    rw [rangeSize_one]
    split <;> omega
  cases sm : Builtin.Range.small lo hi 1 with
  | true =>
    refine wpAny_pyIter_range (IsRange.new ..) sm ⟨_, _, _, _, H, rfl, J.kept (t' := tk) fun b o e => Heap.get?_push_of_some _ e, turn_range _ lo (hi - lo).toNat, ?_, fun b hb => ?_, q⟩
    · show IsRangeIter _ _ (lo + ((0 : Nat) : Int) * 1) ((((hi - lo).toNat : Nat) : Int) - ((0 : Nat) : Int)) 1
      rw [e1, e2]
      exact Heap.get?_push_size _ rfl
    · cases ef b hb
      exact J.fpOk (Nat.le_refl _) (J.hok.fresh (Nat.le_refl _))
  | false =>
    refine wpAny_pyIter_longrange (IsRange.new ..) sm ⟨_, _, _, _, H, rfl, J.kept (t' := tk) fun b o e => Heap.get?_push_of_some _ e, turn_big _ lo (hi - lo).toNat, ?_, fun b hb => ?_, q⟩
    · show IsLongIter _ _ (lo + ((0 : Nat) : Int) * 1) ((((hi - lo).toNat : Nat) : Int) - ((0 : Nat) : Int)) 1
      rw [e1, e2]
      exact Heap.get?_push_size _ rfl
    · cases ef b hb
      exact J.fpOk (Nat.le_refl _) (J.hok.fresh (Nat.le_refl _))
def iRngW (ta : TA) : TI := fun σ H R => ta σ H fun vs H1 => ∃ i j : Int, vs = [.int i, .int j] ∧ R (Itr i (j - i).toNat) H1
theorem pi_rangeW {a b : Expr} {ta : TA} {p pos : Pos} (hg : Gl X "range") (hm : X.mg "range" = none) (ha : PA X [a, b] ta) (hs : starEach [a, b] X.env = [(false, eval a X.env), (false, eval b X.env)] := by rfl) (hs2 : starEach [b] X.env = [(false, eval b X.env)] := by rfl) :
    PI X tg (.Call (.Name "range" p) [a, b] [] pos) (iRngW ta) := ⟨fun pins s σ H R I h => by
  refine PyProof.Rows.Call_ (ld_blt I hg hm PyProof.Rows.boot_range (PyProof.Rows.callWith_type1 (thn (ha.run pos pins s σ H _ I h) fun us s1 hu => ?_) (by rw [hs, hs2]) (by rw [hs2]; rfl)))
  obtain ⟨vs, H1, J, rv, i, j, e, q⟩ := hu
  subst e
  match us, rv with
  | [_, _], .cons ⟨t, r1⟩ (.cons ⟨t', r2⟩ .nil) =>
    cases r1
    cases r2
    exact call_range_2 (range_any J q)⟩
end
/-! ### C(e, .., k = v) -/
structure MadeN (P : Program) (w : World) (K : PySem.W.Frag) (mg : Str → Option Value) (base : Heap) (x : Str) (C : Addr) (ps ks : List Str) (n k : Nat) (sp : Sp) : Prop where
  ex : ∃ (f : Addr) (fd : FuncData) (g : List Value → List Value → List Value), mg x = some (.ref C) ∧ Mk K C f ∧ KBn K fd ps (n + 1) ks g (fun vs zs => vs ++ zs) ∧ FnOk P w K mg base CX0 k f fd ps sp
theorem pe_mkN {X : Cx} {C : Addr} {ps ks : List Str} {n k : Nat} {sp : Sp} {x : Str} {p pos : Pos} {e : Expr} {es : List Expr} {kws : List Keyword} {t tk : TA} (F : MadeN X.prog X.w X.K X.mg X.base x C ps ks n k sp) (hr : Room (k + 1) X.A) (hg : Gl X x) (ha : PA X (e :: es) t) (hkw : PK X kws tk)
    (hall : (backToKw pos (keywordEach kws X.env)).all (·.1.isSome) = true := by rfl) (hks : (backToKw pos (keywordEach kws X.env)).filterMap (·.1) = ks := by rfl)
    (hdb : (x == ("__debug__" : Str)) = false := by decide) (he : starEach (e :: es) X.env = (false, eval e X.env) :: starEach es X.env := by rfl)
    (hpl : ((backTo pos (starEach (e :: es) X.env)).any (·.1) || (backToKw pos (keywordEach kws X.env)).any (·.1.isNone)) = false := by rfl) : PE X (.Call (.Name x p) (e :: es) kws pos) (tMakeN C n ks.length sp (fun vs zs => vs ++ zs) E0 t tk) := by
  obtain ⟨f, fd, g, hm, M, hb, ok⟩ := F.ex
  exact pe_makeN M ok hr hg hm hb pass0 ha hkw hall hks hdb he hpl
theorem pe_fldK {X : Cx} {K : PySem.W.Frag} {e : Expr} {ta : TE} {f : Str} {pos : Pos} (he : PE X e ta) (hK : X.K = K) (hb : attributeBase e f X.env (eval e X.env) = eval e X.env) : PE X (.Attribute e f pos) (tFld K ta f) := by
  subst hK
  exact pe_fld he hb
/-! ### own operators that raise -/
def OpRS (X : Cx) (f : Value → Value → Sem Value) (r : L2.St → R2) : Prop :=
  ∀ (pins : List (Addr × Obj)) (s : Shared) (σ : L2.St) (H : Hp) (x y : V) (v u : Value) (Q : VK), Inv X pins σ H s → RelV x v → RelV y u → r σ x y H Q → wpAny (model X.prog X.w) X.A (f v u) (EP X pins σ Q) X.xe s
def tOpS (r : L2.St → R2) (ta tb : TE) : TE := fun σ H Q => ta σ H fun x H1 => tb σ H1 fun y H2 => r σ x y H2 Q
theorem pe_opS {X : Cx} {a b : Expr} {ta tb : TE} {pos : Pos} {op : Operator} {r : L2.St → R2} (ho : OpRS X (binaryOp op) r) (ha : PE X a ta) (hb : PE X b tb) : PE X (.BinOp a op b pos) (tOpS r ta tb) :=
  ⟨fun pins s σ H Q I h => wpAny_BinOp (binT ha hb I h fun v u s2 x y H2 J rx ry q => ho pins s2 σ H2 x y v u Q J rx ry q)⟩
def rOwnLX (C : Addr) (sp : Sp) (W : WX) : L2.St → R2 := fun σ x y H Q => ∃ a dx fs i, x = .ref a ∧ y = .int i ∧ H a = some (.ins C dx fs) ∧ sp [x, y] H Q (wAt W σ)
def rOwnRX (C : Addr) (sp : Sp) (W : WX) : L2.St → R2 := fun σ x y H Q => ∃ a dx fs i, y = .ref a ∧ x = .int i ∧ H a = some (.ins C dx fs) ∧ sp [y, x] H Q (wAt W σ)
structure OprLX (P : Program) (w : World) (K : PySem.W.Frag) (mg : Str → Option Value) (base : Heap) (C : Addr) (op : Operator) (ps : List Str) (k : Nat) (sp : Sp) : Prop where
  ex : ∃ (f : Addr) (fd : FuncData), OwnL K C op f ∧ Binds K fd ps [] ∧ FnOk P w K mg base (L2.CX P w) k f fd ps sp
structure OprRX (P : Program) (w : World) (K : PySem.W.Frag) (mg : Str → Option Value) (base : Heap) (C : Addr) (op : Operator) (ps : List Str) (k : Nat) (sp : Sp) : Prop where
  ex : ∃ (f : Addr) (fd : FuncData), OwnR K C op f ∧ Binds K fd ps [] ∧ FnOk P w K mg base (L2.CX P w) k f fd ps sp
section
variable {X : Cx} {C f : Addr} {ps : List Str} {k : Nat} {sp : Sp} {op : Operator} {W : WX}
theorem op_LX (F : OprLX X.prog X.w X.K X.mg X.base C op ps k sp) (tk : Takes X W) (hr : Room k X.A) : OpRS X (binaryOp op) (rOwnLX C sp W) := by
  rintro pins s σ H x y v u Q I rx ry ⟨a, dx, fs, i, rfl, rfl, ea, q⟩
  obtain ⟨f, fd, O, hb, ok⟩ := F.ex
  cases rx
  obtain ⟨t, rfl⟩ := ry
  obtain ⟨mA, O', _⟩ := ins_get I.hok ea
  obtain ⟨od, J, _⟩ := O'.look
  obtain ⟨m, Fr⟩ := I.fr
  obtain ⟨rc, hrc, hp⟩ := O.rr
  obtain ⟨fo, h1⟩ := O.i1
  obtain ⟨ro, h2⟩ := O.i2
  refine PySem.W.ksp_binT Fr I.mod.kin J rfl O.sf O.find O.fn hrc hp h1 h2 O.sub ?_
  refine thn (run_fnX (us := [.ref a, .int i t]) (vs := [.ref a, .int i]) ok hr hb .nil tk I (.cons rfl (.cons ⟨t, rfl⟩ .nil)) q) fun u' s' ⟨v', H', I', rv, hv⟩ => ?_
  exact relV_back rv ⟨v', H', I', rv, hv⟩
theorem op_RX (F : OprRX X.prog X.w X.K X.mg X.base C op ps k sp) (N : IntNo op) (tk : Takes X W) (hr : Room k X.A) : OpRS X (binaryOp op) (rOwnRX C sp W) := by
  rintro pins s σ H x y v u Q I rx ry ⟨a, dx, fs, i, rfl, rfl, ea, q⟩
  obtain ⟨f, fd, O, hb, ok⟩ := F.ex
  cases ry
  obtain ⟨t, rfl⟩ := rx
  obtain ⟨mA, O', _⟩ := ins_get I.hok ea
  obtain ⟨od, J, _⟩ := O'.look
  obtain ⟨m, Fr⟩ := I.fr
  obtain ⟨rc, hrc, hp⟩ := O.ll
  obtain ⟨idl, slot, dec⟩ := N.ex
  refine own_right Fr I.mod.kin J O.sf hrc hp O.find O.fn O.sub N.fills slot (fun Q' hq => dec O'.obj rfl hq) ?_
  refine thn (run_fnX (us := [.ref a, .int i t]) (vs := [.ref a, .int i]) ok hr hb .nil tk I (.cons rfl (.cons ⟨t, rfl⟩ .nil)) q) fun u' s' ⟨v', H', I', rv, hv⟩ => ?_
  exact relV_back rv ⟨v', H', I', rv, hv⟩
end

/-! ### o op p, both of one own class -/
section
open PySem.W PySem.Calls PyProof.Rows
theorem own_same {prog : Program} {w : World} {A : Around} {E : Value → Shared → Prop} {s : Shared} {K : Frag} {x C L f : Addr} {h₀ : Heap} {m : Str → Option Value} {ox : Obj} {od : Option Obj} {v : Value} {op : Operator} {Q : Value → Shared → Prop}
    (F : Fr h₀ L s.heap m) (X₀ : K.In h₀) (I : InstAt s.heap x ox C od) (hv : Looks (model prog w) s.heap (typeOf v) (.ref C)) (hc : selfFirst K C = true)
    (hs : findIn K (.ref C) (PySem.dunder op.info.2) = some (some (.ref f))) (hf : isFn K (.ref f) = true) (h : wpAny (model prog w) A (call (.ref f) [.ref x, v]) (PySem.W.CmpBack Q) E s) : wpAny (model prog w) A (binaryOp op (.ref x) v) Q E s := by
  have X := X₀.keeps F.keep
  obtain ⟨cd, rest, hcd, hm⟩ := ksp_first hc
  rcases hi : op.info with ⟨sym, nm'⟩
  rw [hi] at hs
  dsimp only at hs
  have one := ksp_try X I hs hf h
  obtain ⟨hh, g, d, tt, os⟩ := s
  have L3 : Looks (model prog w) hh (fillsNumberSlot (.ref C) nm') true := fills_K X hcd hm hs
  simp only [binaryOp, hi]
  refine wpAny_holding (wpAny_bind ?_)
  unfold binaryOp1
  refine wpAny_bind (I.type.at (wpAny_bind (hv.at (wpAny_bind (L3.at ?_)))))
  simp only [beq_self_eq_true, if_true, pure_bind, Bool.and_false, Bool.false_and, Bool.false_eq_true, if_false]
  refine wpAny_bind (wpAny_mono one (fun r s2 hr2 => ?_) fun _ _ e => e)
  obtain ⟨u, rfl, hq⟩ := hr2
  exact wpAny_pure (wpAny_pure hq)
end
structure OwnS (K : PySem.W.Frag) (C : Addr) (op : Operator) (f : Addr) : Prop where
  sf : PySem.W.selfFirst K C = true
  find : PySem.W.findIn K (.ref C) (PySem.dunder op.info.2) = some (some (.ref f))
  fn : PySem.W.isFn K (.ref f) = true
structure OprSX (P : Program) (w : World) (K : PySem.W.Frag) (mg : Str → Option Value) (base : Heap) (C : Addr) (op : Operator) (ps : List Str) (k : Nat) (sp : Sp) : Prop where
  ex : ∃ (f : Addr) (fd : FuncData), OwnS K C op f ∧ Binds K fd ps [] ∧ FnOk P w K mg base (L2.CX P w) k f fd ps sp
def rOwnSX (C : Addr) (sp : Sp) (W : WX) : L2.St → R2 := fun σ x y H Q => ∃ a dx fs b dy gs, x = .ref a ∧ y = .ref b ∧ H a = some (.ins C dx fs) ∧ H b = some (.ins C dy gs) ∧ sp [x, y] H Q (wAt W σ)
theorem op_SX {X : Cx} {C : Addr} {ps : List Str} {k : Nat} {sp : Sp} {op : Operator} {W : WX} (F : OprSX X.prog X.w X.K X.mg X.base C op ps k sp) (tk : Takes X W) (hr : Room k X.A) : OpRS X (binaryOp op) (rOwnSX C sp W) := by
  rintro pins s σ H x y v u Q I rx ry ⟨a, dx, fs, b, dy, gs, rfl, rfl, ea, eb, q⟩
  obtain ⟨f, fd, O, hb, ok⟩ := F.ex
  cases rx
  cases ry
  obtain ⟨mA, O', _⟩ := ins_get I.hok ea
  obtain ⟨od, J, _⟩ := O'.look
  obtain ⟨mB, O2, _⟩ := ins_get I.hok eb
  obtain ⟨od2, J2, _⟩ := O2.look
  obtain ⟨m, Fr⟩ := I.fr
  refine own_same Fr I.mod.kin J J2.type O.sf O.find O.fn ?_
  refine thn (run_fnX (us := [.ref a, .ref b]) (vs := [.ref a, .ref b]) ok hr hb .nil tk I (.cons rfl (.cons rfl .nil)) q) fun u' s' ⟨v', H', I', rv, hv⟩ => ?_
  exact relV_back rv ⟨v', H', I', rv, hv⟩

/-! ### C.m(..), m a staticmethod -/
structure SMth (P : Program) (w : World) (K : PySem.W.Frag) (mg : Str → Option Value) (base : Heap) (C : Addr) (m : Str) (ps : List Str) (k : Nat) (sp : Sp) : Prop where
  cr : ClX.CRead K C (.type "type")
  ex : ∃ (f p : Addr) (rest : List Value) (fd : FuncData), PySem.W.findCls K (.ref C) (.type "type") m = some (.get (.builtin "staticmethod.__get__") (.ref p) .none (.ref C)) ∧ PySem.W.recIn K p "staticmethod" = some (.ref f :: rest) ∧ PySem.W.keepIn K (.ref f) = true ∧ Binds K fd ps [] ∧ FnOk P w K mg base CX0 k f fd ps sp
def tSMth (C : Addr) (sp : Sp) (to : TE) (t : TA) : TE := fun σ H Q => to σ H fun x H1 => x = .ref C ∧ t σ H1 fun vs H2 => sp (vs ++ []) H2 Q E0
theorem pe_smth {X : Cx} {C : Addr} {m : Str} {ps : List Str} {k : Nat} {sp : Sp} {o e : Expr} {es : List Expr} {to : TE} {t : TA} {pos apos : Pos} {pl : Sem Bool} (F : SMth X.prog X.w X.K X.mg X.base C m ps k sp) (hr : Room k X.A) (ho : PE X o to) (ha : PA X (e :: es) t)
    (hst : starEach (e :: es) X.env = (false, eval e X.env) :: starEach es X.env := by rfl) (hpl : (backTo pos (starEach es X.env)).any (·.1) = false := by rfl)
    (ht : eval (.Call (.Attribute o m apos) (e :: es) [] pos) X.env = (do
      let ov ← eval o X.env; standAt apos.atName
      let (f, first) ← holding [ov] (getMethod ov m pl)
      callWith pos f first (backTo pos (starEach (e :: es) X.env)) (backToKw pos (keywordEach [] X.env))) := by rfl) :
    PE X (.Call (.Attribute o m apos) (e :: es) [] pos) (tSMth C sp to t) := ⟨fun pins s σ H Q I h => by
  obtain ⟨f, p, rest, fd, hfc, hrc, hk, hb, ok⟩ := F.ex
  refine PySem.W.methodCall_KW (pl := pl) (thn (ho.run pins s σ H _ I h) fun u s1 hs => ?_) ht
  obtain ⟨x, H1, J, rx, ex, q⟩ := hs
  subst ex
  cases rx
  refine PySem.W.method_cls J.kIn F.cr.ga (PySem.W.cls_bind J.kIn F.cr.rd hfc (wpAny_call (PySem.W.sm_get (s := { s1 with toks := s1.toks + 1 }) J.kIn hrc ?_)))
  refine PySem.W.handed_on rfl ?_
  have J' := J.tok (s1.toks + 1)
  refine PySem.W.callWith_K (h₀ := X.base) J.ok.mod.kin hk (thn (ha.run pos pins _ σ H1 _ J' q) fun us s2 hs => ?_) hst hpl
  obtain ⟨vs, H2, J2, r, q2⟩ := hs
  exact ⟨J2.kIn, run_fn ok hr hb .nil pass0 J2 r q2⟩⟩

/-! ### x not in o, by an own __contains__ -/
def rOwnNin (C : Addr) (sp : Sp) : R2 := fun x y H Q => ∃ a dx fs, y = .ref a ∧ H a = some (.ins C dx fs) ∧ sp [y, x] H (fun v H' => ∃ c, v = .bl c ∧ Q (.bl (!c)) H') E0
theorem op_notin {X : Cx} {C : Addr} {ps : List Str} {k : Nat} {sp : Sp} (F : Opr X.prog X.w X.K X.mg X.base C "__contains__" ps k sp) (hr : Room k X.A) : OpR X (compareOp .NotIn) (rOwnNin C sp) := by
  rintro pins s σ H x y v u Q I rx ry ⟨a, dx, fs, rfl, ea, q⟩
  obtain ⟨f, fd, O, hb, ok⟩ := F.ex
  cases ry
  obtain ⟨mA, O', _⟩ := ins_get I.hok ea
  obtain ⟨od, J, _⟩ := O'.look
  obtain ⟨m, Fr⟩ := I.fr
  refine PySem.W.notIn_K Fr I.mod.kin J O.find O.fn ?_
  refine thn (run_fn (us := [.ref a, v]) (vs := [.ref a, x]) ok hr hb .nil pass0 I (.cons rfl (.cons rx .nil)) q) fun u' s' hs => ?_
  obtain ⟨v', H', I', rv, b, rfl, q'⟩ := hs
  cases rv
  exact wpAny_truthy_bool ⟨.bl (!b), H', I', rfl, q'⟩

/-! ### a caught error of an own class: isinstance -/
/-- what the class D must say, so that isinstance asks its instances rightly -/
structure XIs (K : PySem.W.Frag) (D : Addr) : Prop where
  x : XfC K D
  cl : (PySem.W.clsIn K D).isSome = true
  ha : PySem.W.findIn K (.ref D) "__class__" = some (some (.builtin "object.__class__"))
  hn : PySem.W.specialIn K (.builtin "object.__class__") "__get__" = some (some (.builtin "getset_descriptor.__get__"))
  ht : PySem.W.takesIn K (.builtin "object.__class__") = some true
  hm : PySem.W.mroIn K D (.type "object") = some true
def rIsX (K : PySem.W.Frag) (a : Addr) (cls : Value) (d : Option Addr) (D : Addr) : List V → Hp → VK → Prop := fun xs H Q => ∃ (c : V) (cv : Value) (b : Bool) (dd : Addr) (fs : List (Str × V)), xs = [.ref a, c] ∧ cls = .ref D ∧ d = some dd ∧ H dd = some (.xd fs) ∧
  (∀ u, RelV c u → u = cv) ∧ PySem.W.kitOne K (.ref D) cv = some b ∧ Q (.bl b) H
theorem call_isX {X : Cx} {a D : Addr} {oe : Obj} {cls : Value} {d : Option Addr} {pn : List (Addr × Obj)} (N : XIs X.K D) (hz : Zc cls d oe) (hf : ∃ vs, oe.data = .fields vs) : CallR (X.suite a ((a, oe) :: pn)) (.builtin "isinstance") (rIsX X.K a cls d D) := by
  rintro pins s σ H xs us Q I r ⟨c, cv, b, dd, fs, rfl, rfl, rfl, ed, hcv, e, q⟩
  match us, r with
  | [u0, u1], .cons rx (.cons rt .nil) =>
    cases rx
    have ec := hcv _ rt
    subst ec
    have hget := (I.pin (a, oe) (List.mem_append.mpr (.inl List.mem_cons_self))).1
    obtain ⟨vs, hv⟩ := hf
    have hx : ObjOk X.prog X.w H s.heap dd (.xd fs) := I.hok dd _ ed
    obtain ⟨mA, hns, hrel⟩ := hx
    obtain ⟨od, ho, hl⟩ := lookIn_ns hns
    have J : PySem.W.InstAt s.heap a oe D (some od) := ⟨hget, hz.1, by unfold PySem.W.notCls; rw [hv] <;> rfl, by rw [hz.2]; exact ho⟩
    exact PySem.W.kia_one (PySem.W.kitx_exc N.cl N.x.ga N.x.gg N.x.exC N.ha N.hn N.ht N.hm) I.kIn J e (fun z => nomatch z) fun tk => ⟨.bl b, H, I.kept (t' := tk) fun _ _ z => z, rfl, q⟩
/-- the clause's test: the very class -/
theorem exm_own {K : PySem.W.Frag} {C : Addr} {cls : Value} {b : Bool} (h1 : PySem.W.subIn K (.ref C) (.type "BaseException") = some true) (hc : (PySem.W.clsIn K C).isSome = true) (ht : PySem.W.typeIn K (.ref C) = some (.type "type")) (h4 : PySem.W.subIn K cls (.ref C) = some b) :
    PySem.W.exmOne K cls (.ref C) = some b := by
  have e1 : (PySem.W.subIn K (.ref C) (.type "BaseException") == some true) = true := by rw [h1] <;> rfl
  have e2 : ((PySem.W.clsIn K C).isSome && PySem.W.typeIn K (.ref C) == some (.type "type")) = true := by rw [hc, ht] <;> rfl
  show (if (PySem.W.subIn K (.ref C) (.type "BaseException") == some true) = true then (if ((PySem.W.clsIn K C).isSome && PySem.W.typeIn K (.ref C) == some (.type "type")) = true then PySem.W.subIn K cls (.ref C) else none) else none) = some b
  rw [if_pos e1, if_pos e2, h4]
/-- all that is used of an own error class -/
structure ETxt (K : PySem.W.Frag) (mg : Str → Option Value) (x : Str) (C : Addr) : Prop where
  g : mg x = some (.ref C)
  oex : OexC K C
  is : XIs K C
  te : PySem.W.exmOne K (.ref C) (.ref C) = some true
theorem kit_xC {K : PySem.W.Frag} {t : Value} {D : Addr} {b : Bool} (h1 : PySem.W.isClsIn K D = true) (h2 : PySem.W.typeIn K (.ref D) = some (.type "type")) (h3 : PySem.W.subIn K t (.ref D) = some b) : (t = .ref D → b = true) → PySem.W.kitOne K t (.ref D) = some b := fun hb => by
  unfold PySem.W.kitOne
  by_cases e : t = .ref D
  · rw [if_pos (beq_iff_eq.mpr e), hb e]
  · rw [if_neg (fun z => e (beq_iff_eq.mp z))]
    have q : ((PySem.W.clsIn K D).isSome && PySem.W.typeIn K (.ref D) == some (.type "type")) = true := by
      rw [h2, show (PySem.W.clsIn K D).isSome = true from h1]
      rfl
    show (if ((PySem.W.clsIn K D).isSome && PySem.W.typeIn K (.ref D) == some (.type "type")) = true then PySem.W.subIn K t (.ref D) else none) = some b
    rw [if_pos q, h3]
theorem kit_xT {K : PySem.W.Frag} {C : Addr} {b : Bool} (h3 : PySem.W.subIn K (.ref C) (.type "ValueError") = some b) : PySem.W.kitOne K (.ref C) (.type "ValueError") = some b := by
  have km : PySem.W.kitMeta "ValueError" = true := by decide +kernel
  have e : PySem.W.kitCls K (.ref C) (.type "ValueError") = some b := by
    show (if PySem.W.kitMeta "ValueError" = true then PySem.W.subIn K (.ref C) (.type "ValueError") else none) = some b
    rw [if_pos km]
    exact h3
  show (if ((Value.ref C) == (.type "ValueError")) = true then some true else PySem.W.kitCls K (.ref C) (.type "ValueError")) = some b
  have ne : ¬ ((Value.ref C == .type "ValueError") = true) := fun z => by cases beq_iff_eq.mp z
  rw [if_neg ne]
  exact e
/-! ### what such an __init__ leaves, and raise -/
/-- __init__(self, x): self.f = x -/
def spErr1 (C : Addr) (f : Str) (ok : V → Prop) : Sp := fun vs H Q _ => ∃ (a : Addr) (v : V), vs = [.ref a, v] ∧ H a = some (exo a C none) ∧ ok v ∧ ∀ d, H d = none → d ≠ a → Q .non (upd (upd H d (exd d [(f, v)])) a (exo a C (some d)))
/-- __init__(self, x, y): self.f = x; self.g = y -/
def spErr2 (C : Addr) (f g : Str) (ok : V → V → Prop) : Sp := fun vs H Q _ => ∃ (a : Addr) (v u : V), vs = [.ref a, v, u] ∧ H a = some (exo a C none) ∧ ok v u ∧ ∀ d, H d = none → d ≠ a → Q .non (upd (upd (upd H d (exd d [(f, v)])) a (exo a C (some d))) d (exd d [(g, u), (f, v)]))
section
variable {K : PySem.W.Frag} {H : Hp} {C : Addr} {f g : Str}
/-- an error with one field is made -/
theorem rErr1 {ok : V → Prop} {v : V} {R : XK} (o : ok v) (h : ∀ d H', H d = none → Same H H' → H' d = some (.xd [(f, v)]) → R (.ref C) (some d) H') :
    [v].length ≤ 1000 ∧ ∀ a, H a = none → spErr1 C f ok (.ref a :: ([v] ++ [])) (upd H a (exo a C none)) (fun z H2 => z = .non ∧ ∃ (d : Addr) (fs : List (Str × V)), H2 a = some (exo a C (some d)) ∧ H2 d = some (exd d fs) ∧ H d = none ∧ R (.ref C) (some d) (upd (del H2 a) d (.xd fs))) (fun _ _ _ => False) := by
  refine ⟨(by show 1 ≤ 1000; decide), fun a ha => ⟨a, v, rfl, upd_same, o, fun d hd ne => ⟨rfl, d, _, upd_same, ?_, ?_, h _ _ ?_ (fun b u e => ?_) upd_same⟩⟩⟩
  · rw [upd_ne ne, upd_same]
  · rwa [upd_ne ne] at hd
  · rwa [upd_ne ne] at hd
  · have hd' : H d = none := by rwa [upd_ne ne] at hd
    have nd : b ≠ d := ne_of_none e hd'
    have na : b ≠ a := ne_of_none e ha
    rw [upd_ne nd, del_ne na, upd_ne na, upd_ne nd, upd_ne na, e]
theorem rErr2 {ok : V → V → Prop} {v u : V} {R : XK} (o : ok v u) (h : ∀ d H', H d = none → Same H H' → H' d = some (.xd [(g, u), (f, v)]) → R (.ref C) (some d) H') :
    [v, u].length ≤ 1000 ∧ ∀ a, H a = none → spErr2 C f g ok (.ref a :: ([v, u] ++ [])) (upd H a (exo a C none)) (fun z H2 => z = .non ∧ ∃ (d : Addr) (fs : List (Str × V)), H2 a = some (exo a C (some d)) ∧ H2 d = some (exd d fs) ∧ H d = none ∧ R (.ref C) (some d) (upd (del H2 a) d (.xd fs))) (fun _ _ _ => False) := by
  refine ⟨(by show 2 ≤ 1000; decide), fun a ha => ⟨a, v, u, rfl, upd_same, o, fun d hd ne => ⟨rfl, d, _, ?_, upd_same, ?_, h _ _ ?_ (fun b u e => ?_) upd_same⟩⟩⟩
  · rw [upd_ne (Ne.symm ne), upd_same]
  · rwa [upd_ne ne] at hd
  · rwa [upd_ne ne] at hd
  · have hd' : H d = none := by rwa [upd_ne ne] at hd
    have nd : b ≠ d := ne_of_none e hd'
    have na : b ≠ a := ne_of_none e ha
    rw [upd_ne nd, del_ne na, upd_ne nd, upd_ne na, upd_ne nd, upd_ne na, e]
theorem lk_hd {f : Str} {v : V} {fs : List (Str × V)} : ((f, v) :: fs).lookup f = some v := by simp [List.lookup]
theorem lk_tl {f g : Str} {v u : V} {fs : List (Str × V)} (n : (f == g) = false) (h : fs.lookup f = some v) : ((g, u) :: fs).lookup f = some v := by simp [List.lookup, n, h]
theorem rCat_ {l b : Addr} {xs zs : List V} {Q : VK} (h1 : H l = some (.lst xs)) (h2 : H b = some (.lst zs)) (hz : xs.length + zs.length ≤ sizeLine) (h : ∀ p, H p = none → Q (.ref p) (upd H p (.lst (xs ++ zs)))) : rCat (.ref l) (.ref b) H Q := ⟨l, b, xs, zs, rfl, rfl, h1, h2, hz, h⟩
/-- a tuple is unpacked -/
theorem rTupU {a : Addr} {n : Nat} {xs : List V} {t : TGs} {σ : L2.St} {R : L2.St → Hp → Prop} (h : SqT K H a xs) (l : xs.length = n) (q : t xs σ H R) : gTup K n t (.ref a) σ H R := ⟨a, xs, rfl, h, l, q⟩
/-- the clause takes it -/
theorem rTake {c cls : Value} {i : Nat} {ts : Addr → Value → Option Addr → TS} {Wout : WX} {D : Ends} {σ : L2.St} {d : Option Addr} (te : PySem.W.exmOne K cls c = some true)
    (h : ∀ a, H a = none → ts a cls d { nx := fun σ' H' => D.nx (σ'.set i none) H', rt := D.rt, bk := fun σ' H' => D.bk (σ'.set i none) H', ct := fun σ' H' => D.ct (σ'.set i none) H' } (σ.set i (some (.ref a))) H) : wAs K c i ts Wout D cls d σ H :=
  ⟨true, te, fun _ => h, fun z => nomatch z⟩
/-- e.f of the caught error -/
theorem rXf {a dd : Addr} {fs : List (Str × V)} {v : V} {R : V → Prop} (hd : H dd = some (.xd fs)) (l : fs.lookup f = some v) (r : R v) :
    (V.ref a : V) = .ref a ∧ (Value.ref C : Value) = .ref C ∧ ∃ (d' : Addr) (fs : List (Str × V)) (v : V), some dd = some d' ∧ H d' = some (.xd fs) ∧ fs.lookup f = some v ∧ R v := ⟨rfl, rfl, dd, fs, v, rfl, hd, l, r⟩
theorem rIsX_ {c : V} {cv : Value} {b : Bool} {a dd D : Addr} {fs : List (Str × V)} {Q : VK} (hd : H dd = some (.xd fs)) (hc : ∀ u, RelV c u → u = cv) (k : PySem.W.kitOne K (.ref D) cv = some b) (q : Q (.bl b) H) : rIsX K a (.ref D) (some dd) D [.ref a, c] H Q :=
  ⟨c, cv, b, dd, fs, rfl, rfl, rfl, hd, hc, k, q⟩
theorem rIsXC {E : Addr} {b : Bool} {a dd D : Addr} {fs : List (Str × V)} {Q : VK} (hd : H dd = some (.xd fs)) (k : PySem.W.kitOne K (.ref D) (.ref E) = some b) (q : Q (.bl b) H) : rIsX K a (.ref D) (some dd) D [.ref a, .ref E] H Q :=
  rIsX_ hd (fun _ h => h) k q
theorem rIsXT {T : String} {b : Bool} {a dd D : Addr} {fs : List (Str × V)} {Q : VK} (hd : H dd = some (.xd fs)) (k : PySem.W.kitOne K (.ref D) (.type T) = some b) (q : Q (.bl b) H) : rIsX K a (.ref D) (some dd) D [.ref a, .ty T] H Q :=
  rIsX_ hd (fun _ h => h) k q
end
/-- a loop over range(i, j) -/
theorem forW {D : Ends} {σ : L2.St} {H : Hp} {g : TG} {tb : TS} {i j : Int} (n : Nat) (e : (j - i).toNat = n) (Pv : Nat → L2.St → Hp → Prop) (h0 : Pv 0 σ H)
    (hs : ∀ k σ H, k < n → Pv k σ H → g (.int (i + (k : Int))) σ H fun σ2 H2 => tb ⟨Pv (k + 1), D.rt, D.nx, Pv (k + 1)⟩ σ2 H2) (hd : ∀ σ H, Pv n σ H → D.nx σ H) :
    ∃ i' j', [V.int i, V.int j] = [V.int i', V.int j'] ∧ ∃ W : Nat → Nat → L2.St → Hp → Prop, (∃ m, W 0 m σ H) ∧ ∀ k m σ H, W k m σ H →
      ((Itr i' (j' - i').toNat).stop k H ∧ D.nx σ H) ∨ ((Itr i' (j' - i').toNat).go k H ∧ ∃ N : L2.St → Hp → Prop, (∀ σ' H', N σ' H' → ∃ m', m' < m ∧ W (k + 1) m' σ' H') ∧ ∀ x H', (Itr i' (j' - i').toNat).yld k H x H' → g x σ H' fun σ2 H2 => tb { D with nx := N, ct := N, bk := D.nx } σ2 H2) := by
  subst e
  exact ⟨i, j, rfl, for_range (lo := i) (n := (j - i).toNat) Pv h0 hs hd⟩
theorem rMin2 {i j : Int} {H : Hp} {Q : VK} (h : Q (.int (if j < i then j else i)) H) : ∃ i' j', [V.int i, V.int j] = [V.int i', V.int j'] ∧ Q (.int (if j' < i' then j' else i')) H := ⟨i, j, rfl, h⟩
section
variable {D : Ends} {σ : L2.St} {H : Hp} {Q : VK} {sp : Sp} {dvs : List V} {W : WX} {t : TA} {ta tb te : TE} {C : Addr} {R : XK} {K : PySem.W.Frag} {f m : Str}
instance : Rd (tCallX sp dvs W t σ H Q) (t σ H fun vs H1 => sp (vs ++ dvs) H1 Q (wAt W σ)) := ⟨fun h => h⟩
instance : Rd (tMakeX C sp dvs W t σ H Q) (t σ H fun vs H1 => ∀ x dx, H1 x = none → H1 dx = none → dx ≠ x →
  sp (.ref x :: (vs ++ dvs)) (upd (upd H1 dx (.own x)) x (.ins C dx [])) (fun v H2 => v = .non ∧ Q (.ref x) H2) (wAt W σ)) := ⟨fun h => h⟩
instance : Rd (tMethX C m sp dvs W ta t σ H Q) (ta σ H fun x H1 => ∃ a dx fs, x = .ref a ∧ H1 a = some (.ins C dx fs) ∧ fs.lookup m = none ∧ t σ H1 fun vs H2 => sp (x :: (vs ++ dvs)) H2 Q (wAt W σ)) := ⟨fun h => h⟩
instance {to : TE} : Rd (tSMth C sp to t σ H Q) (to σ H fun x H1 => x = .ref C ∧ t σ H1 fun vs H2 => sp (vs ++ []) H2 Q E0) := ⟨fun h => h⟩
instance {r : L2.St → R2} : Rd (tOpS r ta tb σ H Q) (ta σ H fun x H1 => tb σ H1 fun y H2 => r σ x y H2 Q) := ⟨fun h => h⟩
instance : Rd (tMkO C sp dvs t σ H R) (t σ H fun vs H1 => vs.length ≤ 1000 ∧ ∀ a, H1 a = none → sp (.ref a :: (vs ++ dvs)) (upd H1 a (exo a C none))
  (fun v H2 => v = .non ∧ ∃ (d : Addr) (fs : List (Str × V)), H2 a = some (exo a C (some d)) ∧ H2 d = some (exd d fs) ∧ H1 d = none ∧ R (.ref C) (some d) (upd (del H2 a) d (.xd fs))) (fun _ _ _ => False)) := ⟨fun h => h⟩
instance : Rd (tVeI K t σ H Q) (t σ H fun vs H1 => ∃ (a C : Addr) (ws : List V), vs = .ref a :: ws ∧ ws.length ≤ 1000 ∧ OexC K C ∧ H1 a = some (exo a C none) ∧ Q .non H1) := ⟨fun h => h⟩
instance : Rd (tOst K f ta te D σ H) (te σ H fun y H1 => ta σ H1 fun x H2 => ∃ a C : Addr, x = .ref a ∧ OexC K C ∧ PySem.W.findIn K (.ref C) f = some none ∧
  ((H2 a = some (exo a C none) ∧ ∀ dx, H2 dx = none → dx ≠ a → D.nx σ (upd (upd H2 dx (exd dx [(f, y)])) a (exo a C (some dx)))) ∨
    ∃ (dx : Addr) (fs : List (Str × V)), H2 a = some (exo a C (some dx)) ∧ H2 dx = some (exd dx fs) ∧ fs.length ≤ 900 ∧ D.nx σ (upd H2 dx (exd dx ((f, y) :: fs))))) := ⟨fun h => h⟩
instance {a : Addr} {cls : Value} {d : Option Addr} : Rd (tXf a cls d C f te σ H Q) (te σ H fun x H1 => x = .ref a ∧ cls = .ref C ∧ ∃ (dd : Addr) (fs : List (Str × V)) (v : V), d = some dd ∧ H1 dd = some (.xd fs) ∧ fs.lookup f = some v ∧ Q v H1) := ⟨fun h => h⟩
instance {n m : Nat} {gV : List V → List V → List V} {E : XK} {tk : TA} : Rd (tMakeN C n m sp gV E t tk σ H Q) (t σ H fun vs H1 => tk σ H1 fun zs H2 => vs.length = n ∧ zs.length = m ∧
  ∀ x dx, H2 x = none → H2 dx = none → dx ≠ x → sp (gV (.ref x :: vs) zs) (upd (upd H2 dx (.own x)) x (.ins C dx [])) (fun v H3 => v = .non ∧ Q (.ref x) H3) E) := ⟨fun h => h⟩
instance {i j : Nat} : Rd (tPar i j t D σ H) (t σ H fun vs H1 => ∃ v w, vs = [v, w] ∧ D.nx ((σ.set i (some v)).set j (some w)) H1) := ⟨fun h => h⟩
instance {x y : V} {R : V → V → Prop} : Rd (∃ v w, [x, y] = [v, w] ∧ R v w) (R x y) := ⟨fun h => ⟨x, y, rfl, h⟩⟩
instance {QI : It → Hp → Prop} : Rd (iRngW t σ H QI) (t σ H fun vs H1 => ∃ i j : Int, vs = [.int i, .int j] ∧ QI (Itr i (j - i).toNat) H1) := ⟨fun h => h⟩
instance : Rd (tRevL K te σ H Q) (te σ H fun x H1 => ∃ a xs, x = .ref a ∧ SqL K H1 a xs ∧ ∀ p, H1 p = none → Q (.ref p) (upd H1 p (.lst xs.reverse))) := ⟨fun h => h⟩
instance {y : V} {ys : List V} {S : V → List V → Prop} : Rd (∃ v r, (y :: ys) = v :: r ∧ S v r) (S y ys) := ⟨fun h => ⟨y, ys, rfl, h⟩⟩
instance {R : Prop} : Rd (([] : List V) = [] ∧ R) R := ⟨fun h => ⟨rfl, h⟩⟩
instance {tg : TG} {u : TGs} {vs : List V} {QS : L2.St → Hp → Prop} : Rd (gCons tg u vs σ H QS) (∃ v r, vs = v :: r ∧ tg v σ H fun σ' H' => u r σ' H' QS) := ⟨fun h => h⟩
instance {vs : List V} {QS : L2.St → Hp → Prop} : Rd (gNil vs σ H QS) (vs = [] ∧ QS σ H) := ⟨fun h => h⟩
instance {d : Option Addr} {cls : Value} : Rd (wAt W σ cls d H) (W cls d σ H) := ⟨fun h => h⟩
end
section
variable {σ τ : L2.St} {H : Hp} {g : TG} {tt : TT} {te : TE} {vs : List Nat}
/-- over a tuple that stands still -/
theorem lcT {K : PySem.W.Frag} {a : Addr} {xs : List V} {R : Addr → Hp → Prop} (ew : wipe σ vs = τ) (hx : SqT K H a xs)
    (h : ∀ D, H D = none → ∃ Pv : Nat → Hp → Prop, Pv 0 (upd H D (.lst [])) ∧ (∀ i H', i ≤ xs.length → Pv i H' → SqT K H' a xs) ∧
      (∀ i x H', xs[i]? = some x → Pv i H' → g x τ H' fun σ2 H2 => wipe σ2 vs = τ ∧ tt σ2 H2 fun b H3 =>
        if b = true then te σ2 H3 fun y H4 => ∃ acc, H4 D = some (.lst acc) ∧ acc.length < sizeLine ∧ Pv (i + 1) (upd H4 D (.lst (acc ++ [y]))) else Pv (i + 1) H3) ∧ ∀ H', Pv xs.length H' → R D H') :
    ∃ a', V.ref a = V.ref a' ∧ (∃ xs, SqT K H a' xs) ∧ ∀ D, H D = none → ∃ W : Nat → Nat → Hp → Prop, (∃ m, W 0 m (upd H D (.lst []))) ∧ ∀ i m H, W i m H →
      ((Itt K a').stop i H ∧ R D H) ∨ ((Itt K a').go i H ∧ ∃ Nx : Hp → Prop, (∀ H', Nx H' → ∃ m', m' < m ∧ W (i + 1) m' H') ∧ ∀ x H', (Itt K a').yld i H x H' → g x (wipe σ vs) H' fun σ2 H2 => wipe σ2 vs = wipe σ vs ∧ tt σ2 H2 fun b H3 =>
        if b = true then te σ2 H3 fun y H4 => ∃ acc, H4 D = some (.lst acc) ∧ acc.length < sizeLine ∧ Nx (upd H4 D (.lst (acc ++ [y]))) else Nx H3) := by
  subst ew
  refine ⟨a, rfl, ⟨xs, hx⟩, fun D hD => ?_⟩
  obtain ⟨Pv, h0, hl, hs, hd⟩ := h D hD
  exact lc_tup Pv h0 hl hs hd
end
end Bar

set_option Elab.async false
set_option linter.all false
set_option maxRecDepth 100000
set_option maxHeartbeats 4000000
namespace Bar
open PySem L2 PySem.Spec PyProof.Rows
/-- several clauses that give what they take one and the same name -/
abbrev TakeL := List (Value × (Addr → Value → Option Addr → TS))
def wAll (K : PySem.W.Frag) (i : Nat) (Wout : WX) (D : Ends) : TakeL → WX
  | [] => Wout
  | p :: r => wAs K p.1 i p.2 (wAll K i Wout D r) D
/-- the clauses as they are written, and what is read of each -/
inductive Clauses (X : Cx) (n : Str) : List ExceptHandler → TakeL → Prop
  | nil : Clauses X n [] []
  | cons {x : Str} {c : Value} {ts : Addr → Value → Option Addr → TS} {st : Stmt} {rest : List Stmt} {q q' : Pos} {more : List ExceptHandler} {l : TakeL} (names : Names X x c)
      (body : ∀ (a : Addr) (ob : Obj) (k : Value) (d : Option Addr) (pn : List (Addr × Obj)), Zc k d ob → (∃ fs, ob.data = .fields fs) → PSs (X.suite a ((a, ob) :: pn)) (st :: rest) (ts a k d))
      (tail : Clauses X n more l) : Clauses X n (.ExceptHandler (some (.Name x q)) (some n) (st :: rest) q' :: more) ((c, ts) :: l)
section
variable {X : Cx} {n : Str} {i : Nat} {body : List Stmt} {hd : ExceptHandler} {hds : List ExceptHandler} {l : TakeL} {pos : Pos} {tb : WX → TS} {Wout : WX}
theorem ps_try_all (st : X.stack = X.env :: X.outer) (fr : X.env.frame = some X.env.locals) (nd : X.N.Nodup) (at_i : X.N[i]? = some n) (loc : X.env.kindOf n = some .local) (tk : Takes X Wout)
    (run : ∀ (W : WX) (pn : List (Addr × Obj)) (xe : Value → Shared → Prop), Takes (X.tr pn xe) W → PassesOwn (model X.prog X.w) X.A X.env xe → PSs (X.tr pn xe) body (tb W))
    (cs : Clauses X n (hd :: hds) l) : PS X (.Try body (hd :: hds) [] [] pos) (fun D σ H => tb (wAll X.K i Wout D l) D σ H) := by
  constructor
  intro pins s σ H D I h
  have ok := I.ok
  have frs_eq : X.A.frames = some (X.env :: X.outer) := ok.frames.trans (by rw [st])
  have catches : Takes (X.tr (X.pn ++ pins) fun e s₁ => wpAny (model X.prog X.w) X.A (noteFrame e X.env) (fun _ s₂ => wpAny (model X.prog X.w) X.A (setFlight e none) (fun _ s₃ => wpAny (model X.prog X.w) X.A (handleBy e X.env (hd :: hds)) (SP X pins D) X.xe s₃) X.xe s₂) X.xe s₁)
      (wAll X.K i Wout D l) := by
    intro u s' hx
    obtain ⟨a, B, sI, pins', τ, G, k, d, rfl, J0, nb, up, sky, na, os, ag, w⟩ := hx
    have J : Inv X pins τ G sI := J0.ofTry ok
    rw [show (X.tr (X.pn ++ pins) _).stack = X.stack from rfl, st] at sky
    refine Sky.land Zc.steady frs_eq fr sky fun h3 fly up3 => ?_
    have J3 : Inv X pins τ G { s' with heap := h3 } := J.landed nb fly.1 (up.trans up3) os ag
    obtain ⟨ob, fs, e_ob, z_ob, f_ob⟩ := fly.there
    have apart : a ∉ frs (X.env :: X.outer) := fun hm => by
      obtain ⟨_, o', e', no⟩ := fly.2.2.1.mem hm
      cases e_ob.symm.trans e'
      exact no _ f_ob
    have n1 : a ≠ X.env.locals := fun z => apart (List.mem_filterMap.mpr ⟨X.env, .head _, by rw [fr, z]⟩)
    have n2 : a ∉ X.fs := fun hm => by
      obtain ⟨e, he, q⟩ := List.mem_filterMap.mp hm
      exact apart (List.mem_filterMap.mpr ⟨e, .tail _ he, q⟩)
    have S3 := J3.suite e_ob f_ob na n1 n2
    suffices go : ∀ {hs : List ExceptHandler} {m : TakeL}, Clauses X n hs m → wAll X.K i Wout D m k d τ G → wpAny (model X.prog X.w) X.A (handleBy (.ref a) X.env hs) (SP X pins D) X.xe { s' with heap := h3 } from go cs w
    intro hs m hk
    induction hk with
    | nil =>
      intro w
      refine wpAny_handleBy_nil ?_
      obtain ⟨_, _, _, oe, vs, Tr, oT, ts', he, hz, hd', h1, _⟩ := id fly
      unfold PySem.passOn
      refine wpAny_bind (wpAny_field he hd' h1 ?_)
      rw [if_neg (show ¬ ((Value.ref Tr == Value.none) = true) by simp)]
      have out : wpAny (model X.prog X.w) X.A (setFlight (.ref a) X.env.frame) (fun _ s4 => wpAny (model X.prog X.w) X.A (throw (.ref a) : Sem Flow) (SP X pins D) X.xe s4) X.xe { s' with heap := h3 } := by
        rw [fr]
        refine HandSPX.setFlight_upZ fly fun h4 hh4 up4 => wpAny_throw (tk _ _ ⟨a, B, sI, pins, τ, G, k, d, rfl, J, nb, (up.trans up3).trans up4, .inr (.inr (by rw [st]; exact hh4)), na, os, ag, w⟩)
      first
        | exact wpAny_bind (wpAny_pure (wpAny_bind out))
        | exact wpAny_bind out
    | @cons x c ts s0 rest q q' more m2 names suite tail ih =>
      intro w
      obtain ⟨b, e1, yes, no⟩ := w
      refine wpAny_handleBy_cons (codeAny_handlers_test ?_) (by intro q; cases q)
      have ty : PySem.W.Looks (model X.prog X.w) h3 (typeOf (.ref a)) k := fun A Q E s kk q => wpAny_typeOf_ref (kk _ _ e_ob) (by rw [z_ob.1]; exact q)
      have match_ := PySem.W.exm_one (M := model X.prog X.w) J3.kIn ty e1
      have reads : ∀ {Q : Value → Shared → Prop} {E : Value → Shared → Prop}, Q c { s' with heap := h3 } → wpAny (model X.prog X.w) (X.A.mark (some (.ref a))) (eval (.Name x q) X.env) Q E { s' with heap := h3 } := fun {Q E} hq => by
        obtain ⟨g, db, hm | ⟨hm, hv, nn⟩⟩ := names
        · exact ld_glob (X := X.suite a ((a, ob) :: (X.pn ++ pins))) S3 g hm hq db
        · exact ld_blt (X := X.suite a ((a, ob) :: (X.pn ++ pins))) S3 g hm hv hq nn db
      refine reads (match_.here ?_)
      cases b with
      | false => exact ih (no rfl)
      | true =>
        refine codeAny_handlers_suite_as ?_
        refine HandSPX.lands_againZ fly fun h4 fly4 up4 => ?_
        have J4 : Inv X pins τ G { s' with heap := h4 } := J.landed nb fly4.1 ((up.trans up3).trans up4) os ag
        obtain ⟨ob4, fs4, e4, z4, f4⟩ := fly4.there
        have S4 := J4.suite e4 f4 na n1 n2
        refine store_ok (X := X.suite a ((a, ob4) :: (X.pn ++ pins))) (v := .ref a) S4 nd at_i (.inl loc) rfl (fun s5 S5 => ?_) (.inr loc)
        refine wpAny_mono ((suite a ob4 k d (X.pn ++ pins) z4 ⟨_, f4⟩).run [] s5 _ G _ S5 (yes rfl a na)) (fun f s6 sp => ?_) (fun _ _ z => z.elim)
        have ends : ∀ {ρ : L2.St} {H6 : Hp} {Q : Shared → Prop}, Inv (X.suite a ((a, ob4) :: (X.pn ++ pins))) [] ρ H6 s6 → (∀ s7, Inv X pins (ρ.set i none) H6 s7 → Q s7) → wpAny (model X.prog X.w) X.A (do bindName X.env n .none; unbindBehindTheSuite X.env n q') (fun _ s7 => Q s7) X.xe s6 :=
          fun S6 hq => gone_ok (S6.unsuite ok) nd at_i loc hq
        cases f with
        | next => obtain ⟨_, _, S6, z⟩ := sp; exact ends S6 fun s7 J7 => ⟨_, _, J7, z⟩
        | brk => obtain ⟨_, _, S6, z⟩ := sp; exact ends S6 fun s7 J7 => ⟨_, _, J7, z⟩
        | cont => obtain ⟨_, _, S6, z⟩ := sp; exact ends S6 fun s7 J7 => ⟨_, _, J7, z⟩
        | ret u => obtain ⟨_, _, _, S6, r6, z⟩ := sp; exact ends S6 fun s7 J7 => ⟨_, _, _, J7, r6, z⟩
  refine wpAny_Try_except (wpAny_mono ((run _ (X.pn ++ pins) _ catches PassesOwn.looking).run [] s σ H D (I.toTry _) h) (fun f s1 sp => ?_) (fun _ _ z => z))
  cases f with
  | next => obtain ⟨_, _, J', z⟩ := sp; exact wpAny_execs_nil ⟨_, _, J'.ofTry ok, z⟩
  | brk => obtain ⟨_, _, J', z⟩ := sp; exact ⟨_, _, J'.ofTry ok, z⟩
  | cont => obtain ⟨_, _, J', z⟩ := sp; exact ⟨_, _, J'.ofTry ok, z⟩
  | ret u => obtain ⟨_, _, _, J', r, z⟩ := sp; exact ⟨_, _, _, J'.ofTry ok, r, z⟩
end
instance {K : PySem.W.Frag} {i : Nat} {W : WX} {D : Ends} {c : Value} {ts : Addr → Value → Option Addr → TS} {r : TakeL} {cls : Value} {d : Option Addr} {σ : L2.St} {H : Hp} : Rd (wAll K i W D ((c, ts) :: r) cls d σ H) (wAs K c i ts (wAll K i W D r) D cls d σ H) := ⟨fun h => h⟩
/-- the clause leaves it to the next one -/
theorem rPass {K : PySem.W.Frag} {c cls : Value} {i : Nat} {ts : Addr → Value → Option Addr → TS} {Wout : WX} {D : Ends} {σ : L2.St} {H : Hp} {d : Option Addr} (te : PySem.W.exmOne K cls c = some false) (h : Wout cls d σ H) : wAs K c i ts Wout D cls d σ H :=
  ⟨false, te, (fun z => nomatch z), fun _ => h⟩
end Bar

set_option Elab.async false
set_option linter.all false
set_option maxRecDepth 100000
set_option maxHeartbeats 4000000
/-! calls through super() in the first statement of a method -/
namespace Bar
open PySem L2 PySem.Spec PyProof.Rows ClX NdefX

/-! ### an expression, a statement, a block at the code that is known to run -/
structure PEa (X : Cx) (c : Code) (e : Expr) (t : TE) : Prop where
  run : ∀ (pins : List (Addr × Obj)) (s : Shared) (σ : L2.St) (H : Hp) (Q : VK), Inv X pins σ H s → t σ H Q → _root_.PySem.wpAt (model X.prog X.w) X.A c (eval e X.env) (EP X pins σ Q) X.xe s
structure PSa (X : Cx) (c : Code) (st : Stmt) (t : TS) : Prop where
  run : ∀ (pins : List (Addr × Obj)) (s : Shared) (σ : L2.St) (H : Hp) (D : Ends), Inv X pins σ H s → t D σ H → _root_.PySem.wpAt (model X.prog X.w) X.A c (exec st X.env) (SP X pins D) X.xe s
structure PSsa (X : Cx) (c : Code) (ss : List Stmt) (t : TS) : Prop where
  run : ∀ (pins : List (Addr × Obj)) (s : Shared) (σ : L2.St) (H : Hp) (D : Ends), Inv X pins σ H s → t D σ H → _root_.PySem.wpAt (model X.prog X.w) X.A c (execs ss X.env) (SP X pins D) X.xe s
section
variable {X : Cx} {c : Code} {a b e : Expr} {s1 : Stmt} {ss : List Stmt} {ta tb te : TE} {t u : TS} {pos p' : Pos} {i : Nat} {x : Str}
theorem PSsa.nox (h : PSsa X.nox c ss t) : PSsa X c ss t := ⟨fun pins s σ H D I hw => ks_wpAt_mono (h.run pins s σ H D (I.wish _) hw) (fun _ _ q => q.unwish) fun _ _ z => z.elim⟩
theorem pea_op {op : Operator} {r : R2} (hr : OpR X (binaryOp op) r) (ha : PEa X c a ta) (hb : PE X b tb) : PEa X c (.BinOp a op b pos) (tOp r ta tb) := ⟨fun pins s σ H Q I h => by
  refine ks_wpAt_BinOp (ks_wpAt_mono (ha.run pins s σ H _ I h) (fun v s1 q => ?_) fun _ _ z => z)
  obtain ⟨y, H1, I1, r1, q1⟩ := q
  refine thn (hb.run pins s1 σ H1 _ I1 q1) fun w s2 q => ?_
  obtain ⟨z, H2, I2, r2, q2⟩ := q
  exact hr pins s2 σ H2 y z v w Q I2 r1 r2 q2⟩
theorem psa_expr (he : PEa X c e te) (hs : swapsWith e none pos.line X.env = pure false := by rfl) : PSa X c (.Expr e pos) (tDrop te) := ⟨fun pins s σ H D I h => by
  refine ks_wpAt_Expr_any (ks_wpAt_mono (he.run pins s σ H _ I h) (fun v s1 q => ?_) fun _ _ z => z) I.quiet hs
  obtain ⟨y, H1, I1, r1, q1⟩ := q
  exact ⟨σ, H1, I1, q1⟩⟩
theorem psa_ret (he : PEa X c e te) : PSa X c (.Return (some e) pos) (tRet te) := ⟨fun pins s σ H D I h => by
  refine ks_wpAt_Return_some (ks_wpAt_mono (he.run pins s σ H _ I h) (fun v s1 q => ?_) fun _ _ z => z)
  obtain ⟨y, H1, I1, r1, q1⟩ := q
  exact ⟨y, σ, H1, I1, r1, q1⟩⟩
theorem psa_set (hN : X.N.Nodup) (hi : X.N[i]? = some x) (hx : Loc X.env.scope x) (he : PEa X c e te) (hs : swapsWith e (some (.Name x p')) pos.line X.env = pure false := by rfl)
    (hf : X.fn x = true ∨ X.env.scope.names.lookup x = some .local := by first | exact .inl rfl | exact .inr rfl | assumption) : PSa X c (.Assign [.Name x p'] e pos) (tAsg te (gName i)) := ⟨fun pins s σ H D I h => by
  refine ks_wpAt_Assign_Name (ks_wpAt_mono (he.run pins s σ H _ I h) (fun v s1 q => ?_) fun _ _ z => z) hs
  obtain ⟨y, H1, I1, r1, q1⟩ := q
  exact store_ok I1 hN hi hx r1 (fun s2 I2 => ⟨_, H1, I2, q1⟩) hf⟩
theorem pssa_cons (h : PSa X c s1 t) (hs : PSs X ss u) : PSsa X c (s1 :: ss) (tSeq t u) := ⟨fun pins s σ H D I q => by
  refine ks_wpAt_execs_cons (ks_wpAt_mono (h.run pins s σ H _ I q) (fun f s1 z => ?_) fun _ _ z => z)
  match f, z with
  | .next, ⟨σ', H', J, q'⟩ => exact wpAt_of_wpAny (hs.run pins s1 σ' H' D J q')
  | .ret _, z => exact z
  | .brk, z => exact z
  | .cont, z => exact z⟩
end

/-! ### what super().m stands for -/
/-- in the def f (of class D, its cell at cc, its record at cda), called for an instance of the class C: super().m is f2 -/
structure Sup (P : Program) (K : PySem.W.Frag) (mg : Str → Option Value) (f cda cc C : Addr) (slf m : Str) (f2 : Addr) : Prop where
  fn : ∃ (oc : Value) (od : Option Addr) (fd : FuncData) (osl : Array (Option Value)) (ar : Arg), K.lookup f = some ⟨oc, od, .func fd, osl⟩ ∧ (fd.params.posonlyargs ++ fd.params.args).head? = some ar ∧ ar.arg = slf
  code : ∃ (ccl : Value) (cdd : Option Addr) (vs : Array Value) (ccs : Array (Option Value)) (file : Str) (tf : Tok), K.lookup cda = some ⟨ccl, cdd, .fields vs, ccs⟩ ∧ vs[2]? = some (.str file tf) ∧ ((P.main.file : Str) == file) = true
  top : (P.main.scope.names.lookup ("super" : Str)).isSome = false
  cell : ∃ (D : Addr) (cl : Value) (cld : Option Addr) (csl : Array (Option Value)) (cdD : ClassData), K.lookup cc = some ⟨cl, cld, .cell (some (.ref D)), csl⟩ ∧ PySem.W.clsIn K D = some cdD ∧ PySem.W.mroIn K C (.ref D) = some true ∧ PySem.W.ks_superIn K C D m = some (some (.ref f2))
  sup : mg "super" = none
  none' : PySem.W.nsIn K cStatics "thirdparty.any" = some none
  ty : PySem.W.typeIn K (.ref f2) = some (.type "function")
  fi : PySem.W.fnIn K f2 = true
  nm : (m == ("__class__" : Str)) = false
theorem boot_super : bootBuiltins "super" = some (.type "super") := by boot_by_name
/-- a call of the function at f2 -/
structure Runs (X : Cx) (f2 : Addr) (R : List V → L2.St → Hp → VK → Prop) : Prop where
  run : ∀ (pins : List (Addr × Obj)) (s : Shared) (σ : L2.St) (H : Hp) (us : List Value) (vs : List V) (Q : VK), Inv X pins σ H s → Vals vs us → R vs σ H Q →
    codeAny (model X.prog X.w) X.A (.call (.ref f2) ⟨us, []⟩) (fun r s' => match r with | .ok (.ret v) => EP X pins σ Q v s' | .ok _ => False | .error e => X.xe e s') s
section
variable {X : Cx} {W : WX} {k : Nat} {f : Addr} {fd : FuncData} {ps : List Str} {sp : Sp} {dvs : List V} {ds : List Value}
theorem runs_fnX (F : FnOk X.prog X.w X.K X.mg X.base (L2.CX X.prog X.w) k f fd ps sp) (hr : Room k X.A) (hb : Binds X.K fd ps ds) (hd : Vals dvs ds) (tk : Takes X W) : Runs X f fun vs σ H Q => sp (vs ++ dvs) H Q (wAt W σ) := ⟨fun pins s σ H us vs Q I r h => by
  have r2 : Vals (vs ++ dvs) (us ++ ds) := r.append hd
  have hl : (us ++ ds).length = ps.length := r2.length.symm.trans (F.len _ _ _ _ h)
  refine codeAny_mono (F.run X.A X.stack s H ⟨us, []⟩ (us ++ ds) (vs ++ dvs) Q (wAt W σ) hr I.env0 (hb s us I.kIn hl) r2 h) fun z s' hq => ?_
  match z, hq with
  | .error e, hq => exact tk e s' (XE.of_call I (fun _ _ _ h => h) hq)
  | .ok (.ret u), hq => exact I.after hq⟩
theorem runs_fn (F : FnOk X.prog X.w X.K X.mg X.base CX0 k f fd ps sp) (hr : Room k X.A) (hb : Binds X.K fd ps ds) (hd : Vals dvs ds) : Runs X f fun vs σ H Q => sp (vs ++ dvs) H Q E0 := ⟨fun pins s σ H us vs Q I r h => by
  have r2 : Vals (vs ++ dvs) (us ++ ds) := r.append hd
  have hl : (us ++ ds).length = ps.length := r2.length.symm.trans (F.len _ _ _ _ h)
  refine codeAny_mono (F.run X.A X.stack s H ⟨us, []⟩ (us ++ ds) (vs ++ dvs) Q E0 hr I.env0 (hb s us I.kIn hl) r2 h) fun z s' hq => ?_
  match z, hq with
  | .error e, hq => exact pass0 pins σ H s e s' I hq
  | .ok (.ret u), hq => exact I.after hq⟩
end
/-- super().m(..) of the instance in slot 0 -/
def tSup (C : Addr) (R : List V → L2.St → Hp → VK → Prop) (t : TA) : TE := fun σ H Q => ∃ (a dx : Addr) (fs : List (Str × V)), σ[0]? = some (some (.ref a)) ∧ H a = some (.ins C dx fs) ∧ t σ H fun vs H1 => R (.ref a :: vs) σ H1 Q
instance {C : Addr} {R : List V → L2.St → Hp → VK → Prop} {t : TA} {a : Addr} {σ : L2.St} {H : Hp} {Q : VK} : Rd (tSup C R t (some (.ref a) :: σ) H Q) (∃ (dx : Addr) (fs : List (Str × V)), H a = some (.ins C dx fs) ∧ t (some (.ref a) :: σ) H fun vs H1 => R (.ref a :: vs) (some (.ref a) :: σ) H1 Q) :=
  ⟨fun ⟨dx, fs, h, q⟩ => ⟨a, dx, fs, rfl, h, q⟩⟩
section
variable {X : Cx} {body : List Stmt} {f cda cc C f2 : Addr} {slf m : Str} {R : List V → L2.St → Hp → VK → Prop} {p0 p1 p2 pos : Pos} {e : Expr} {es : List Expr} {t : TA} {pl : Sem Bool}
/-- the way to the bound method -/
theorem sup_bound {pins : List (Addr × Obj)} {s : Shared} {σ : L2.St} {H : Hp} {a dx : Addr} {fs : List (Str × V)} {Q : Value → Shared → Prop} {whole : Sem Value} (S : Sup X.prog X.K X.mg f cda cc C slf m f2) (hks : Gl X "super") (hkc : X.env.kindOf ("__class__" : Str) = some .free) (hfu : X.env.func = some f) (hco : X.env.code = .ref cda)
    (hcl : X.env.cells.lookup ("__class__" : Str) = some cc) (h0 : X.N[0]? = some slf) (hself : X.env.kindOf slf = some .local) (I : Inv X pins σ H s) (ea : σ[0]? = some (some (.ref a))) (eh : H a = some (.ins C dx fs))
    (h : ∀ q s', Inv X ((q, PySem.W.methodObj (.ref f2) (.ref a)) :: pins) σ H s' → X.base.get? q = none → Q (.ref q) s') :
    _root_.PySem.wpAt (model X.prog X.w) X.A (.func body X.env) (attributeBase (.Call (.Name "super" p0) [] [] p1) m X.env whole) (fun ov s₁ => wpAny (model X.prog X.w) X.A (getMethod ov m pl) (fun fx s₂ => fx.2 = [] ∧ Q fx.1 s₂) X.xe s₁) X.xe s := by
  obtain ⟨oc, od, fd, osl, ar, lf, hp, rfl⟩ := S.fn
  obtain ⟨ccl, cdd, vs, ccs, file, tf, lc, hvs, hfile⟩ := S.code
  obtain ⟨D, cl, cld, csl, cdD, lcell, hD, hsub, hsup⟩ := S.cell
  have kx := I.kIn
  obtain ⟨oD, hD1, hD2⟩ : ∃ oD, s.heap.get? D = some oD ∧ oD.data = .cls cdD := by
    unfold PySem.W.clsIn at hD
    split at hD
    · rename_i c d cd' sl ho
      cases hD
      exact ⟨_, kx _ _ ho, rfl⟩
    · cases hD
  refine ks_wpAt_super_base (env := X.env) hks hkc S.nm hfu (kx _ _ lf) rfl hp hco (kx _ _ lc) rfl hvs hfile S.top ?_
  obtain ⟨mb, b1, b2⟩ := I.mod.blt
  refine PySem.W.ks_loadName_global I.ok.kind hks (Calls.loadGlobal_builtin (by rw [I.ok.glob]; exact I.mod.glob.keeps I.bk) S.sup (by rw [I.ok.blt]; exact b1.keeps I.bk) ((b2 "super" (by decide)).trans boot_super) ⟨rfl, ?_⟩)
  refine wpAny_loadName_free I.ok.kind hkc hcl ⟨_, kx _ _ lcell, rfl⟩ ?_
  obtain ⟨ns, hn, hl⟩ := id I.loc
  obtain ⟨u, ru, lk⟩ := hl 0 ar.arg (.ref a) h0 ea (.inl hself)
  obtain rfl : u = Value.ref a := ru
  have hv : ns ar.arg = some (.ref a) := by
    rcases lk with ⟨_, hv⟩ | ⟨z, _⟩
    · exact hv
    · rw [hself] at z
      rcases z with z | z <;> cases z
  refine wpAny_loadName_local I.ok.kind hself hn hv ?_
  obtain ⟨mA, O', _⟩ := ins_get I.hok eh
  obtain ⟨odo, J, _⟩ := O'.look
  obtain ⟨hh, g, d, tk, os⟩ := s
  refine ks_wpAny_isType_cls hD1 hD2 ⟨rfl, ?_⟩
  refine ks_wpAny_call_super hD1 hD2 J.at_ J.cls (fun c e => ?_) (PySem.W.looks_mroIn kx hsub) (fun h' e kp => ?_)
  · have := J.no
    unfold PySem.W.notCls at this
    rw [e] at this
    exact Bool.noConfusion this
  · have J1 : Inv X ((hh.objs.size, PySem.W.ks_superObj D a C) :: pins) σ H { heap := h', gens := g, drawn := d, toks := tk, os := os } := pin_new (t' := tk) I kp (Nat.le_refl _) e fun v z => nomatch z
    have kx1 := J1.kIn
    obtain ⟨of, hof, hofc⟩ : ∃ of, h'.get? f2 = some of ∧ of.cls = .type "function" := by
      have ht : (X.K.lookup f2).map (·.cls) = some (.type "function") := S.ty
      cases z : X.K.lookup f2 with
      | none => rw [z] at ht; cases ht
      | some of => rw [z] at ht; exact ⟨of, kx1 _ _ z, Option.some.inj ht⟩
    obtain ⟨cd, hc, hal⟩ := Option.bind_eq_some_iff.mp (show (PySem.W.clsIn X.K C).bind _ = _ from hsup)
    have ne : a ≠ C := PySem.W.ks_ne kx J hc
    refine ks_wpAny_getMethod_super (pin_at J1) (PySem.W.looks_opaque kx1 S.none') (l₀ := cd.mro) (fun A Q E s kk q => wpAny_bind ((PySem.W.looks_clsIn kx1 hc) A _ E s kk (wpAny_pure q))) rfl kx1 hal hof hofc ne S.nm ?_
    have J2 : Inv X ((h'.objs.size, PySem.W.methodObj (.ref f2) (.ref a)) :: (hh.objs.size, PySem.W.ks_superObj D a C) :: pins) σ H { heap := h'.push (PySem.W.methodObj (.ref f2) (.ref a)), gens := g, drawn := d, toks := tk + 1, os := os } :=
      pin_new (t' := tk + 1) J1 (fun _ _ z => Heap.get?_push_of_some _ z) (Nat.le_refl _) (Heap.get?_push_size h' rfl) fun v z => nomatch z
    refine ⟨rfl, h _ _ (J2.pins_of fun p hp => ?_) (base_none J1 (Nat.le_refl _))⟩
    rcases List.mem_cons.mp hp with e | hp
    · exact J2.pin p (List.mem_append_right _ (by rw [e]; exact .head _))
    · exact J2.pin p (List.mem_append_right _ (.tail _ (.tail _ hp)))
/-- super().m(e, ..) -/
theorem pea_sup (S : Sup X.prog X.K X.mg f cda cc C slf m f2) (ru : Runs X f2 R) (hks : Gl X "super") (hkc : X.env.kindOf ("__class__" : Str) = some .free) (hfu : X.env.func = some f) (hco : X.env.code = .ref cda) (hcl : X.env.cells.lookup ("__class__" : Str) = some cc)
    (h0 : X.N[0]? = some slf) (hself : X.env.kindOf slf = some .local) (ha : PA X (e :: es) t) (hst : starEach (e :: es) X.env = (false, eval e X.env) :: starEach es X.env := by rfl) (hpl : (backTo pos (starEach es X.env)).any (·.1) = false := by rfl)
    (ht : eval (.Call (.Attribute (.Call (.Name "super" p0) [] [] p1) m p2) (e :: es) [] pos) X.env = (do
      let ov ← attributeBase (.Call (.Name "super" p0) [] [] p1) m X.env (eval (.Call (.Name "super" p0) [] [] p1) X.env)
      standAt p2.atName
      let (f, first) ← holding [ov] (getMethod ov m pl)
      callWith pos f first (backTo pos (starEach (e :: es) X.env)) []) := by rfl) :
    PEa X (.func body X.env) (.Call (.Attribute (.Call (.Name "super" p0) [] [] p1) m p2) (e :: es) [] pos) (tSup C R t) := ⟨fun pins s σ H Q I h => by
  obtain ⟨a, dx, fs, ea, eh, q⟩ := h
  refine ks_wpAt_MethodCall (pl := pl) (ks_wpAt_mono (sup_bound (pl := pl) (Q := fun u s₂ => wpAny (model X.prog X.w) X.A (callWith pos u [] (backTo pos (starEach (e :: es) X.env)) []) (EP X pins σ Q) X.xe s₂) S hks hkc hfu hco hcl h0 hself I ea eh fun q' s' J hb => ?_) (fun ov s₁ z => thn z fun fx s₂ z => ?_) fun _ _ z => z) ht
  · have hq := pin_at J
    have hL : q' ≠ X.env.locals := (J.pin (q', PySem.W.methodObj (.ref f2) (.ref a)) (List.mem_append_right _ (.head _))).2.2.1
    refine PySem.W.callWith_M (K := X.K) (h₀ := X.base) (first := []) J.ok.mod.kin (news_at hL hb hq) (.head _) S.fi (thn (ha.run pos _ s' σ H _ J q) fun us s3 z => ?_) hst hpl
    obtain ⟨vs, H2, J3, rv, q2⟩ := z
    refine ⟨⟨pin_at J3, J3.kIn⟩, ?_⟩
    exact thn (wpAny_call (PySem.W.method_call (pin_at J3) (codeAny_mono (ru.run _ s3 σ H2 (.ref a :: us) (.ref a :: vs) Q J3 (.cons rfl rv) q2) fun r s' z => z))) fun _ _ y => unpinE y
  · obtain ⟨u, l⟩ := fx
    obtain ⟨rfl, z⟩ := z
    exact z⟩
/-- super().m() -/
theorem pea_sup0 (S : Sup X.prog X.K X.mg f cda cc C slf m f2) (ru : Runs X f2 R) (hks : Gl X "super") (hkc : X.env.kindOf ("__class__" : Str) = some .free) (hfu : X.env.func = some f) (hco : X.env.code = .ref cda) (hcl : X.env.cells.lookup ("__class__" : Str) = some cc)
    (h0 : X.N[0]? = some slf) (hself : X.env.kindOf slf = some .local)
    (ht : eval (.Call (.Attribute (.Call (.Name "super" p0) [] [] p1) m p2) [] [] pos) X.env = (do
      let ov ← attributeBase (.Call (.Name "super" p0) [] [] p1) m X.env (eval (.Call (.Name "super" p0) [] [] p1) X.env)
      standAt p2.atName
      let (f, first) ← holding [ov] (getMethod ov m pl)
      callWith pos f first (backTo pos (starEach [] X.env)) []) := by rfl) :
    PEa X (.func body X.env) (.Call (.Attribute (.Call (.Name "super" p0) [] [] p1) m p2) [] [] pos) (tSup C R tNil) := ⟨fun pins s σ H Q I h => by
  obtain ⟨a, dx, fs, ea, eh, q⟩ := h
  refine ks_wpAt_MethodCall (pl := pl) (ks_wpAt_mono (sup_bound (pl := pl) (Q := fun u s₂ => wpAny (model X.prog X.w) X.A (callWith pos u [] (backTo pos (starEach [] X.env)) []) (EP X pins σ Q) X.xe s₂) S hks hkc hfu hco hcl h0 hself I ea eh fun q' s' J hb => ?_) (fun ov s₁ z => thn z fun fx s₂ z => ?_) fun _ _ z => z) ht
  · refine PySem.W.callWith_M0 (K := X.K) (first := []) ⟨pin_at J, J.kIn⟩ S.fi ?_
    exact thn (wpAny_call (PySem.W.method_call (pin_at J) (codeAny_mono (ru.run _ s' σ H [.ref a] [.ref a] Q J (.cons rfl .nil) q) fun r s' z => z))) fun _ _ y => unpinE y
  · obtain ⟨u, l⟩ := fx
    obtain ⟨rfl, z⟩ := z
    exact z⟩
end

/-! ### a def that reads the cell __class__ -/
/-- the text of such a def, with its records -/
structure FunC (K : PySem.W.Frag) (x qual : Str) (st : Stmt) (kws : List (Str × V)) (f cda cc : Addr) (fd : FuncData) : Prop where
  ex : ∃ (oc : Value) (od : Option Addr) (kV doc pm : Value) (an : Option Addr) (ct : Value) (osl : Array (Option Value)),
    fd = PySem.W.fnX x qual (defArgs st) (defBody st) (defScope st) [("__class__", cc)] .none kV doc pm an (.ref cda) ct ∧ K.lookup f = some ⟨oc, od, .func fd, osl⟩ ∧ PySem.W.codeIn K (.ref cda) qual = true ∧ L2.KwdV K kV kws
  cell : ∃ (D : Addr) (cl : Value) (cld : Option Addr) (csl : Array (Option Value)), K.lookup cc = some ⟨cl, cld, .cell (some (.ref D)), csl⟩
  kp : PySem.W.keepIn K (.ref f) = true
abbrev nfOf (x qual : Str) (st : Stmt) (cda cc : Addr) : NF := ⟨x, qual, defArgs st, defBody st, defScope st, [("__class__", cc)], cda⟩
section
variable {CX : CXT} {P : Program} {w : World} {K : PySem.W.Frag} {mg : Str → Option Value} {base : Heap} {x qual : Str} {st : Stmt} {kws : List (Str × V)} {f cda cc : Addr} {fd : FuncData} {N ps : List Str} {k : Nat} {sp : Sp}
/-- the context of its body -/
abbrev scx (CX : CXT) (P : Program) (w : World) (K : PySem.W.Frag) (mg : Str → Option Value) (base : Heap) (N : List Str) (x qual : Str) (st : Stmt) (cda cc f : Addr) (A : Around) (outer : List Env) (s : Shared) (H : Hp) (E : XK) : Cx := ncx CX P w K mg base N (nfOf x qual st cda cc) f A outer s H E
theorem FunC.ok (F : FunC K x qual st kws f cda cc fd) (S : NScope N ps ["__class__"] (defScope st)) (len : ∀ vs H Q E, sp vs H Q E → vs.length = ps.length)
    (hbody : ∀ (A : Around) (outer : List Env) (s : Shared) (H : Hp) (vs : List V) (Q : VK) (E : XK) (D : Addr), Room k (A.deeper (envF (nfOf x qual st cda cc) f s.heap.objs.size)) → sp vs H Q E →
      ∃ t, PSsa (scx CX P w K mg base N x qual st cda cc f A outer s H E) (.func (defBody st) (envF (nfOf x qual st cda cc) f s.heap.objs.size)) (defBody st) t ∧ t { nx := fun _ H' => Q .non H', rt := Q } (startF N vs [some (.ref D)]) H) : FnOk P w K mg base CX (k + 1) f fd ps sp := by
  obtain ⟨oc, od, kV, doc, pm, an, ct, osl, rfl, lk, hcd, hK⟩ := F.ex
  obtain ⟨D, cl, cld, csl, lc⟩ := F.cell
  refine ⟨len, fun A outer s H args us vs Q E hr e0 hb r hsp => ?_⟩
  have hl := len _ _ _ _ hsp
  have KX : K.In s.heap := e0.mod.kin.keeps fun b o e => (e0.bs b o e).1
  have lim : s.heap.NoLimit := e0.mod.nolimit.keeps fun b o e => (e0.bs b o e).1
  have hcc : H cc = none := (e0.bs cc _ (e0.mod.kin _ _ lc)).2
  have C : CellsAt [("__class__", cc)] ["__class__"] [some (V.ref D)] s.heap H := by
    refine ⟨rfl, fun y c e => ?_, fun x y c e1 e2 => ?_, fun i y e => ?_⟩
    · have : c = cc := by
        simp only [List.lookup] at e
        split at e
        · cases e; rfl
        · cases e
      subst this
      exact ⟨hcc, _, _, KX _ _ lc, rfl⟩
    · simp only [List.lookup] at e1 e2
      split at e1
      · rename_i h1
        split at e2
        · rename_i h2
          rw [beq_iff_eq] at h1 h2
          rw [h1, h2]
        · cases e2
      · cases e1
    · cases i with
      | zero =>
        cases e
        refine ⟨cc, by simp [List.lookup], fun v ev => ?_⟩
        cases ev
        exact ⟨.ref D, rfl, _, KX _ _ lc, rfl⟩
      | succ i => cases e
  refine ks_codeAny_call_defAt (fd := PySem.W.fnX x qual (defArgs st) (defBody st) (defScope st) [("__class__", cc)] .none kV doc pm an (.ref cda) ct) (body := defBody st) (binds := ps.zip us) hr.depth (KX _ _ lk) rfl lim (PySem.W.codeRec_of KX hcd) rfl hb S.nocell (fun y hy => S.par _ (List.of_mem_zip hy).1) (fun h₁ hns kp => ?_) S.co S.gen S.kind
  obtain ⟨t, ht, hq⟩ := hbody A outer s H vs Q E D (hr.deeper _) hsp
  have I : Inv (scx CX P w K mg base N x qual st cda cc f A outer s H E) [] (startF N vs [some (V.ref D)]) H { s with heap := h₁, toks := s.toks + (ps.zip us).length } := inv_startN S hr.hd e0 hl r C hns kp
  have fin : ∀ {σ' : L2.St} {H' : Hp} {v : V} {u : Value} {s' : Shared}, Inv (scx CX P w K mg base N x qual st cda cc f A outer s H E) [] σ' H' s' → RelV v u → Q v H' → CE outer P w H s Q u s' := fun {σ' H' v u s'} J rv q => ⟨v, H', J.os, J.bare, J.base, J.hok, rv, q⟩
  refine ks_wpAt_mono (ht.run [] _ _ H _ I hq) (fun fl s' hs => ?_) fun e s' hs => hs
  match fl, hs with
  | .ret u, ⟨v, σ', H', J, rv, q⟩ => exact fin J rv q
  | .next, ⟨σ', H', J, q⟩ => exact fin (v := V.non) (u := Value.none) J rfl q
  | .brk, ⟨_, _, _, q⟩ => exact q.elim
  | .cont, ⟨_, _, _, q⟩ => exact q.elim
theorem FunC.ok0 (F : FunC K x qual st kws f cda cc fd) (S : NScope N ps ["__class__"] (defScope st)) (len : ∀ vs H Q E, sp vs H Q E → vs.length = ps.length)
    (hbody : ∀ (A : Around) (outer : List Env) (s : Shared) (H : Hp) (vs : List V) (Q : VK) (E : XK) (D : Addr), Room k (A.deeper (envF (nfOf x qual st cda cc) f s.heap.objs.size)) → sp vs H Q E →
      ∃ t, PSsa (scx CX0 P w K mg base N x qual st cda cc f A outer s H E).nox (.func (defBody st) (envF (nfOf x qual st cda cc) f s.heap.objs.size)) (defBody st) t ∧ t { nx := fun _ H' => Q .non H', rt := Q } (startF N vs [some (.ref D)]) H) : FnOk P w K mg base CX0 (k + 1) f fd ps sp :=
  F.ok S len fun A outer s H vs Q E D hr h => by
    obtain ⟨t, ht, q⟩ := hbody A outer s H vs Q E D hr h
    exact ⟨t, ht.nox, q⟩
/-- keywords: n values, the keywords named ks, those of ms left out -/
theorem FunC.kbinds (F : FunC K x qual st kws f cda cc fd) (n : Nat) (ks : List Str) (ms : List (Str × V)) (g : {α : Type} → List α → List α → List α → List α) (hk : kws ≠ []) (hms : ∀ q ∈ ms, q ∈ kws)
    (hrel : ∀ {vs mz zs : List V} {us mv ws : List Value}, Vals vs us → Vals mz mv → Vals zs ws → Vals (g vs mz zs) (g us mv ws))
    (h : ∀ (D : Addr) (doc pm : Value) (an : Option Addr) (ct : Value) (us mv ws : List Value), us.length = n → mv.length = ms.length → ws.length = ks.length →
      KwChain D ((ms.map (·.1)).zip mv) (bindArgs (PySem.W.fnX x qual (defArgs st) (defBody st) (defScope st) [("__class__", cc)] .none (.ref D) doc pm an (.ref cda) ct) ⟨us, ks.zip ws⟩) (ps.zip (g us mv ws))) :
    ∃ mv : List Value, KBn K fd ps n ks (fun us ws => g us mv ws) (fun vs zs => g vs (ms.map (·.2)) zs) := by
  obtain ⟨oc, od, kV, doc, pm, an, ct, osl, rfl, lk, hcd, hK⟩ := F.ex
  rcases hK with e | ⟨D, rfl, hq⟩
  · exact absurd e hk
  · obtain ⟨mv, hl, rk, hks⟩ := kwd_vals (ms := ms) fun q hm => hq q (hms q hm)
    exact ⟨mv, ⟨fun s us ws X l1 l2 => BindsTo.of_looks fun M => KwChain.looks X hks (h D doc pm an ct us mv ws l1 hl l2), fun r1 r2 => hrel r1 rk r2⟩⟩
theorem FunC.binds (F : FunC K x qual st kws f cda cc fd) (h : ∀ (kV doc pm : Value) (an : Option Addr) (ct : Value) (us : List Value), us.length = ps.length → bindArgs (PySem.W.fnX x qual (defArgs st) (defBody st) (defScope st) [("__class__", cc)] .none kV doc pm an (.ref cda) ct) ⟨us, []⟩ = pure (ps.zip us)) : Binds K fd ps [] := by
  obtain ⟨oc, od, kV, doc, pm, an, ct, osl, rfl, lk, hcd, hK⟩ := F.ex
  exact .all (h kV doc pm an ct)
end
end Bar
namespace Bar
open PySem L2 PySem.Spec PyProof.Rows ClX NdefX
/-! ### super().m, a property, a class that is made with keywords: with what they promise -/
structure SupFn (P : Program) (w : World) (K : PySem.W.Frag) (mg : Str → Option Value) (base : Heap) (CX : CXT) (f cda cc C : Addr) (slf m : Str) (ps : List Str) (dvs : List V) (k : Nat) (sp : Sp) : Prop where
  ex : ∃ (f2 : Addr) (fd : FuncData) (ds : List Value), Sup P K mg f cda cc C slf m f2 ∧ Binds K fd ps ds ∧ Vals dvs ds ∧ FnOk P w K mg base CX k f2 fd ps sp
section
variable {X : Cx} {W : WX} {body : List Stmt} {f cda cc C : Addr} {slf m : Str} {ps : List Str} {dvs : List V} {k : Nat} {sp : Sp} {p0 p1 p2 pos : Pos} {e : Expr} {es : List Expr} {t : TA} {pl : Sem Bool}
theorem pea_supX (F : SupFn X.prog X.w X.K X.mg X.base (L2.CX X.prog X.w) f cda cc C slf m ps dvs k sp) (tk : Takes X W) (hr : Room k X.A) (hks : Gl X "super") (hkc : X.env.kindOf ("__class__" : Str) = some .free) (hfu : X.env.func = some f) (hco : X.env.code = .ref cda) (hcl : X.env.cells.lookup ("__class__" : Str) = some cc)
    (h0 : X.N[0]? = some slf) (hself : X.env.kindOf slf = some .local) (ha : PA X (e :: es) t) (hst : starEach (e :: es) X.env = (false, eval e X.env) :: starEach es X.env := by rfl) (hpl : (backTo pos (starEach es X.env)).any (·.1) = false := by rfl)
    (ht : eval (.Call (.Attribute (.Call (.Name "super" p0) [] [] p1) m p2) (e :: es) [] pos) X.env = (do
      let ov ← attributeBase (.Call (.Name "super" p0) [] [] p1) m X.env (eval (.Call (.Name "super" p0) [] [] p1) X.env)
      standAt p2.atName
      let (f, first) ← holding [ov] (getMethod ov m pl)
      callWith pos f first (backTo pos (starEach (e :: es) X.env)) []) := by rfl) :
    PEa X (.func body X.env) (.Call (.Attribute (.Call (.Name "super" p0) [] [] p1) m p2) (e :: es) [] pos) (tSup C (fun vs σ H Q => sp (vs ++ dvs) H Q (wAt W σ)) t) := by
  obtain ⟨f2, fd, ds, S, hb, hd, ok⟩ := F.ex
  exact pea_sup (pl := pl) S (runs_fnX ok hr hb hd tk) hks hkc hfu hco hcl h0 hself ha hst hpl ht
theorem pea_supN (F : SupFn X.prog X.w X.K X.mg X.base CX0 f cda cc C slf m ps dvs k sp) (hr : Room k X.A) (hks : Gl X "super") (hkc : X.env.kindOf ("__class__" : Str) = some .free) (hfu : X.env.func = some f) (hco : X.env.code = .ref cda) (hcl : X.env.cells.lookup ("__class__" : Str) = some cc)
    (h0 : X.N[0]? = some slf) (hself : X.env.kindOf slf = some .local) (ha : PA X (e :: es) t) (hst : starEach (e :: es) X.env = (false, eval e X.env) :: starEach es X.env := by rfl) (hpl : (backTo pos (starEach es X.env)).any (·.1) = false := by rfl)
    (ht : eval (.Call (.Attribute (.Call (.Name "super" p0) [] [] p1) m p2) (e :: es) [] pos) X.env = (do
      let ov ← attributeBase (.Call (.Name "super" p0) [] [] p1) m X.env (eval (.Call (.Name "super" p0) [] [] p1) X.env)
      standAt p2.atName
      let (f, first) ← holding [ov] (getMethod ov m pl)
      callWith pos f first (backTo pos (starEach (e :: es) X.env)) []) := by rfl) :
    PEa X (.func body X.env) (.Call (.Attribute (.Call (.Name "super" p0) [] [] p1) m p2) (e :: es) [] pos) (tSup C (fun vs _ H Q => sp (vs ++ dvs) H Q E0) t) := by
  obtain ⟨f2, fd, ds, S, hb, hd, ok⟩ := F.ex
  exact pea_sup (pl := pl) S (runs_fn ok hr hb hd) hks hkc hfu hco hcl h0 hself ha hst hpl ht
theorem pea_supN0 (F : SupFn X.prog X.w X.K X.mg X.base CX0 f cda cc C slf m ps dvs k sp) (hr : Room k X.A) (hks : Gl X "super") (hkc : X.env.kindOf ("__class__" : Str) = some .free) (hfu : X.env.func = some f) (hco : X.env.code = .ref cda) (hcl : X.env.cells.lookup ("__class__" : Str) = some cc)
    (h0 : X.N[0]? = some slf) (hself : X.env.kindOf slf = some .local)
    (ht : eval (.Call (.Attribute (.Call (.Name "super" p0) [] [] p1) m p2) [] [] pos) X.env = (do
      let ov ← attributeBase (.Call (.Name "super" p0) [] [] p1) m X.env (eval (.Call (.Name "super" p0) [] [] p1) X.env)
      standAt p2.atName
      let (f, first) ← holding [ov] (getMethod ov m pl)
      callWith pos f first (backTo pos (starEach [] X.env)) []) := by rfl) :
    PEa X (.func body X.env) (.Call (.Attribute (.Call (.Name "super" p0) [] [] p1) m p2) [] [] pos) (tSup C (fun vs _ H Q => sp (vs ++ dvs) H Q E0) tNil) := by
  obtain ⟨f2, fd, ds, S, hb, hd, ok⟩ := F.ex
  exact pea_sup0 (pl := pl) S (runs_fn ok hr hb hd) hks hkc hfu hco hcl h0 hself ht
end
structure PrpF (P : Program) (w : World) (K : PySem.W.Frag) (mg : Str → Option Value) (base : Heap) (C : Addr) (f : Str) (ps : List Str) (k : Nat) (sp : Sp) : Prop where
  cl : Cls K C
  ex : ∃ (p g : Addr) (fd : FuncData), PropOf K C f p g ∧ Binds K fd ps [] ∧ FnOk P w K mg base CX0 k g fd ps sp
theorem pe_prp {X : Cx} {C : Addr} {f : Str} {ps : List Str} {k : Nat} {sp : Sp} {e : Expr} {pos : Pos} {ta : TE} (F : PrpF X.prog X.w X.K X.mg X.base C f ps k sp) (hr : Room (k + 1) X.A) (he : PE X e ta) (hab : attributeBase e f X.env (eval e X.env) = eval e X.env) :
    PE X (.Attribute e f pos) (tProp C sp [] E0 ta) := by
  obtain ⟨p, g, fd, hp, hb, ok⟩ := F.ex
  exact pe_prop he F.cl hp ok hr hb .nil pass0 hab
instance {C : Addr} {sp : Sp} {dvs : List V} {E : XK} {ta : TE} {σ : L2.St} {H : Hp} {Q : VK} : Bar.Rd (tProp C sp dvs E ta σ H Q) (ta σ H fun x H1 => ∃ a dx fs, x = .ref a ∧ H1 a = some (.ins C dx fs) ∧ sp (.ref a :: dvs) H1 Q E) := ⟨fun h => h⟩
/-- made with n values and keywords; gV: what its __init__ is given -/
structure MadeK (P : Program) (w : World) (K : PySem.W.Frag) (mg : Str → Option Value) (base : Heap) (CX : CXT) (x : Str) (C : Addr) (ps ks : List Str) (n : Nat) (gV : List V → List V → List V) (k : Nat) (sp : Sp) : Prop where
  ex : ∃ (f : Addr) (fd : FuncData) (g : List Value → List Value → List Value), mg x = some (.ref C) ∧ Mk K C f ∧ KBn K fd ps (n + 1) ks g gV ∧ FnOk P w K mg base CX k f fd ps sp
def tMakeK' (C : Addr) (n m : Nat) (sp : Sp) (gV : List V → List V → List V) (W : WX) (t tk : TA) : TE := fun σ H Q => t σ H fun vs H1 => tk σ H1 fun zs H2 => vs.length = n ∧ zs.length = m ∧ ∀ x dx, H2 x = none → H2 dx = none → dx ≠ x →
  sp (gV (.ref x :: vs) zs) (upd (upd H2 dx (.own x)) x (.ins C dx [])) (fun v H3 => v = .non ∧ Q (.ref x) H3) (wAt W σ)
section
variable {X : Cx} {W : WX} {C : Addr} {ps ks : List Str} {n k : Nat} {gV : List V → List V → List V} {sp : Sp} {x : Str} {p pos : Pos} {e : Expr} {es : List Expr} {kws : List Keyword} {t tk : TA} {σ : L2.St} {H : Hp} {Q : VK}
theorem pe_mkK (F : MadeK X.prog X.w X.K X.mg X.base CX0 x C ps ks n gV k sp) (hr : Room (k + 1) X.A) (hg : Gl X x) (ha : PA X (e :: es) t) (hkw : PK X kws tk)
    (hall : (backToKw pos (keywordEach kws X.env)).all (·.1.isSome) = true := by rfl) (hks : (backToKw pos (keywordEach kws X.env)).filterMap (·.1) = ks := by rfl) (hdb : (x == ("__debug__" : Str)) = false := by decide)
    (he : starEach (e :: es) X.env = (false, eval e X.env) :: starEach es X.env := by rfl) (hpl : ((backTo pos (starEach (e :: es) X.env)).any (·.1) || (backToKw pos (keywordEach kws X.env)).any (·.1.isNone)) = false := by rfl) :
    PE X (.Call (.Name x p) (e :: es) kws pos) (tMakeN C n ks.length sp gV E0 t tk) := by
  obtain ⟨f, fd, g, hm, M, hb, ok⟩ := F.ex
  exact pe_makeN M ok hr hg hm hb pass0 ha hkw hall hks hdb he hpl
theorem pe_mkKX (F : MadeK X.prog X.w X.K X.mg X.base (L2.CX X.prog X.w) x C ps ks n gV k sp) (tk' : Takes X W) (hr : Room (k + 1) X.A) (hg : Gl X x) (ha : PA X (e :: es) t) (hkw : PK X kws tk)
    (hall : (backToKw pos (keywordEach kws X.env)).all (·.1.isSome) = true := by rfl) (hks : (backToKw pos (keywordEach kws X.env)).filterMap (·.1) = ks := by rfl) (hdb : (x == ("__debug__" : Str)) = false := by decide)
    (he : starEach (e :: es) X.env = (false, eval e X.env) :: starEach es X.env := by rfl) (hpl : ((backTo pos (starEach (e :: es) X.env)).any (·.1) || (backToKw pos (keywordEach kws X.env)).any (·.1.isNone)) = false := by rfl) :
    PE X (.Call (.Name x p) (e :: es) kws pos) (tMakeK' C n ks.length sp gV W t tk) := ⟨fun pins s σ H Q I h => by
  obtain ⟨f, fd, g, hm, M, hb, ok⟩ := F.ex
  refine wpAny_Call_Name_kw (ld_glob I hg hm ?_ hdb)
  refine PySem.W.callWith_KW (h₀ := X.base) I.ok.mod.kin M.kp hall (thn (ha.run pos pins s σ H _ I h) fun us s1 q => ?_) hpl he
  obtain ⟨vs, H1, I1, r, q⟩ := q
  refine thn (hkw.run pos pins s1 σ H1 _ I1 q) fun ws s2 q => ?_
  obtain ⟨zs, H2, I2, rz, l1, l2, q2⟩ := q
  refine ⟨I2.kIn, ?_⟩
  rw [hks]
  have start := q2 (s2.heap.objs.size + 1) s2.heap.objs.size (I2.hok.fresh (Nat.le_succ _)) (I2.hok.fresh (Nat.le_refl _)) (Nat.ne_of_lt (Nat.lt_succ_self _))
  have J := Inv.made (C := C) I2
  have r1 : Vals (V.ref (s2.heap.objs.size + 1) :: vs) (Value.ref (s2.heap.objs.size + 1) :: us) := .cons rfl r
  have n1 : (Value.ref (s2.heap.objs.size + 1) :: us).length = n + 1 := r1.length.symm.trans (congrArg Nat.succ l1)
  have n2 : ws.length = ks.length := rz.length.symm.trans l2
  refine wpAny_call (make_map (f := f) I2.kIn M.makes M.init (beq_iff_eq.mp M.fn) (codeAny_mono (ok.run _ X.stack _ _ ⟨Value.ref (s2.heap.objs.size + 1) :: us, ks.zip ws⟩ (g (Value.ref (s2.heap.objs.size + 1) :: us) ws) _ _ (wAt W σ) (hr.make C us (ks.zip ws))
    (J.env0.make C us (ks.zip ws)) (hb.to _ _ ws J.kIn n1 n2) (hb.rel r1 rz) start) fun z s' hz => ?_))
  match z, hz with
  | .error e, hz => exact tk' e s' (XE.of_call J (fun _ _ _ h => h) hz)
  | .ok (.ret u), hz =>
    obtain ⟨v, H', J3, rv, ev, q3⟩ := J.after hz
    subst ev
    exact ⟨rv, ⟨V.ref (s2.heap.objs.size + 1), H', J3, rfl, q3⟩⟩⟩
instance {t tk : TA} {n m : Nat} : Bar.Rd (tMakeK' C n m sp gV W t tk σ H Q) (t σ H fun vs H1 => tk σ H1 fun zs H2 => vs.length = n ∧ zs.length = m ∧ ∀ x dx, H2 x = none → H2 dx = none → dx ≠ x →
  sp (gV (.ref x :: vs) zs) (upd (upd H2 dx (.own x)) x (.ins C dx [])) (fun v H3 => v = .non ∧ Q (.ref x) H3) (wAt W σ)) := ⟨fun h => h⟩
end
theorem MadeK0 {P : Program} {w : World} {K : PySem.W.Frag} {mg : Str → Option Value} {base : Heap} {x : Str} {C : Addr} {ps ks : List Str} {n k : Nat} {gV : List V → List V → List V} {sp : Sp} (F : MadeK P w K mg base (L2.CX P w) x C ps ks n gV k sp) : MadeK P w K mg base CX0 x C ps ks n gV k (fun vs H Q _ => sp vs H Q E0) := by
  obtain ⟨f, fd, g, hm, M, hb, ok⟩ := F.ex
  exact ⟨f, fd, g, hm, M, hb, FnX0 ok⟩
instance {K : PySem.W.Frag} {ta : TE} {f : Str} {σ : L2.St} {H : Hp} {Q : VK} : Bar.Rd (tCVal K ta f σ H Q) (ta σ H fun x H1 => ∃ C mc v u, x = .ref C ∧ CRead K C mc ∧ CVal K C mc f v u ∧ Q v H1) := ⟨fun h => h⟩
theorem rStartF {N : List Str} {vs : List V} {ws : List (Option V)} {t : TS} {D : Ends} {σ : L2.St} {H : Hp} (e : startF N vs ws = σ) (h : t D σ H) : t D (startF N vs ws) H := by
  rw [e]
  exact h
end Bar

set_option Elab.async false
set_option linter.all false
set_option maxRecDepth 100000
set_option maxHeartbeats 4000000
/-! texts -/
namespace Bar
open PySem L2
section
variable {σ τ : L2.St} {H : Hp} {Q : VK} {QI : It → Hp → Prop} {z y : Str} {i : Int} {c : Nat} {te : TE} {K : PySem.W.Frag}
/-- one sign in a text, or not -/
def rInSg : R2 := fun x y H Q => ∃ (c : Nat) (z : Str), x = .str ⟨#[c]⟩ ∧ y = .str z ∧ Q (.bl (decide (c ∈ z.cps.toList))) H
def rNoSg : R2 := fun x y H Q => ∃ (c : Nat) (z : Str), x = .str ⟨#[c]⟩ ∧ y = .str z ∧ Q (.bl (!decide (c ∈ z.cps.toList))) H
theorem o_inSg {X : Cx} : OpR X (compareOp .In) rInSg := op_in_sign
theorem o_noSg {X : Cx} : OpR X (compareOp .NotIn) rNoSg := op_notIn_sign
instance : Rd (rInSg (.str ⟨#[c]⟩) (.str z) H Q) (Q (.bl (decide (c ∈ z.cps.toList))) H) := ⟨fun h => ⟨c, z, rfl, rfl, h⟩⟩
instance : Rd (rNoSg (.str ⟨#[c]⟩) (.str z) H Q) (Q (.bl (!decide (c ∈ z.cps.toList))) H) := ⟨fun h => ⟨c, z, rfl, rfl, h⟩⟩
/-- two texts, one behind the other -/
def rCatS : R2 := fun x y H Q => ∃ i j : Str, x = .str i ∧ y = .str j ∧ i.length + j.length ≤ sizeLine ∧ Q (.str (i ++ j)) H
theorem o_catS {X : Cx} : OpR X (binaryOp .Add) rCatS := op_add_str
theorem rCatS_ (l : z.length + y.length ≤ sizeLine) (h : Q (.str (z ++ y)) H) : rCatS (.str z) (.str y) H Q := ⟨z, y, rfl, rfl, l, h⟩
theorem rIxS_ (l : z.length ≤ sizeLine) (e : atI z.cps.toList i = some c) (h : Q (.str ⟨#[c]⟩) H) : rIxS (.str z) (.int i) H Q := ⟨z, i, c, rfl, rfl, l, e, h⟩
theorem rSlS_ {lo hi : Option Int} (l : z.length ≤ sizeLine) (h : Q (.str (cutS z lo hi)) H) : rSlS (.str z) lo hi H Q := ⟨z, rfl, l, h⟩
theorem dStr (a b : Str) : decide (V.str a = V.str b) = decide (a = b) := by
  by_cases q : a = b
  · subst q; rw [decide_eq_true rfl, decide_eq_true rfl]
  · rw [decide_eq_false q, decide_eq_false (fun z => q (V.str.inj z))]
theorem rEqSt (h : Q (.bl (decide (z = y))) H) : rEq (.str z) (.str y) H Q := ⟨rfl, by rw [dStr]; exact h⟩
theorem rNeSt (h : Q (.bl (!decide (z = y))) H) : rNe (.str z) (.str y) H Q := ⟨rfl, by rw [dStr]; exact h⟩
instance : Rd (iStr te σ H QI) (te σ H fun v H1 => ∃ x, v = .str x ∧ QI (Its x) H1) := ⟨fun h => h⟩
instance {R : Str → Prop} : Rd (∃ x, V.str z = .str x ∧ R x) (R z) := ⟨fun h => ⟨z, rfl, h⟩⟩
theorem str_ext {a b : Str} (h : a.cps.toList = b.cps.toList) : a = b := by
  obtain ⟨a⟩ := a
  obtain ⟨b⟩ := b
  have : a = b := Array.toList_inj.mp h
  rw [this]
theorem cat_cps (a b : Str) : (a ++ b).cps.toList = a.cps.toList ++ b.cps.toList := by
  show (a.cps ++ b.cps).toList = _
  rw [Array.toList_append]
theorem len_cps (a : Str) : a.length = a.cps.toList.length := rfl
theorem cut_cps (z : Str) (lo hi : Option Int) : (cutS z lo hi).cps.toList = (z.cps.toList.drop (HT.sIx z.length 0 lo)).take (HT.sIx z.length z.length hi - HT.sIx z.length 0 lo) := by
  unfold cutS
  rw [List.toList_toArray]
theorem cut_to {z : Str} {n : Int} (h : 0 ≤ n) : (cutS z none (some n)).cps.toList = z.cps.toList.take n.toNat := by
  rw [cut_cps]
  have e1 : HT.sIx z.length 0 none = 0 := rfl
  have e2 : HT.sIx z.length z.length (some n) = min n.toNat z.length := by
    show (if n < 0 then _ else _) = _
    rw [if_neg (by omega)]
  rw [e1, e2, List.drop_zero, Nat.sub_zero, len_cps, ← List.take_eq_take_min]
theorem cut_from {z : Str} {n : Int} (h : 0 ≤ n) : (cutS z (some n) none).cps.toList = z.cps.toList.drop n.toNat := by
  rw [cut_cps]
  have e1 : HT.sIx z.length 0 (some n) = min n.toNat z.length := by
    show (if n < 0 then _ else _) = _
    rw [if_neg (by omega)]
  have e2 : HT.sIx z.length z.length none = z.length := rfl
  rw [e1, e2, len_cps]
  by_cases l : n.toNat ≤ z.cps.toList.length
  · rw [Nat.min_eq_left l]
    exact List.take_of_length_le (by rw [List.length_drop]; exact Nat.le_refl _)
  · rw [Nat.min_eq_right (by omega), List.drop_length, List.drop_eq_nil_of_le (by omega), List.take_nil]
end
section
variable {D : Ends} {σ τ : L2.St} {H : Hp} {g : TG} {tb : TS} {tt : TT} {te : TE} {vs : List Nat}
/-- a loop over the signs of a text -/
theorem forS {z : Str} (Pv : Nat → L2.St → Hp → Prop) (h0 : Pv 0 σ H) (hs : ∀ i c σ H, z.cps.toList[i]? = some c → Pv i σ H → g (.str ⟨#[c]⟩) σ H fun σ2 H2 => tb ⟨Pv (i + 1), D.rt, D.nx, Pv (i + 1)⟩ σ2 H2) (hd : ∀ σ H, Pv z.cps.toList.length σ H → D.nx σ H) :
    ∃ W : Nat → Nat → L2.St → Hp → Prop, (∃ m, W 0 m σ H) ∧ ∀ i m σ H, W i m σ H →
      ((Its z).stop i H ∧ D.nx σ H) ∨ ((Its z).go i H ∧ ∃ N : L2.St → Hp → Prop, (∀ σ' H', N σ' H' → ∃ m', m' < m ∧ W (i + 1) m' σ' H') ∧ ∀ x H', (Its z).yld i H x H' → g x σ H' fun σ2 H2 => tb { D with nx := N, ct := N, bk := D.nx } σ2 H2) := by
  have sz : z.cps.size = z.cps.toList.length := rfl
  refine ⟨fun i m σ H => m = z.cps.size - i ∧ i ≤ z.cps.size ∧ Pv i σ H, ⟨_, rfl, Nat.zero_le _, h0⟩, ?_⟩
  rintro i m σ H ⟨rfl, hi, p⟩
  by_cases lt : i < z.cps.size
  · refine .inr ⟨lt, Pv (i + 1), fun σ' H' p' => ⟨z.cps.size - (i + 1), by omega, rfl, lt, p'⟩, fun x H' y => ?_⟩
    obtain ⟨e, c, hc, ex⟩ := y
    subst e ex
    exact hs i c σ _ (by rw [Array.getElem?_toList]; exact hc) p
  · have e : i = z.cps.size := by omega
    subst e
    exact .inl ⟨Nat.le_refl _, hd σ H p⟩
/-- a comprehension over the signs of a text -/
theorem lcS {z : Str} {R : Addr → Hp → Prop} (ew : wipe σ vs = τ)
    (h : ∀ D, H D = none → ∃ Pv : Nat → Hp → Prop, Pv 0 (upd H D (.lst [])) ∧
      (∀ i c H', z.cps.toList[i]? = some c → Pv i H' → g (.str ⟨#[c]⟩) τ H' fun σ2 H2 => wipe σ2 vs = τ ∧ tt σ2 H2 fun b H3 =>
        if b = true then te σ2 H3 fun y H4 => ∃ acc, H4 D = some (.lst acc) ∧ acc.length < sizeLine ∧ Pv (i + 1) (upd H4 D (.lst (acc ++ [y]))) else Pv (i + 1) H3) ∧ ∀ H', Pv z.cps.toList.length H' → R D H') :
    ∀ D, H D = none → ∃ W : Nat → Nat → Hp → Prop, (∃ m, W 0 m (upd H D (.lst []))) ∧ ∀ i m H, W i m H →
      ((Its z).stop i H ∧ R D H) ∨ ((Its z).go i H ∧ ∃ Nx : Hp → Prop, (∀ H', Nx H' → ∃ m', m' < m ∧ W (i + 1) m' H') ∧ ∀ x H', (Its z).yld i H x H' → g x (wipe σ vs) H' fun σ2 H2 => wipe σ2 vs = wipe σ vs ∧ tt σ2 H2 fun b H3 =>
        if b = true then te σ2 H3 fun y H4 => ∃ acc, H4 D = some (.lst acc) ∧ acc.length < sizeLine ∧ Nx (upd H4 D (.lst (acc ++ [y]))) else Nx H3) := by
  subst ew
  intro D hD
  obtain ⟨Pv, h0, hs, hd⟩ := h D hD
  have sz : z.cps.size = z.cps.toList.length := rfl
  refine ⟨fun i m H => m = z.cps.size - i ∧ i ≤ z.cps.size ∧ Pv i H, ⟨_, rfl, Nat.zero_le _, h0⟩, ?_⟩
  rintro i m H ⟨rfl, hi, p⟩
  by_cases lt : i < z.cps.size
  · refine .inr ⟨lt, Pv (i + 1), fun H' p' => ⟨z.cps.size - (i + 1), by omega, rfl, lt, p'⟩, fun x H' y => ?_⟩
    obtain ⟨e, c, hc, ex⟩ := y
    subst e ex
    exact hs i c _ (by rw [Array.getElem?_toList]; exact hc) p
  · have e : i = z.cps.size := by omega
    subst e
    exact .inl ⟨Nat.le_refl _, hd H p⟩
end
instance {te : TE} {σ : L2.St} {H : Hp} {Q : VK} : Rd (tFmtR te σ H Q) (te σ H fun x H1 => (∃ y : Str, x = .str y ∧ (reprText y).length ≤ sizeLine ∧ Q (.str (reprText y)) H1) ∨ ∃ i : Int, x = .int i ∧ i.natAbs.log2 < 1920 ∧ Q (.str (toString i)) H1) := ⟨fun h => h⟩
/-! ### names -/
abbrev lettersS : Str := "abcdefghijklmnopqrstuvwxyz"
abbrev signsS : Str := "abcdefghijklmnopqrstuvwxyz0123456789"
def letL : List Nat := lettersS.cps.toList
def sgnL : List Nat := signsS.cps.toList
/-- the form of a name -/
def nameL (l : List Nat) : Bool := decide (1 ≤ l.length) && decide (l.length ≤ 12) && l.head?.any (fun c => decide (c ∈ letL)) && l.all (fun c => decide (c ∈ sgnL))
abbrev nameB (z : Str) : Bool := nameL z.cps.toList
theorem let_sub : ∀ c ∈ letL, c ∈ sgnL := by decide +kernel
theorem let_ix {r : Int} (h0 : 0 ≤ r) (h1 : r < 26) : ∃ c, atI letL r = some c ∧ c ∈ letL := by
  have : ∀ n : Nat, n < 26 → ∃ c, letL[n]? = some c := fun n hn => ⟨_, List.getElem?_eq_getElem (show n < letL.length from hn)⟩
  obtain ⟨c, hc⟩ := this r.toNat (by omega)
  refine ⟨c, ?_, List.mem_of_getElem? hc⟩
  rw [show r = ((r.toNat : Nat) : Int) by omega]
  exact atI_nat hc
theorem sgn_ix {r : Int} (h0 : 0 ≤ r) (h1 : r < 36) : ∃ c, atI sgnL r = some c ∧ c ∈ sgnL := by
  have : ∀ n : Nat, n < 36 → ∃ c, sgnL[n]? = some c := fun n hn => ⟨_, List.getElem?_eq_getElem (show n < sgnL.length from hn)⟩
  obtain ⟨c, hc⟩ := this r.toNat (by omega)
  refine ⟨c, ?_, List.mem_of_getElem? hc⟩
  rw [show r = ((r.toNat : Nat) : Int) by omega]
  exact atI_nat hc
end Bar

set_option Elab.async false
set_option linter.all false
set_option maxRecDepth 100000
set_option maxHeartbeats 4000000
/-! str of own objects, methods of texts, classmethods that raise, a class in a local name -/
namespace Bar
open PySem L2 PySem.Spec PyProof.Rows ClX

/-! ### str(o), o of a class with its own __str__ -/
structure StrF (P : Program) (w : World) (K : PySem.W.Frag) (mg : Str → Option Value) (base : Heap) (C : Addr) (ps : List Str) (k : Nat) (sp : Sp) : Prop where
  ex : ∃ (f : Addr) (fd : FuncData), PySem.W.findIn K (.ref C) "__str__" = some (some (.ref f)) ∧ PySem.W.isFn K (.ref f) = true ∧ Binds K fd ps [] ∧ FnOk P w K mg base CX0 k f fd ps sp
def rStrO (C : Addr) (sp : Sp) : List V → Hp → VK → Prop := fun xs H Q => ∃ (a dx : Addr) (fs : List (Str × V)), xs = [.ref a] ∧ H a = some (.ins C dx fs) ∧ sp [.ref a] H (fun v H' => ∃ y : Str, v = .str y ∧ Q (.str y) H') E0
theorem c_strO {X : Cx} {C : Addr} {ps : List Str} {k : Nat} {sp : Sp} (F : StrF X.prog X.w X.K X.mg X.base C ps k sp) (hr : Room (k + 2) X.A) : CallR X (.type "str") (rStrO C sp) := by
  intro pins s σ H xs us Q I r h
  obtain ⟨f, fd, hs, hf, hb, ok⟩ := F.ex
  obtain ⟨a, dx, fs, rfl, ea, q⟩ := h
  cases r with
  | cons r1 r2 =>
    cases r2
    cases r1
    obtain ⟨mA, O', _⟩ := ins_get I.hok ea
    obtain ⟨od, J, _⟩ := O'.look
    have hl : ([Value.ref a] ++ ([] : List Value)).length = ps.length := by
      have e := ok.len _ _ _ _ q
      rw [← e]
      rfl
    have bnd : BindsTo s fd ⟨[Value.ref a], []⟩ (ps.zip [Value.ref a]) := by
      have e := hb s [Value.ref a] I.kIn hl
      rwa [List.append_nil] at e
    have run := ok.run X.A.in1.in1 X.stack s H ⟨[Value.ref a], []⟩ [Value.ref a] [V.ref a] _ E0 hr.in1.in1 I.env0.in1.in1 bnd (.cons rfl .nil) q
    refine PySem.W.kso_call (hr.in1.in1.units0) I.kIn J hs hf (wpAny_call (codeAny_mono run fun r s' hq => ?_))
    cases r with
    | error e => exact False.elim hq
    | ok fl =>
      cases fl with
      | ret u' =>
        obtain ⟨v', H', I', rv, y, ev, q'⟩ := I.after hq
        subst ev
        obtain ⟨t, rfl⟩ := rv
        exact ⟨.str y, H', I', ⟨t, rfl⟩, q'⟩
      | next => exact False.elim hq
      | brk => exact False.elim hq
      | cont => exact False.elim hq
instance {C : Addr} {sp : Sp} {a : Addr} {H : Hp} {Q : VK} : Rd (rStrO C sp [.ref a] H Q) (∃ (dx : Addr) (fs : List (Str × V)), H a = some (.ins C dx fs) ∧ sp [.ref a] H (fun v H' => ∃ y : Str, v = .str y ∧ Q (.str y) H') E0) := ⟨fun ⟨dx, fs, h, q⟩ => ⟨a, dx, fs, rfl, h, q⟩⟩
/-! ### s.index(y) -/
def rIdx : V → List V → Hp → VK → Prop := fun x xs H Q => ∃ (a b : Str) (k : Nat), x = .str a ∧ xs = [.str b] ∧ Txt.index0 a b = some k ∧ Q (.int (k : Nat)) H
theorem mt_idx {X : Cx} : MtR X "str.index" rIdx := by
  intro pins s σ H x xs v us Q I rx rs h
  obtain ⟨a, b, k, rfl, rfl, e, q⟩ := h
  obtain ⟨t, rfl⟩ := rx
  cases rs with
  | cons r1 rs =>
    cases rs
    obtain ⟨u, rfl⟩ := r1
    unfold Txt.index0 at e
    cases z : Builtin.Str.occurrences a b 0 a.length 1 with
    | nil =>
      rw [z] at e
      cases e
    | cons k' rest =>
      rw [z] at e
      cases e
      exact PySem.SC.index z ⟨.int (k : Nat), H, I.tok _, ⟨_, rfl⟩, q⟩
/-! ### C.m(..), a classmethod that may raise -/
structure CMthX (P : Program) (w : World) (K : PySem.W.Frag) (mg : Str → Option Value) (base : Heap) (C : Addr) (m : Str) (ps : List Str) (k : Nat) (sp : Sp) : Prop where
  cr : ClX.CRead K C (.type "type")
  ex : ∃ (p g : Addr) (fd : FuncData), CMet K C (.type "type") m p g ∧ Binds K fd ps [] ∧ FnOk P w K mg base (L2.CX P w) k g fd ps sp
def tCMthX (C : Addr) (sp : Sp) (W : WX) (ta : TE) (t : TA) : TE := fun σ H Q => ta σ H fun x H1 => x = .ref C ∧ t σ H1 fun vs H2 => sp (.ref C :: vs ++ []) H2 Q (wAt W σ)
theorem pe_cmthX {X : Cx} {W : WX} {C : Addr} {m : Str} {ps : List Str} {k : Nat} {sp : Sp} {o e : Expr} {es : List Expr} {ta : TE} {t : TA} {pos apos : Pos} {pl : Sem Bool} (F : CMthX X.prog X.w X.K X.mg X.base C m ps k sp) (tk : Takes X W) (hr : Room k X.A) (he : PE X o ta) (ha : PA X (e :: es) t)
    (hst : starEach (e :: es) X.env = (false, eval e X.env) :: starEach es X.env := by rfl) (hpl : (backTo pos (starEach es X.env)).any (·.1) = false := by rfl)
    (ht : eval (.Call (.Attribute o m apos) (e :: es) [] pos) X.env = (do
      let ov ← eval o X.env
      standAt apos.atName
      let (f, first) ← holding [ov] (getMethod ov m pl)
      callWith pos f first (backTo pos (starEach (e :: es) X.env)) (backToKw pos (keywordEach [] X.env))) := by rfl) :
    PE X (.Call (.Attribute o m apos) (e :: es) [] pos) (tCMthX C sp W ta t) := ⟨fun pins s σ H Q I h => by
  obtain ⟨p, g, fd, c, hb, ok⟩ := F.ex
  refine PySem.W.methodCall_KW (pl := pl) (thn (he.run pins s σ H _ I h) fun u s1 ⟨x, H1, I1, rx, ex, q⟩ => ?_) ht
  subst ex
  obtain rfl : u = Value.ref C := rx
  refine getmethcm_ok I1 F.cr c fun s2 I2 => ?_
  refine callwith_cm I2 (base_none I1 (Nat.le_refl _)) c.fi (thn (ha.run pos _ s2 σ H1 _ I2 q) fun us s3 ⟨vs, H2, I3, rv, q2⟩ => ⟨⟨pin_at I3, I3.kIn⟩, ?_⟩) hst hpl
  refine thn (wpAny_call (PySem.W.method_call (pin_at I3) (codeAny_mono ((runs_fnX ok hr hb .nil tk).run _ s3 σ H2 (.ref C :: us) (.ref C :: vs) Q I3 (.cons rfl rv) q2) fun r s' z => z))) fun _ _ y => unpinE y⟩
instance {C : Addr} {sp : Sp} {W : WX} {ta : TE} {t : TA} {σ : L2.St} {H : Hp} {Q : VK} : Rd (tCMthX C sp W ta t σ H Q) (ta σ H fun x H1 => x = .ref C ∧ t σ H1 fun vs H2 => sp (.ref C :: vs ++ []) H2 Q (wAt W σ)) := ⟨fun h => h⟩
/-! ### x(e, ..), a local name that holds the class at C -/
def tMakeL (C : Addr) (i : Nat) (sp : Sp) (dvs : List V) (t : TA) : TE := fun σ H Q => σ[i]? = some (some (.ref C)) ∧ t σ H fun vs H1 => ∀ x dx, H1 x = none → H1 dx = none → dx ≠ x → sp (.ref x :: (vs ++ dvs)) (upd (upd H1 dx (.own x)) x (.ins C dx [])) (fun v H2 => v = .non ∧ Q (.ref x) H2) E0
structure MadeL (P : Program) (w : World) (K : PySem.W.Frag) (mg : Str → Option Value) (base : Heap) (C : Addr) (ps : List Str) (dvs : List V) (k : Nat) (sp : Sp) : Prop where
  ex : ∃ (f : Addr) (fd : FuncData) (ds : List Value), Mk K C f ∧ Binds K fd ps ds ∧ Vals dvs ds ∧ FnOk P w K mg base CX0 k f fd ps sp
theorem pe_mkL {X : Cx} {C : Addr} {i : Nat} {ps : List Str} {dvs : List V} {k : Nat} {sp : Sp} {x : Str} {p pos : Pos} {e : Expr} {es : List Expr} {t : TA} (F : MadeL X.prog X.w X.K X.mg X.base C ps dvs k sp) (hr : Room (k + 1) X.A) (ha : PA X (e :: es) t) (hN : X.N[i]? = some x := by rfl) (hv : Vis X.env.scope x := by first | exact Or.inl rfl | exact Or.inr (Or.inl rfl) | exact Or.inr (Or.inr rfl)) (hd : (x == ("__debug__" : Str)) = false := by decide) (hcd : (x == ("__classdict__" : Str)) = false := by decide)
    (he : starEach (e :: es) X.env = (false, eval e X.env) :: starEach es X.env := by rfl) (hpl : (backTo pos (starEach es X.env)).any (·.1) = false := by rfl) : PE X (.Call (.Name x p) (e :: es) [] pos) (tMakeL C i sp dvs t) := ⟨fun pins s σ H Q I h => by
  obtain ⟨hs, h⟩ := h
  obtain ⟨f, fd, ds, M, hb, hd', ok⟩ := F.ex
  refine wpAny_Call_Name_kw (thn ((pe_var (pos := p) (i := i) hN hv hd hcd).run pins s σ H (fun v H1 => v = .ref C ∧ H1 = H) I ⟨.ref C, hs, rfl, rfl⟩) fun u s1 hq => ?_)
  obtain ⟨v, H1, I1, rv, ev, eH⟩ := hq
  subst ev eH
  obtain rfl : u = Value.ref C := rv
  refine PySem.W.callWith_K (h₀ := X.base) I1.ok.mod.kin M.kp (thn (ha.run pos pins s1 σ H1 _ I1 h) fun us s2 hs => ?_) he hpl
  obtain ⟨vs, H2, J, r, q⟩ := hs
  exact ⟨J.kIn, run_make M ok hr hb hd' pass0 J r q⟩⟩
instance {C : Addr} {i : Nat} {sp : Sp} {dvs : List V} {t : TA} {σ : L2.St} {H : Hp} {Q : VK} : Rd (tMakeL C i sp dvs t σ H Q) (σ[i]? = some (some (.ref C)) ∧ t σ H fun vs H1 => ∀ x dx, H1 x = none → H1 dx = none → dx ≠ x → sp (.ref x :: (vs ++ dvs)) (upd (upd H1 dx (.own x)) x (.ins C dx [])) (fun v H2 => v = .non ∧ Q (.ref x) H2) E0) := ⟨fun h => h⟩
/-! ### a sign many times -/
def rRepS : R2 := fun x y H Q => ∃ (c n : Nat), x = .str ⟨#[c]⟩ ∧ y = .int (n : Int) ∧ 2 ≤ n ∧ n ≤ 10000 ∧ ∀ z : Str, z.cps.toList = List.replicate n c → Q (.str z) H
theorem fold_rep (c : Nat) : ∀ (n : Nat) (a : Array Nat), ((List.replicate n #[c]).foldl (· ++ ·) a).toList = a.toList ++ List.replicate n c
  | 0, a => by simp
  | n + 1, a => by
    rw [List.replicate_succ, List.foldl_cons, fold_rep c n, Array.toList_append, List.replicate_succ, List.append_assoc]
    rfl
theorem op_repS {X : Cx} : OpR X (binaryOp .Mult) rRepS := by
  intro pins s σ H x y v u Q I rx ry h
  obtain ⟨c, n, rfl, rfl, h1, h2, q⟩ := h
  obtain ⟨t, rfl⟩ := rx
  obtain ⟨t', rfl⟩ := ry
  have l1 : (⟨#[c]⟩ : Str).length = 1 := rfl
  have n1 : ((n : Int) == 1 || (⟨#[c]⟩ : Str).length == 0) = false := by
    rw [l1]
    have : ((n : Int) == 1) = false := by
      rw [beq_eq_false_iff_ne]
      omega
    rw [this]
    rfl
  refine PySem.P.mul_str ?_ (fun _ _ => ?_) (fun _ _ => ?_) ?_
  · rw [decide_eq_false (show ¬ (n : Int) < -(2 ^ 63 : Int) by omega), decide_eq_false (show ¬ (n : Int) ≥ 2 ^ 63 by omega)]
    rfl
  · rw [l1]
    intro h
    have : (1 : Int) ≤ (2 ^ 63 - 1) / (n : Int) := by
      rw [Int.le_ediv_iff_mul_le (by omega)]
      omega
    omega
  · rw [l1, Nat.one_mul, Int.toNat_natCast]
    exact decide_eq_false (show ¬ n > sizeLine from Nat.not_lt.mpr (Nat.le_trans h2 (by decide)))
  · rw [if_neg (by omega), n1, if_neg (by decide), Int.toNat_natCast]
    have e := fold_rep c n #[]
    have e : ((List.replicate n #[c]).foldl (· ++ ·) #[]).toList = List.replicate n c := e
    refine ⟨?_, ⟨.str _, H, I.tok _, ⟨_, rfl⟩, q _ e⟩⟩
    show _ ≤ sizeLine
    rw [len_cps]
    rw [e, List.length_replicate]
    exact Nat.le_trans h2 (by decide)
/-! ### methods of texts -/
def rFindS : V → List V → Hp → VK → Prop := fun x xs H Q => ∃ a b, x = .str a ∧ xs = [.str b] ∧ Q (.int (Txt.find a b)) H
theorem mt_findS {X : Cx} : MtR X "str.find" rFindS := mt_find
def rStartS : V → List V → Hp → VK → Prop := fun x xs H Q => ∃ a b, x = .str a ∧ xs = [.str b] ∧ Q (.bl (Txt.startswith a b)) H
theorem mt_startS {X : Cx} : MtR X "str.startswith" rStartS := mt_startswith
def rAsciiS : V → List V → Hp → VK → Prop := fun x xs H Q => ∃ a, x = .str a ∧ xs = [] ∧ True ∧ Q (.bl (Txt.isascii a)) H
theorem mt_asciiS {X : Cx} : MtR X "str.isascii" rAsciiS := mt_isascii
def rDigitS : V → List V → Hp → VK → Prop := fun x xs H Q => ∃ a, x = .str a ∧ xs = [] ∧ True ∧ Q (.bl (Txt.isdigit a)) H
theorem mt_digitS {X : Cx} : MtR X "str.isdigit" rDigitS := mt_isdigit
def rPartS : V → List V → Hp → VK → Prop := fun x xs H Q => ∃ a b, x = .str a ∧ xs = [.str b] ∧ (b.length == 0) = false ∧ a.length ≤ sizeLine ∧ ∀ p, H p = none → Q (.ref p) (upd H p (.tup [.str (Txt.partition a b).1, .str (Txt.partition a b).2.1, .str (Txt.partition a b).2.2]))
theorem mt_partS {X : Cx} : MtR X "str.partition" rPartS := mt_partition
def rIntS : List V → Hp → VK → Prop := fun xs H Q => ∃ a n, xs = [.str a] ∧ PySem.intText? a = some n ∧ a.length ≤ 640 ∧ Q (.int n) H
theorem c_intS {X : Cx} : CallR X (.type "int") rIntS := call_int_str
section
variable {a b : Str} {H : Hp} {Q : VK} {r : V → List V → Hp → VK → Prop} {to te : TE} {σ : L2.St}
instance : Rd (tM0 r to σ H Q) (to σ H fun x H1 => (∃ a, x = .str a) ∧ r x [] H1 Q) := ⟨fun h => h⟩
instance : Rd (tM1 r to te σ H Q) (to σ H fun x H1 => (∃ a, x = .str a) ∧ te σ H1 fun y H2 => r x [y] H2 Q) := ⟨fun h => h⟩
instance {R : Prop} : Rd ((∃ c : Str, V.str a = .str c) ∧ R) R := ⟨fun h => ⟨⟨a, rfl⟩, h⟩⟩
instance : Rd (rFindS (.str a) [.str b] H Q) (Q (.int (Txt.find a b)) H) := ⟨fun h => ⟨a, b, rfl, rfl, h⟩⟩
instance : Rd (rStartS (.str a) [.str b] H Q) (Q (.bl (Txt.startswith a b)) H) := ⟨fun h => ⟨a, b, rfl, rfl, h⟩⟩
instance : Rd (rAsciiS (.str a) [] H Q) (Q (.bl (Txt.isascii a)) H) := ⟨fun h => ⟨a, rfl, rfl, trivial, h⟩⟩
instance : Rd (rDigitS (.str a) [] H Q) (Q (.bl (Txt.isdigit a)) H) := ⟨fun h => ⟨a, rfl, rfl, trivial, h⟩⟩
end
/-! ### join and split -/
def rJoinS (K : PySem.W.Frag) : V → List V → Hp → VK → Prop := fun x xs H Q => ∃ a p, ∃ ys : List Str, x = .str a ∧ xs = [.ref p] ∧ (SqL K H p (ys.map V.str) ∨ SqT K H p (ys.map V.str)) ∧
    (ys.map (·.length)).sum + ys.length * a.length ≤ 16777216 ∧ Q (.str (Txt.join a ys)) H
theorem mt_joinS {X : Cx} : MtR X "str.join" (rJoinS X.K) := mt_join
def rSplitS : V → List V → Hp → VK → Prop := fun x xs H Q => ∃ a b, x = .str a ∧ xs = [.str b] ∧ (b.length == 0) = false ∧ a.length + 2 ≤ sizeLine ∧ ∀ p, H p = none → Q (.ref p) (upd H p (.lst ((Txt.split a b).map V.str)))
theorem mt_splitS {X : Cx} : MtR X "str.split" rSplitS := mt_split
theorem rJoinS_ {K : PySem.W.Frag} {a : Str} {p : Addr} {H : Hp} {Q : VK} (ys : List Str) (hp : SqL K H p (ys.map V.str) ∨ SqT K H p (ys.map V.str)) (l : (ys.map (·.length)).sum + ys.length * a.length ≤ 16777216) (h : Q (.str (Txt.join a ys)) H) : rJoinS K (.str a) [.ref p] H Q := ⟨a, p, ys, rfl, rfl, hp, l, h⟩
theorem rSplitS_ {a b : Str} {H : Hp} {Q : VK} (hb : (b.length == 0) = false) (l : a.length + 2 ≤ sizeLine) (h : ∀ p, H p = none → Q (.ref p) (upd H p (.lst ((Txt.split a b).map V.str)))) : rSplitS (.str a) [.str b] H Q := ⟨a, b, rfl, rfl, hb, l, h⟩
theorem pe_fn0 {X : Cx} {x : Str} {ps : List Str} {dvs : List V} {k : Nat} {sp : Sp} {p pos : Pos} (F : Fn X.prog X.w X.K X.mg X.base x ps dvs k sp) (hr : Room k X.A) (hg : Gl X x) (hdb : (x == ("__debug__" : Str)) = false := by decide) : PE X (.Call (.Name x p) [] [] pos) (tCall sp dvs E0 tNil) := by
  obtain ⟨f, fd, ds, hm, hk, hb, hd, ok⟩ := F.ex
  exact pe_call0 ok hr hg hm hk hb hd pass0 hdb
end Bar

set_option Elab.async false
set_option linter.all false
set_option maxRecDepth 100000
set_option maxHeartbeats 4000000
/-! strip(chars), methods without arguments -/
namespace Bar
open PySem L2 PySem.Spec PyProof.Rows PySem.Builtin PySem.Builtin.Str
/-! ### s.strip(chars) -/
def rStripC : V → List V → Hp → VK → Prop := fun x xs H Q => ∃ a b, x = .str a ∧ xs = [.str b] ∧ a.length ≤ sizeLine ∧ Q (.str (Txt.stripChars a b)) H
theorem mt_stripCS {X : Cx} : MtR X "str.strip" rStripC := mt_stripChars
theorem rStripC_ {a b : Str} {H : Hp} {Q : VK} (l : a.length ≤ sizeLine) (h : Q (.str (Txt.stripChars a b)) H) : rStripC (.str a) [.str b] H Q := ⟨a, b, rfl, rfl, l, h⟩
theorem getD_mem {x : Str} {k : Nat} (h : k < x.length) : x.cps.getD k 0 ∈ x.cps.toList := by
  rw [← getD_list]
  have hk : k < x.cps.toList.length := h
  rw [List.getD_eq_getElem?_getD, List.getElem?_eq_getElem hk]
  exact List.getElem_mem hk
theorem strip_all {x y : Str} : Txt.stripChars x y = ("" : Str) ↔ ∀ c ∈ x.cps.toList, c ∈ y.cps.toList := by
  have e : Txt.stripChars x y = strSub x (stripLo y.cps.contains true x) (stripHi y.cps.contains true x (stripLo y.cps.contains true x)) := stripBy_eq _ _ _ _
  obtain ⟨l1, l2, l3⟩ := lo_facts y.cps.contains x
  obtain ⟨h1, h2, h3, h4⟩ := hi_facts y.cps.contains x _ l1
  generalize stripLo y.cps.contains true x = lo at *
  generalize stripHi y.cps.contains true x lo = hi at *
  have goes : ∀ c, y.cps.contains c = true ↔ c ∈ y.cps.toList := fun c => by
    rw [Array.contains_iff_mem, Array.mem_toList_iff]
  rw [e]
  have et : TL.tl (strSub x lo hi) = ((TL.tl x).drop lo).take (hi - lo) := TL.tl_strSub x lo hi
  constructor
  · intro q c hc
    rw [q] at et
    have e0 : TL.tl ("" : Str) = [] := rfl
    rw [e0] at et
    have ln := congrArg List.length et
    rw [List.length_take, List.length_drop, List.length_nil] at ln
    have hx : (TL.tl x).length = x.length := (TL.len_tl x).symm
    have eq : hi = lo := by omega
    obtain ⟨k, hk, rfl⟩ := List.mem_iff_getElem.mp hc
    have hk' : k < x.length := hk
    have eg : x.cps.getD k 0 = x.cps.toList[k] := by
      rw [← getD_list, List.getD_eq_getElem?_getD, List.getElem?_eq_getElem hk]
      rfl
    have w : y.cps.contains (x.cps.getD k 0) = true := by
      by_cases kl : k < lo
      · exact l2 k kl
      · exact h3 k (by omega) hk'
    have w' := (goes _).mp w
    rw [eg] at w'
    exact w'
  · intro all
    have eq : lo = x.length := by
      rcases l3 with q | q
      · exact q
      · by_cases lt : lo < x.length
        · have := (goes _).mpr (all _ (getD_mem lt))
          rw [this] at q
          cases q
        · omega
    refine str_ext ?_
    show TL.tl (strSub x lo hi) = []
    rw [et, show hi - lo = 0 by omega, List.take_zero]
/-! ### o.m() -/
theorem pe_mth0 {X : Cx} {k : Nat} {sp : Sp} {ps : List Str} {dvs : List V} {C : Addr} {m : Str} {pos apos : Pos} {o : Expr} {ta : TE} {pl : Sem Bool} (F : Mth X.prog X.w X.K X.mg X.base C m ps dvs k sp) (he : PE X o ta) (hr : Room k X.A)
    (ht : eval (.Call (.Attribute o m apos) [] [] pos) X.env = (do
      let ov ← eval o X.env
      standAt apos.atName
      let (f, first) ← holding [ov] (getMethod ov m pl)
      callWith pos f first (backTo pos (starEach [] X.env)) (backToKw pos (keywordEach [] X.env))) := by rfl) :
    PE X (.Call (.Attribute o m apos) [] [] pos) (tMeth C m sp dvs E0 ta tNil) := by
  obtain ⟨f, fd, ds, hm, hb, hd, ok⟩ := F.ex
  exact pe_meth0 he F.cl hm ok hr hb hd pass0 ht
end Bar

set_option Elab.async false
set_option linter.all false
set_option maxRecDepth 100000
set_option maxHeartbeats 4000000
/-! defs with *rest, classes that are made by them -/
namespace Bar
open PySem L2 PySem.Spec PyProof.Rows
/-- a def whose last parameter takes the rest in a new tuple: two parameters ahead -/
def spRest (sp : Sp) : Sp := fun vs H Q E => ∃ ws rest, vs = ws ++ rest ∧ ws.length = 2 ∧ rest.length ≤ sizeLine ∧ ∀ p, H p = none → sp (ws ++ [V.ref p]) (upd H p (.tup rest)) Q E
section
variable {P : Program} {w : World} {K : PySem.W.Frag} {mg : Str → Option Value} {base : Heap}
theorem okStar {x qual : Str} {st : Stmt} {f : Addr} {fd : FuncData} {N : List Str} {p1 p2 pv : Str} {k : Nat} {sp : Sp} (F : Fun K x qual st f fd) (S : FnScope N [p1, p2, pv] (defScope st))
    (h0 : ∀ (kV doc pm : Value) (an : Option Addr) (cdv ct a b : Value), bindArgs (PySem.W.fnOf x qual (defArgs st) (defBody st) (defScope st) .none kV doc pm an cdv ct) ⟨[a, b], []⟩ = (newTuple [] >>= fun t => pure [(p1, a), (p2, b), (pv, t)]))
    (h1 : ∀ (kV doc pm : Value) (an : Option Addr) (cdv ct a b r : Value) (rs : List Value), bindArgs (PySem.W.fnOf x qual (defArgs st) (defBody st) (defScope st) .none kV doc pm an cdv ct) ⟨a :: b :: r :: rs, []⟩ = (newTuple (r :: rs) >>= fun t => pure [(p1, a), (p2, b), (pv, t)]))
    (hbody : ∀ (cdv : Value) (A : Around) (outer : List Env) (s : Shared) (H : Hp) (vs : List V) (Q : VK) (E : XK), Room k (A.deeper (envOfC qual (defScope st) s.heap.objs.size f cdv)) → sp vs H Q E →
      ∃ t, PSs (cxOf (L2.CX P w) P w K mg base N qual (defScope st) f cdv A outer s H E) (defBody st) t ∧ t { nx := fun _ H' => Q .non H', rt := Q } (start N vs) H) : FnR P w K mg base (L2.CX P w) (k + 1) f (spRest sp) := by
  obtain ⟨oc, od, kV, doc, pm, an, cdv, ct, osl, rfl, lk, hcd⟩ := F.ex
  exact StX.fn_star (ps := [p1, p2]) (pv := pv) lk hcd S StX.cxUp (StX.bind_star2 (B := fun us => bindArgs (PySem.W.fnOf x qual (defArgs st) (defBody st) (defScope st) .none kV doc pm an cdv ct) ⟨us, []⟩) (h0 kV doc pm an cdv ct) (h1 kV doc pm an cdv ct)) fun A outer s H vs Q E hr h => hbody cdv A outer s H vs Q E hr h
theorem okStar0 {x qual : Str} {st : Stmt} {f : Addr} {fd : FuncData} {N : List Str} {p1 p2 pv : Str} {k : Nat} {sp : Sp} (F : Fun K x qual st f fd) (S : FnScope N [p1, p2, pv] (defScope st))
    (h0 : ∀ (kV doc pm : Value) (an : Option Addr) (cdv ct a b : Value), bindArgs (PySem.W.fnOf x qual (defArgs st) (defBody st) (defScope st) .none kV doc pm an cdv ct) ⟨[a, b], []⟩ = (newTuple [] >>= fun t => pure [(p1, a), (p2, b), (pv, t)]))
    (h1 : ∀ (kV doc pm : Value) (an : Option Addr) (cdv ct a b r : Value) (rs : List Value), bindArgs (PySem.W.fnOf x qual (defArgs st) (defBody st) (defScope st) .none kV doc pm an cdv ct) ⟨a :: b :: r :: rs, []⟩ = (newTuple (r :: rs) >>= fun t => pure [(p1, a), (p2, b), (pv, t)]))
    (hbody : ∀ (cdv : Value) (A : Around) (outer : List Env) (s : Shared) (H : Hp) (vs : List V) (Q : VK) (E : XK), Room k (A.deeper (envOfC qual (defScope st) s.heap.objs.size f cdv)) → sp vs H Q E →
      ∃ t, PSs (cxOf CX0 P w K mg base N qual (defScope st) f cdv A outer s H E).nox (defBody st) t ∧ t { nx := fun _ H' => Q .non H', rt := Q } (start N vs) H) : FnR P w K mg base CX0 (k + 1) f (spRest sp) := by
  obtain ⟨oc, od, kV, doc, pm, an, cdv, ct, osl, rfl, lk, hcd⟩ := F.ex
  refine StX.fn_star (ps := [p1, p2]) (pv := pv) lk hcd S StX.cxUp_none (StX.bind_star2 (B := fun us => bindArgs (PySem.W.fnOf x qual (defArgs st) (defBody st) (defScope st) .none kV doc pm an cdv ct) ⟨us, []⟩) (h0 kV doc pm an cdv ct) (h1 kV doc pm an cdv ct)) fun A outer s H vs Q E hr h => ?_
  obtain ⟨t, p, q⟩ := hbody cdv A outer s H vs Q E hr h
  exact ⟨t, p.nox, q⟩
/-- what raises nothing here, though it may -/
theorem FnR0 {k : Nat} {f : Addr} {sp : Sp} (F : FnR P w K mg base (L2.CX P w) k f sp) : FnR P w K mg base CX0 k f (fun vs H Q _ => sp vs H Q E0) :=
  fun A outer s H us vs Q _ hr e0 r h => codeAny_mono (F A outer s H us vs Q E0 hr e0 r h) fun z s' hq => by
    match z, hq with
    | .error e, hq =>
      obtain ⟨_, _, _, _, _, _, _, _, _, _, _, _, x⟩ := hq
      exact x.elim
    | .ok (.ret u), hq => exact hq
end
structure MadeR (P : Program) (w : World) (K : PySem.W.Frag) (mg : Str → Option Value) (base : Heap) (x : Str) (C : Addr) (k : Nat) (sp : Sp) : Prop where
  ex : ∃ f : Addr, mg x = some (.ref C) ∧ Mk K C f ∧ FnR P w K mg base CX0 k f sp
theorem pe_mkR {X : Cx} {k : Nat} {C : Addr} {sp : Sp} {x : Str} {e : Expr} {es : List Expr} {t : TA} {p pos : Pos} (F : MadeR X.prog X.w X.K X.mg X.base x C k sp) (hr : Room (k + 1) X.A) (hg : Gl X x) (ha : PA X (e :: es) t) (hdb : (x == ("__debug__" : Str)) = false := by decide)
    (he : starEach (e :: es) X.env = (false, eval e X.env) :: starEach es X.env := by rfl) (hpl : (backTo pos (starEach es X.env)).any (·.1) = false := by rfl) : PE X (.Call (.Name x p) (e :: es) [] pos) (StX.tMakeR C sp E0 t) := by
  obtain ⟨f, hm, M, ok⟩ := F.ex
  exact StX.pe_makeR M ok hr hg hm pass0 ha hdb he hpl
instance {C : Addr} {sp : Sp} {E : XK} {t : TA} {σ : L2.St} {H : Hp} {Q : VK} : Rd (StX.tMakeR C sp E t σ H Q) (t σ H fun vs H1 => ∀ x dx, H1 x = none → H1 dx = none → dx ≠ x → sp (V.ref x :: vs) (upd (upd H1 dx (.own x)) x (.ins C dx [])) (fun v H2 => v = .non ∧ Q (.ref x) H2) E) := ⟨fun h => h⟩
end Bar

set_option Elab.async false
set_option linter.all false
set_option maxRecDepth 100000
/-! sets of texts -/
namespace Bar
open PySem L2
section
variable {P : Program} {w : World} {H : Hp} {Q : VK} {a : Addr} {S : Key → Bool} {n : Nat} {to : TE} {t : TA} {σ : L2.St}
instance : Rd (rSet0K P w [] H Q) (∀ p, H p = none → Q (.ref p) (upd H p (SetK P w p (fun _ => false) 0))) := ⟨fun h => ⟨rfl, h⟩⟩
instance : Rd (tSAddK P w to t σ H Q) (to σ H fun x H1 => (∃ a S n, x = V.ref a ∧ H1 a = some (SetK P w a S n)) ∧ t σ H1 fun xs H2 => rSAddK P w x xs H2 Q) := ⟨fun h => h⟩
theorem rSIn_ {z : Str} {neg : Bool} (ha : H a = some (SetK P w a S n)) (q : Q (.bl (if neg then !S (.inr z) else S (.inr z))) H) : rSInK P w neg (.str z) (.ref a) H Q := ⟨.inr z, a, S, n, rfl, rfl, ha, q⟩
theorem rSAdd_ {z : Str} (ha : H a = some (SetK P w a S n)) (room : n + 1 < scanBound) (q : Q .non (upd H a (SetK P w a (fun j => S j || decide (j = .inr z)) (if S (.inr z) = true then n else n + 1)))) : rSAddK P w (.ref a) [.str z] H Q := ⟨a, .inr z, S, n, rfl, rfl, ha, room, q⟩
end
end Bar

set_option Elab.async false
set_option linter.all false
set_option maxRecDepth 100000
set_option maxHeartbeats 4000000
/-! classes whose __init__ takes *rest and may raise -/
namespace Bar
open PySem L2 PySem.Spec PyProof.Rows
structure MadeRX (P : Program) (w : World) (K : PySem.W.Frag) (mg : Str → Option Value) (base : Heap) (x : Str) (C : Addr) (k : Nat) (sp : Sp) : Prop where
  ex : ∃ f : Addr, mg x = some (.ref C) ∧ Mk K C f ∧ FnR P w K mg base (L2.CX P w) k f sp
theorem MadeRX.zero {P : Program} {w : World} {K : PySem.W.Frag} {mg : Str → Option Value} {base : Heap} {x : Str} {C : Addr} {k : Nat} {sp : Sp} (F : MadeRX P w K mg base x C k sp) : MadeR P w K mg base x C k (fun vs H Q _ => sp vs H Q E0) := by
  obtain ⟨f, hm, M, ok⟩ := F.ex
  exact ⟨f, hm, M, FnR0 ok⟩
section
variable {X : Cx} {W : WX} {k : Nat} {f C : Addr} {sp : Sp} {x : Str} {p pos : Pos} {e : Expr} {es : List Expr} {t : TA}
theorem run_makeRX {pins : List (Addr × Obj)} {σ : L2.St} {H : Hp} {s : Shared} {Q : VK} {us : List Value} {vs : List V} (M : Mk X.K C f) (F : FnR X.prog X.w X.K X.mg X.base (L2.CX X.prog X.w) k f sp) (hr : Room (k + 1) X.A)
    (tk : Takes X W) (I : Inv X pins σ H s) (r : Vals vs us)
    (h : ∀ x dx, H x = none → H dx = none → dx ≠ x → sp (.ref x :: vs) (upd (upd H dx (.own x)) x (.ins C dx [])) (fun v H2 => v = .non ∧ Q (.ref x) H2) (wAt W σ)) :
    wpAny (model X.prog X.w) X.A (call (.ref C) us) (EP X pins σ Q) X.xe s := by
  have hq := h (s.heap.objs.size + 1) s.heap.objs.size (I.hok.fresh (Nat.le_succ _)) (I.hok.fresh (Nat.le_refl _)) (Nat.ne_of_lt (Nat.lt_succ_self _))
  have J := Inv.made (C := C) I
  have r2 : Vals (V.ref (s.heap.objs.size + 1) :: vs) (Value.ref (s.heap.objs.size + 1) :: us) := .cons rfl r
  refine wpAny_call (make_map (f := f) I.kIn M.makes M.init (beq_iff_eq.mp M.fn) (codeAny_mono (F _ X.stack _ _ (Value.ref (s.heap.objs.size + 1) :: us) _ _ (wAt W σ) (hr.make C us [])
    (J.env0.make C us []) r2 hq) fun z s' hz => ?_))
  match z, hz with
  | .error e, hz => exact tk e s' (XE.of_call J (fun _ _ _ h => h) hz)
  | .ok (.ret u), hz =>
    obtain ⟨v, H', J3, rv, ev, q3⟩ := J.after hz
    subst ev
    exact ⟨rv, ⟨V.ref (s.heap.objs.size + 1), H', J3, rfl, q3⟩⟩
def tMakeRX (C : Addr) (sp : Sp) (W : WX) (t : TA) : TE := fun σ H Q => t σ H fun vs H1 => ∀ x dx, H1 x = none → H1 dx = none → dx ≠ x →
  sp (.ref x :: vs) (upd (upd H1 dx (.own x)) x (.ins C dx [])) (fun v H2 => v = .non ∧ Q (.ref x) H2) (wAt W σ)
instance {σ : L2.St} {H : Hp} {Q : VK} : Rd (tMakeRX C sp W t σ H Q) (t σ H fun vs H1 => ∀ x dx, H1 x = none → H1 dx = none → dx ≠ x →
  sp (.ref x :: vs) (upd (upd H1 dx (.own x)) x (.ins C dx [])) (fun v H2 => v = .non ∧ Q (.ref x) H2) (wAt W σ)) := ⟨fun h => h⟩
theorem pe_mkRX (F : MadeRX X.prog X.w X.K X.mg X.base x C k sp) (tk : Takes X W) (hr : Room (k + 1) X.A) (hg : Gl X x) (ha : PA X (e :: es) t) (hdb : (x == ("__debug__" : Str)) = false := by decide)
    (he : starEach (e :: es) X.env = (false, eval e X.env) :: starEach es X.env := by rfl) (hpl : (backTo pos (starEach es X.env)).any (·.1) = false := by rfl) : PE X (.Call (.Name x p) (e :: es) [] pos) (tMakeRX C sp W t) := ⟨fun pins s σ H Q I h => by
  obtain ⟨f, hm, M, ok⟩ := F.ex
  refine wpAny_Call_Name_kw (ld_glob I hg hm ?_ hdb)
  refine PySem.W.callWith_K (h₀ := X.base) I.ok.mod.kin M.kp (thn (ha.run pos pins s σ H _ I h) fun us s1 hs => ?_) he hpl
  obtain ⟨vs, H1, J, r, q⟩ := hs
  exact ⟨J.kIn, run_makeRX M ok hr tk J r q⟩⟩
end
end Bar

set_option Elab.async false
set_option linter.all false
set_option maxRecDepth 100000
set_option maxHeartbeats 4000000
/-! loops over an instance of an own class whose __iter__ gives the iterator of a tuple of its own -/
namespace Bar
open PySem L2 PySem.Spec PyProof.Rows
/-- at it an iterator over the tuple at t, at its beginning -/
def ItTu (t it : Addr) : HO := .ext fun h => h.IsTupleIter it t 0
theorem itTu_ok {P : Program} {w : World} {H : Hp} {h : Heap} {it t : Addr} (e : h.IsTupleIter it t 0) : ObjOk P w H h it (ItTu t it) := by
  obtain ⟨o, ho, hc, hd⟩ := id e
  exact ⟨e, ⟨o, ho⟩, fun h1 h2 q k => by
    obtain ⟨o1, e1, c1, d1⟩ := q
    exact ⟨o1, k _ e1, c1, d1⟩⟩
/-- iter(t), t a tuple; the iterator is not older than n -/
def rIterT (K : PySem.W.Frag) (n : Nat) : List V → Hp → VK → Prop := fun xs H Q => ∃ (t : Addr) (zs : List V), xs = [.ref t] ∧ SqT K H t zs ∧ ∀ it, H it = Option.none → n ≤ it → Q (.ref it) (upd H it (ItTu t it))
theorem call_iterT {X : Cx} : CallR X (.builtin "iter") (rIterT X.K X.s_0.heap.objs.size) := by
  intro pins s σ H xs us Q I r h
  obtain ⟨l, zs, rfl, hq, q⟩ := h
  obtain ⟨u, rfl, ru⟩ := vals1 r
  cases ru
  obtain ⟨its, rv, pl, hz⟩ := I.tuple hq
  refine Calls.call_function_entry (by decide +kernel) (by decide +kernel) PySem.W.kdk_entry_iter (PySem.W.kdk_args_iter _) ?_
  unfold Builtin.«iter»
  refine wpAny_bind (m := someArgs "iter" 1 2 _) (wpAny_of_eq (a := [Value.ref l]) (by first | rfl | kernel_rfl!) ?_)
  show wpAny _ _ (pyIter (.ref l) >>= _) _ _ _
  refine wpAny_bind (wpAny_pyIter_tuple (show s.heap.IsTuple l its.toArray from pl) ?_)
  refine wpAny_pure ⟨_, rfl, ?_⟩
  exact ⟨.ref s.heap.objs.size, _, I.laid (t' := s.toks) (fun b u e => Heap.get?_push_of_some _ e) (Nat.le_refl _) (itTu_ok ⟨_, Heap.get?_push_size _ rfl, rfl, rfl⟩), rfl, q _ (I.hok.fresh (Nat.le_refl _)) I.sz⟩
/-- a def whose promise speaks of the state at its entry -/
structure FnS (P : Program) (w : World) (K : PySem.W.Frag) (mg : Str → Option Value) (base : Heap) (k : Nat) (f : Addr) (fd : FuncData) (ps : List Str) (sp : Nat → Sp) : Prop where
  len : ∀ n vs H Q E, sp n vs H Q E → vs.length = ps.length
  run : ∀ (A : Around) (outer : List Env) (s : Shared) (H : Hp) (args : Args) (us : List Value) (vs : List V) (Q : VK) (E : XK), Room k A → Env0 P w K mg base A outer s H → BindsTo s fd args (ps.zip us) → Vals vs us → sp s.heap.objs.size vs H Q E →
    codeAny (model P w) A (.call (.ref f) args) (CR CX0 outer P w H s Q E) s
theorem fn_ofS {P : Program} {w : World} {K : PySem.W.Frag} {mg : Str → Option Value} {base : Heap} {k : Nat} {f : Addr} {name qual : Str} {params : Arguments} {body : List Stmt} {scope : Scope} {dV kV doc pm cdv ct oc : Value} {an od : Option Addr}
    {osl : Array (Option Value)} {N ps : List Str} {sp : Nat → Sp} (lk : K.lookup f = some ⟨oc, od, .func (PySem.W.fnOf name qual params body scope dV kV doc pm an cdv ct), osl⟩) (hcd : PySem.W.codeIn K cdv qual = true) (S : FnScope N ps scope)
    (len : ∀ n vs H Q E, sp n vs H Q E → vs.length = ps.length)
    (hbody : ∀ (A : Around) (outer : List Env) (s : Shared) (H : Hp) (vs : List V) (Q : VK) (E : XK), Room k (A.deeper (envOfC qual scope s.heap.objs.size f cdv)) → sp s.heap.objs.size vs H Q E →
      ∃ t, PSs (cxOf CX0 P w K mg base N qual scope f cdv A outer s H E) body t ∧ t { nx := fun _ H' => Q .non H', rt := Q } (start N vs) H) :
    FnS P w K mg base (k + 1) f (PySem.W.fnOf name qual params body scope dV kV doc pm an cdv ct) ps sp := by
  refine ⟨len, fun A outer s H args us vs Q E hr e0 hb r hsp => ?_⟩
  have hl := len _ _ _ _ _ hsp
  have KX : K.In s.heap := e0.mod.kin.keeps fun b o e => (e0.bs b o e).1
  have lim : s.heap.NoLimit := e0.mod.nolimit.keeps fun b o e => (e0.bs b o e).1
  have hkind : ∀ y ∈ ps.zip us, scope.names.lookup y.1 = some .local ∨ (scope.names.lookup y.1 = some .cell ∧ ((cellsFrom (s.heap.objs.size + 1) scope.names []).lookup y.1).isSome = true) := fun ⟨n, v⟩ hy => by
    rcases S.par n (List.of_mem_zip hy).1 with q | q
    · exact .inl q
    · exact .inr ⟨q, PySem.W.cellsFrom_some _ _ _ (.inl q)⟩
  refine codeAny_call_function hr.depth (KX _ _ lk) rfl S.co S.gen rfl (PySem.W.codeRec_of KX hcd) (hb _ _ _ _ ?_)
  refine wpAny_newFunctionEnv_cells S.kind hkind fun env he s1 x => ?_
  subst he
  refine ⟨lim.keeps x.toInCall.keep, codeAny_func ?_⟩
  obtain ⟨t, ht, hq⟩ := hbody A outer s H vs Q E (hr.deeper _) hsp
  have I : Inv (cxOf CX0 P w K mg base N qual scope f cdv A outer s H E) [] (start N vs) H s1 := inv_start S hr.hd e0 hl r x
  refine wpAny_mono (ht.run [] s1 (start N vs) H _ I hq) (fun fl s' hs => ?_) fun e s' hs => hs
  have fin : ∀ {σ' : L2.St} {H' : Hp} {v : V} {u : Value}, Inv (cxOf CX0 P w K mg base N qual scope f cdv A outer s H E) [] σ' H' s' → RelV v u → Q v H' → CE outer P w H s Q u s' :=
    fun {σ' H' v u} J rv q => ⟨v, H', J.os, J.bare, J.base, J.hok, rv, q⟩
  cases fl with
  | ret u =>
    obtain ⟨v, σ', H', J, rv, q⟩ := hs
    exact fin J rv q
  | next =>
    obtain ⟨σ', H', J, q⟩ := hs
    exact fin (v := V.non) (u := Value.none) J rfl q
  | brk =>
    obtain ⟨_, _, _, q⟩ := hs
    exact False.elim q
  | cont =>
    obtain ⟨_, _, _, q⟩ := hs
    exact False.elim q
/-- what such an __iter__ promises: the iterator of the tuple in the field fld -/
def spIterF (K : PySem.W.Frag) (C : Addr) (fld : Str) (n : Nat) : Sp := fun vs H Q _ => ∃ (a dx t : Addr) (fs : List (Str × V)) (xs : List V), vs = [.ref a] ∧ H a = some (.ins C dx fs) ∧ fs.lookup fld = some (.ref t) ∧ SqT K H t xs ∧
  ∀ it, H it = Option.none → n ≤ it → Q (.ref it) (upd H it (ItTu t it))
theorem ok_iterF {P : Program} {w : World} {K : PySem.W.Frag} {mg : Str → Option Value} {base : Heap} {x qual fld : Str} {st : Stmt} {f C : Addr} {fd : FuncData} {N : List Str} {slf : Str} {k : Nat} (F : Fun K x qual st f fd) (S : FnScope N [slf] (defScope st)) (cl : Cls K C) (no : NoAttr K C fld)
    (hbody : ∀ (cdv : Value) (A : Around) (outer : List Env) (s : Shared) (H : Hp) (E : XK), ∃ te : TE, (∀ {σ H Q a dx fs t xs}, σ = start N [.ref a] → H a = some (.ins C dx fs) → fs.lookup fld = some (.ref t) → SqT K H t xs → (∀ it, H it = Option.none → s.heap.objs.size ≤ it → Q (.ref it) (upd H it (ItTu t it))) → te σ H Q) ∧
      PSs (cxOf CX0 P w K mg base N qual (defScope st) f cdv A outer s H E).nox (defBody st) (tRet te)) : FnS P w K mg base (k + 1) f fd [slf] (spIterF K C fld) := by
  obtain ⟨oc, od, kV, doc, pm, an, cdv, ct, osl, rfl, lk, hcd⟩ := F.ex
  refine fn_ofS lk hcd S (fun n vs H Q E h => by obtain ⟨a, dx, t, fs, xs, rfl, _⟩ := h; rfl) fun A outer s H vs Q E hr h => ?_
  obtain ⟨a, dx, t, fs, xs, rfl, ha, hl, hs, q⟩ := h
  obtain ⟨te, h1, h2⟩ := hbody cdv A outer s H E
  exact ⟨_, h2.nox, h1 rfl ha hl hs q⟩
structure ItOwn (P : Program) (w : World) (K : PySem.W.Frag) (mg : Str → Option Value) (base : Heap) (C : Addr) (fld : Str) (k : Nat) : Prop where
  ex : ∃ (f : Addr) (fd : FuncData) (slf : Str), PySem.W.findIn K (.ref C) "__iter__" = some (some (.ref f)) ∧ PySem.W.isFn K (.ref f) = true ∧ Binds K fd [slf] [] ∧ FnS P w K mg base k f fd [slf] (spIterF K C fld)
def iOwn (K : PySem.W.Frag) (C : Addr) (fld : Str) (te : TE) : TI := fun σ H R => te σ H fun x H1 => ∃ (a dx t : Addr) (fs : List (Str × V)) (xs : List V), x = .ref a ∧ H1 a = some (.ins C dx fs) ∧ fs.lookup fld = some (.ref t) ∧ SqT K H1 t xs ∧ R (Itt K t) H1
theorem pi_own {X : Cx} {tg : Expr} {C : Addr} {fld : Str} {k : Nat} {e : Expr} {te : TE} (F : ItOwn X.prog X.w X.K X.mg X.base C fld k) (hr : Room k X.A) (he : PE X e te) : PI X tg e (iOwn X.K C fld te) := by
  refine ⟨fun pins s σ H R I h => ?_⟩
  refine thn (he.run pins s σ H _ I h) fun v s1 ⟨x, H1, I1, r1, q1⟩ => ?_
  obtain ⟨a, dx, t, fs, xs, rfl, ha, hl, hs, q⟩ := q1
  cases r1
  obtain ⟨f, fd, slf, hi, hf, hb, ok⟩ := F.ex
  obtain ⟨mA, J, _⟩ := ins_get I1.hok ha
  obtain ⟨od, J, _⟩ := J.look
  obtain ⟨m0, hF⟩ := I1.fr
  refine PySem.W.owit_iter hF I1.ok.mod.kin J hi hf ?_
  have r2 : Vals [V.ref a] [Value.ref a] := .cons rfl .nil
  have bnd : BindsTo s1 fd ⟨[Value.ref a], []⟩ ([slf].zip [Value.ref a]) := by
    have e := hb s1 [Value.ref a] I1.kIn rfl
    rwa [List.append_nil] at e
  have run := ok.run X.A X.stack s1 H1 ⟨[Value.ref a], []⟩ [Value.ref a] [V.ref a] (fun v H' => ∃ it, v = .ref it ∧ H1 it = Option.none ∧ s1.heap.objs.size ≤ it ∧ H' = upd H1 it (ItTu t it)) E0 hr I1.env0 bnd r2 ⟨a, dx, t, fs, xs, rfl, ha, hl, hs, fun it h1 h2 => ⟨it, rfl, h1, h2, rfl⟩⟩
  refine wpAny_call (codeAny_mono run fun r s' hq => ?_)
  cases r with
  | error e => exact False.elim hq
  | ok fl =>
    cases fl with
    | ret u' =>
      obtain ⟨v', H', I', rv, it, rfl, hn, hsz, rfl⟩ := I1.after hq
      cases rv
      have ei : (upd H1 it (ItTu t it)) it = some (ItTu t it) := upd_same
      have st : s'.heap.IsTupleIter it t 0 := (I'.hok it _ ei).1
      unfold PySem.W.OwitIt
      refine wpAny_specialOf (name := Str.ofString "__next__") st.typeIs PySem.F.slot_tuple_iterator_next.lookup ?_
      have ei' := ei
      unfold ItTu at ei'
      have dr : ItX.dropH (upd H1 it (ItTu t it)) it = H1 := ItX.dropH_upd hn
      have I2 := ItX.inv_drop I' ei'
      have fp := ItX.inv_fp I' ei (Nat.le_trans I1.sz hsz)
      rw [dr] at I2 fp
      refine ⟨it, [it], _, _, H1, rfl, I2, turn_tuple t it, st, fun b hb => ?_, q⟩
      rw [List.mem_singleton.mp hb]
      exact fp
    | next => exact False.elim hq
    | brk => exact False.elim hq
    | cont => exact False.elim hq
instance {K : PySem.W.Frag} {C : Addr} {fld : Str} {te : TE} {σ : L2.St} {H : Hp} {R : It → Hp → Prop} : Rd (iOwn K C fld te σ H R) (te σ H fun x H1 => ∃ (a dx t : Addr) (fs : List (Str × V)) (xs : List V), x = .ref a ∧ H1 a = some (.ins C dx fs) ∧ fs.lookup fld = some (.ref t) ∧ SqT K H1 t xs ∧ R (Itt K t) H1) := ⟨fun h => h⟩
/-- a comprehension over such an instance -/
theorem lcO {σ τ : L2.St} {H : Hp} {g : TG} {tt : TT} {te : TE} {vs : List Nat} {K : PySem.W.Frag} {C a dx t : Addr} {fld : Str} {fs : List (Str × V)} {xs : List V} {R : Addr → Hp → Prop} (ew : wipe σ vs = τ) (ha : H a = some (.ins C dx fs)) (hl : fs.lookup fld = some (.ref t)) (hx : SqT K H t xs)
    (h : ∀ D, H D = none → ∃ Pv : Nat → Hp → Prop, Pv 0 (upd H D (.lst [])) ∧ (∀ i H', i ≤ xs.length → Pv i H' → SqT K H' t xs) ∧
      (∀ i x H', xs[i]? = some x → Pv i H' → g x τ H' fun σ2 H2 => wipe σ2 vs = τ ∧ tt σ2 H2 fun b H3 =>
        if b = true then te σ2 H3 fun y H4 => ∃ acc, H4 D = some (.lst acc) ∧ acc.length < sizeLine ∧ Pv (i + 1) (upd H4 D (.lst (acc ++ [y]))) else Pv (i + 1) H3) ∧ ∀ H', Pv xs.length H' → R D H') :
    ∃ (a' dx t : Addr) (fs : List (Str × V)) (xs : List V), V.ref a = .ref a' ∧ H a' = some (.ins C dx fs) ∧ fs.lookup fld = some (.ref t) ∧ SqT K H t xs ∧ ∀ D, H D = none → ∃ W : Nat → Nat → Hp → Prop, (∃ m, W 0 m (upd H D (.lst []))) ∧ ∀ i m H, W i m H →
      ((Itt K t).stop i H ∧ R D H) ∨ ((Itt K t).go i H ∧ ∃ Nx : Hp → Prop, (∀ H', Nx H' → ∃ m', m' < m ∧ W (i + 1) m' H') ∧ ∀ x H', (Itt K t).yld i H x H' → g x (wipe σ vs) H' fun σ2 H2 => wipe σ2 vs = wipe σ vs ∧ tt σ2 H2 fun b H3 =>
        if b = true then te σ2 H3 fun y H4 => ∃ acc, H4 D = some (.lst acc) ∧ acc.length < sizeLine ∧ Nx (upd H4 D (.lst (acc ++ [y]))) else Nx H3) := by
  subst ew
  refine ⟨a, dx, t, fs, xs, rfl, ha, hl, hx, fun D hD => ?_⟩
  obtain ⟨Pv, h0, hl, hs, hd⟩ := h D hD
  exact lc_tup Pv h0 hl hs hd
end Bar

local macro_rules | `(tactic| walk_at "rc") => `(tactic| first
  | decide | assumption | omega
  | exact Or.inr ⟨by decide, by decide⟩ | exact Or.inl ⟨by decide, by decide⟩ | exact ⟨by decide, by decide⟩)
local macro_rules | `(tactic| walk_at "lk1") => `(tactic| ((with_reducible refine Bar.lkNew ?hp ?h); (case hp => with_reducible assumption); (case h => walk_at "lk")))
local macro_rules | `(tactic| walk_at "lk2") => `(tactic| ((with_reducible refine Bar.lkNe ?n ?h); (case n => with_reducible first | assumption | exact Ne.symm (by assumption)); (case h => walk_at "lk")))
local macro_rules | `(tactic| walk_at "lk3") => `(tactic| ((with_reducible refine Bar.lkMut (o' := ?o) ?h ?hp ?d); (case h => walk_at "lk"); (case hp => walk_at "lk"); (case d => (intro z; cases z))))
local macro_rules | `(tactic| walk_at "lk4") => `(tactic| ((with_reducible refine Bar.lkKn (b := ?b) (H := ?H) ?k ?n ?h); (case k => with_reducible assumption); (case n => with_reducible first | assumption | exact Ne.symm (by assumption)); (case h => walk_at "lk")))
local macro_rules | `(tactic| walk_at "lk5") => `(tactic| ((with_reducible refine Bar.lkKp (b := ?b) (H := ?H) (u := ?u) ?k ?h ?hb ?d); (case k => with_reducible assumption); (case h => walk_at "lk"); (case hb => walk_at "lk"); (case d => (intro z; cases z))))
local macro_rules | `(tactic| walk_at "lk6") => `(tactic| ((with_reducible refine Bar.lkSm (H := ?H) ?k ?h); (case k => with_reducible assumption); (case h => walk_at "lk")))
local macro_rules | `(tactic| walk_at "lk") => `(tactic| first
  | with_reducible assumption | with_reducible exact L2.upd_same | walk_at "lk1" | walk_at "lk2" | walk_at "lk3" | walk_at "lk4" | walk_at "lk5" | walk_at "lk6")
local macro_rules | `(tactic| walk_at "sqL") => `(tactic| first | with_reducible assumption | ((with_reducible refine L2.SqL.of ?_); walk_at "lk") | assumption)
local macro_rules | `(tactic| walk_at "sqT") => `(tactic| first | with_reducible assumption | ((with_reducible refine L2.SqT.of ?_); walk_at "lk") | assumption)
local macro_rules | `(tactic| walk_at "kit") => `(tactic| first | exact Bar.kit_list_int | exact Bar.kit_list_bool | exact Bar.kit_list_str | exact Bar.kit_list_list | exact Bar.kit_list_tuple | exact Bar.kit_tuple_int | exact Bar.kit_tuple_bool | exact Bar.kit_tuple_str | exact Bar.kit_tuple_list | exact Bar.kit_tuple_tuple)
local macro_rules | `(tactic| walk_at "rx1") => `(tactic| ((with_reducible refine Bar.rI_ ?c ?_); (case c => walk_at "rc")))
local macro_rules | `(tactic| walk_at "rx2") => `(tactic| ((with_reducible refine Bar.rEq_ ?e ?_); (case e => exact rfl)))
local macro_rules | `(tactic| walk_at "rx3") => `(tactic| ((with_reducible refine Bar.rNe_ ?e ?_); (case e => exact rfl)))
local macro_rules | `(tactic| walk_at "rx4") => `(tactic| ((with_reducible refine Bar.rIxL_ (v := ?v) (xs := ?xs) ?h1 ?h2 ?_); (case h1 => walk_at "sqL"); (case h2 => exact rfl)))
local macro_rules | `(tactic| walk_at "rx5") => `(tactic| ((with_reducible refine Bar.rIxT_ (v := ?v) (xs := ?xs) ?h1 ?h2 ?_); (case h1 => walk_at "sqT"); (case h2 => exact rfl)))
local macro_rules | `(tactic| walk_at "rx6") => `(tactic| ((with_reducible refine Bar.rSetL_ (xs := ?xs) (j := ?j) ?h1 ?h2 ?_); (case h1 => walk_at "lk"); (case h2 => exact rfl)))
local macro_rules | `(tactic| walk_at "rx7") => `(tactic| ((with_reducible refine Bar.rLenL (ys := ?ys) ?h1 ?_); (case h1 => walk_at "sqL")))
local macro_rules | `(tactic| walk_at "rx8") => `(tactic| ((with_reducible refine Bar.tyL (xs := ?xs) ?h1 ?_); (case h1 => walk_at "sqL")))
local macro_rules | `(tactic| walk_at "rx9") => `(tactic| ((with_reducible refine Bar.rNew ?e ?_); (case e => exact Bar.szLe (by simp))))
local macro_rules | `(tactic| walk_at "rx10") => `(tactic| ((with_reducible refine Bar.rIxSL (xs := ?xs) (v := ?v) ?h1 ?h2 ?_); (case h1 => walk_at "lk"); (case h2 => exact rfl)))
local macro_rules | `(tactic| walk_at "rx11") => `(tactic| ((with_reducible refine Bar.rIxST (xs := ?xs) (v := ?v) ?h1 ?h2 ?_); (case h1 => walk_at "lk"); (case h2 => exact rfl)))
local macro_rules | `(tactic| walk_at "rx12") => `(tactic| ((with_reducible refine Bar.rLenT (ys := ?ys) ?h1 ?_); (case h1 => walk_at "sqT")))
local macro_rules | `(tactic| walk_at "rx13") => `(tactic| ((with_reducible refine Bar.rTupU (xs := ?xs) ?h1 ?h2 ?_); (case h1 => walk_at "sqT"); (case h2 => exact rfl)))
local macro_rules | `(tactic| walk_at "ry4") => `(tactic| ((with_reducible refine Bar.isiL (xs := ?xs) (r := ?r) ?e ?h ?_); (case e => walk_at "lk"); (case h => walk_at "kit")))
local macro_rules | `(tactic| walk_at "ry5") => `(tactic| ((with_reducible refine Bar.isiT (xs := ?xs) (r := ?r) ?e ?h ?_); (case e => walk_at "lk"); (case h => walk_at "kit")))
local macro_rules | `(tactic| walk_at "rs") => `(tactic| first | with_reducible refine Bar.rd ?_ | walk_at "rx1" | walk_at "rx4" | walk_at "rx5" | walk_at "rx6" | walk_at "rx7" | walk_at "rx8" | walk_at "rx9" | walk_at "rx10" | walk_at "rx11" | walk_at "rx12" | walk_at "rx13" | walk_at "ry4" | walk_at "ry5" | walk_at "rx2" | walk_at "rx3")
local macro_rules | `(tactic| walk_at "rd") => `(tactic| repeat walk_at "rs")

namespace Lw
open PySem L2 Bar
def top (i : Nat) : Stmt := PySem.Challenge.pw_barclips_k25_track_rules.main.body.getD i (.Pass ⟨0, 0, 0, 0⟩)
abbrev s_law_box : Stmt := top 35
abbrev N_law_box : List Str := ["_law_script", "_law_at", "_law_cell", "_law_salt", "_law_one"]
abbrev P_law_box : List Str := ["_law_script", "_law_at"]
theorem sc_law_box : FnScope N_law_box P_law_box (defScope s_law_box) := ⟨rfl, rfl, rfl, by decide +kernel, rfl, by decide +kernel, by decide +kernel⟩
abbrev s_law_draw : Stmt := top 36
abbrev N_law_draw : List Str := ["_law_box_here", "_law_many", "_law_found", "_law_total", "_law_turn", "_law_once", "_law_twice"]
abbrev P_law_draw : List Str := ["_law_box_here", "_law_many"]
theorem sc_law_draw : FnScope N_law_draw P_law_draw (defScope s_law_draw) := ⟨rfl, rfl, rfl, by decide +kernel, rfl, by decide +kernel, by decide +kernel⟩
abbrev s_law_int : Stmt := top 37
abbrev N_law_int : List Str := ["_law_x"]
abbrev P_law_int : List Str := ["_law_x"]
theorem sc_law_int : FnScope N_law_int P_law_int (defScope s_law_int) := ⟨rfl, rfl, rfl, by decide +kernel, rfl, by decide +kernel, by decide +kernel⟩
abbrev s_law_same : Stmt := top 38
abbrev N_law_same : List Str := ["_law_got", "_law_due_here", "_law_k"]
abbrev P_law_same : List Str := ["_law_got", "_law_due_here"]
theorem sc_law_same : FnScope N_law_same P_law_same (defScope s_law_same) := ⟨rfl, rfl, rfl, by decide +kernel, rfl, by decide +kernel, by decide +kernel⟩
abbrev s_law_name : Stmt := top 39
abbrev N_law_name : List Str := ["_law_box_here", "_law_used", "_law_letters", "_law_turn", "_law_name_here", "_law_k"]
abbrev P_law_name : List Str := ["_law_box_here", "_law_used"]
theorem sc_law_name : FnScope N_law_name P_law_name (defScope s_law_name) := ⟨rfl, rfl, rfl, by decide +kernel, rfl, by decide +kernel, by decide +kernel⟩
abbrev s_law_bad_name : Stmt := top 40
abbrev N_law_bad_name : List Str := ["_law_box_here", "_law_name_here", "_law_kind", "_law_signs", "_law_at"]
abbrev P_law_bad_name : List Str := ["_law_box_here", "_law_name_here"]
theorem sc_law_bad_name : FnScope N_law_bad_name P_law_bad_name (defScope s_law_bad_name) := ⟨rfl, rfl, rfl, by decide +kernel, rfl, by decide +kernel, by decide +kernel⟩
abbrev s_law_rows : Stmt := top 41
abbrev N_law_rows : List Str := ["_law_box_here", "_law_used", "_law_found", "_law_k", "_law_name_here", "_law_size"]
abbrev P_law_rows : List Str := ["_law_box_here", "_law_used"]
theorem sc_law_rows : FnScope N_law_rows P_law_rows (defScope s_law_rows) := ⟨rfl, rfl, rfl, by decide +kernel, rfl, by decide +kernel, by decide +kernel⟩
abbrev s_law_case : Stmt := top 42
abbrev N_law_case : List Str := ["_law_box_here", "_law_name_here", "_law_rows_here", "_law_good", "_law_row", "_law_pair", "_law_turn", "_law_at", "_law_one", "_law_two"]
abbrev P_law_case : List Str := ["_law_box_here", "_law_name_here", "_law_rows_here"]
theorem sc_law_case : FnScope N_law_case P_law_case (defScope s_law_case) := ⟨rfl, rfl, rfl, by decide +kernel, rfl, by decide +kernel, by decide +kernel⟩
abbrev s_law_clips : Stmt := top 43
abbrev N_law_clips : List Str := ["_law_row", "_law_pair", "_law_made", "_law_c", "_law_one"]
abbrev P_law_clips : List Str := ["_law_row", "_law_pair"]
theorem sc_law_clips : FnScope N_law_clips P_law_clips (defScope s_law_clips) := ⟨rfl, rfl, rfl, by decide +kernel, rfl, by decide +kernel, by decide +kernel⟩
abbrev s_law_track_of : Stmt := top 44
abbrev N_law_track_of : List Str := ["_law_name_here", "_law_made"]
abbrev P_law_track_of : List Str := ["_law_name_here", "_law_made"]
theorem sc_law_track_of : FnScope N_law_track_of P_law_track_of (defScope s_law_track_of) := ⟨rfl, rfl, rfl, by decide +kernel, rfl, by decide +kernel, by decide +kernel⟩
abbrev s_law_told : Stmt := top 45
abbrev N_law_told : List Str := ["_law_name_here", "_law_made", "_law_told_here", "_law_track", "e"]
abbrev P_law_told : List Str := ["_law_name_here", "_law_made"]
theorem sc_law_told : FnScope N_law_told P_law_told (defScope s_law_told) := ⟨rfl, rfl, rfl, by decide +kernel, rfl, by decide +kernel, by decide +kernel⟩
abbrev s_law_due : Stmt := top 46
abbrev N_law_due : List Str := ["_law_name_here", "_law_good", "_law_row", "_law_void", "_law_names", "_law_k", "_law_c"]
abbrev P_law_due : List Str := ["_law_name_here", "_law_good", "_law_row"]
theorem sc_law_due : FnScope N_law_due P_law_due (defScope s_law_due) := ⟨rfl, rfl, rfl, by decide +kernel, rfl, by decide +kernel, by decide +kernel⟩
abbrev s_law_ring_due : Stmt := top 47
abbrev N_law_ring_due : List Str := ["_law_track", "_law_name_here", "_law_row", "_law_others", "_law_c", "_law_names", "_law_turn", "_law_clip", "_law_got", "_law_one"]
abbrev P_law_ring_due : List Str := ["_law_track", "_law_name_here", "_law_row", "_law_others"]
theorem sc_law_ring_due : FnScope N_law_ring_due P_law_ring_due (defScope s_law_ring_due) := ⟨rfl, rfl, rfl, by decide +kernel, rfl, by decide +kernel, by decide +kernel⟩
abbrev s_law : Stmt := top 48
abbrev N_law : List Str := ["_law_script", "_law_box_here", "_law_used", "_law_name_here", "_law_many", "_law_rows_here", "_law_alike", "_law_others", "_law_first", "_law_turn", "_law_found", "_law_due_here", "_law_got"]
abbrev P_law : List Str := ["_law_script"]
theorem sc_law : FnScope N_law P_law (defScope s_law) := ⟨rfl, rfl, rfl, by decide +kernel, rfl, by decide +kernel, by decide +kernel⟩
abbrev s_Grid___init__ : Stmt := inClass (top 29) 0
abbrev N_Grid___init__ : List Str := ["self", "step", "offset"]
abbrev P_Grid___init__ : List Str := ["self", "step", "offset"]
theorem sc_Grid___init__ : FnScope N_Grid___init__ P_Grid___init__ (defScope s_Grid___init__) := ⟨rfl, rfl, rfl, by decide +kernel, rfl, by decide +kernel, by decide +kernel⟩
abbrev s_BadName___init__ : Stmt := inClass (top 4) 0
abbrev N_BadName___init__ : List Str := ["self", "name"]
abbrev P_BadName___init__ : List Str := ["self", "name"]
theorem sc_BadName___init__ : FnScope N_BadName___init__ P_BadName___init__ (defScope s_BadName___init__) := ⟨rfl, rfl, rfl, by decide +kernel, rfl, by decide +kernel, by decide +kernel⟩
abbrev s_BadNumber___init__ : Stmt := inClass (top 5) 0
abbrev N_BadNumber___init__ : List Str := ["self", "value"]
abbrev P_BadNumber___init__ : List Str := ["self", "value"]
theorem sc_BadNumber___init__ : FnScope N_BadNumber___init__ P_BadNumber___init__ (defScope s_BadNumber___init__) := ⟨rfl, rfl, rfl, by decide +kernel, rfl, by decide +kernel, by decide +kernel⟩
abbrev s_Unknown___init__ : Stmt := inClass (top 10) 0
abbrev N_Unknown___init__ : List Str := ["self", "name"]
abbrev P_Unknown___init__ : List Str := ["self", "name"]
theorem sc_Unknown___init__ : FnScope N_Unknown___init__ P_Unknown___init__ (defScope s_Unknown___init__) := ⟨rfl, rfl, rfl, by decide +kernel, rfl, by decide +kernel, by decide +kernel⟩
abbrev s_EmptyClip___init__ : Stmt := inClass (top 11) 0
abbrev N_EmptyClip___init__ : List Str := ["self", "name"]
abbrev P_EmptyClip___init__ : List Str := ["self", "name"]
theorem sc_EmptyClip___init__ : FnScope N_EmptyClip___init__ P_EmptyClip___init__ (defScope s_EmptyClip___init__) := ⟨rfl, rfl, rfl, by decide +kernel, rfl, by decide +kernel, by decide +kernel⟩
abbrev s_NoClips___init__ : Stmt := inClass (top 8) 0
abbrev N_NoClips___init__ : List Str := ["self", "name"]
abbrev P_NoClips___init__ : List Str := ["self", "name"]
theorem sc_NoClips___init__ : FnScope N_NoClips___init__ P_NoClips___init__ (defScope s_NoClips___init__) := ⟨rfl, rfl, rfl, by decide +kernel, rfl, by decide +kernel, by decide +kernel⟩
abbrev s_TooMany___init__ : Stmt := inClass (top 7) 0
abbrev N_TooMany___init__ : List Str := ["self", "kind", "most"]
abbrev P_TooMany___init__ : List Str := ["self", "kind", "most"]
theorem sc_TooMany___init__ : FnScope N_TooMany___init__ P_TooMany___init__ (defScope s_TooMany___init__) := ⟨rfl, rfl, rfl, by decide +kernel, rfl, by decide +kernel, by decide +kernel⟩
abbrev s_Twice___init__ : Stmt := inClass (top 9) 0
abbrev N_Twice___init__ : List Str := ["self", "name"]
abbrev P_Twice___init__ : List Str := ["self", "name"]
theorem sc_Twice___init__ : FnScope N_Twice___init__ P_Twice___init__ (defScope s_Twice___init__) := ⟨rfl, rfl, rfl, by decide +kernel, rfl, by decide +kernel, by decide +kernel⟩
abbrev s_is_name : Stmt := top 17
abbrev N_is_name : List Str := ["text", "character"]
abbrev P_is_name : List Str := ["text"]
theorem sc_is_name : FnScope N_is_name P_is_name (defScope s_is_name) := ⟨rfl, rfl, rfl, by decide +kernel, rfl, by decide +kernel, by decide +kernel⟩
abbrev s_first_twice : Stmt := top 18
abbrev N_first_twice : List Str := ["names", "seen", "name"]
abbrev P_first_twice : List Str := ["names"]
theorem sc_first_twice : FnScope N_first_twice P_first_twice (defScope s_first_twice) := ⟨rfl, rfl, rfl, by decide +kernel, rfl, by decide +kernel, by decide +kernel⟩
abbrev s_Sound___init__ : Stmt := inClass (top 31) 0
abbrev N_Sound___init__ : List Str := ["self", "name", "grid"]
abbrev P_Sound___init__ : List Str := ["self", "name", "grid"]
theorem sc_Sound___init__ : FnScope N_Sound___init__ P_Sound___init__ (defScope s_Sound___init__) := ⟨rfl, rfl, rfl, by decide +kernel, rfl, by decide +kernel, by decide +kernel⟩
abbrev s_check_guards : Stmt := top 32
abbrev N_check_guards : List Str := ["guards", "length", "before", "guard"]
abbrev P_check_guards : List Str := ["guards", "length"]
theorem sc_check_guards : FnScope N_check_guards P_check_guards (defScope s_check_guards) := ⟨rfl, rfl, rfl, by decide +kernel, rfl, by decide +kernel, by decide +kernel⟩
abbrev s_Clip___init__ : Stmt := inClass (top 33) 1
abbrev N_Clip___init__ : List Str := ["self", "name", "grid", "length", "rounds", "guards", "__class__", "most"]
abbrev P_Clip___init__ : List Str := ["self", "name", "grid", "length", "rounds", "guards"]
theorem sc_Clip___init__ : NdefX.NScope N_Clip___init__ P_Clip___init__ ["__class__"] (defScope s_Clip___init__) := NdefX.nscope_by (by decide +kernel)
abbrev s_Clip_span : Stmt := inClass (top 33) 2
abbrev N_Clip_span : List Str := ["self"]
abbrev P_Clip_span : List Str := ["self"]
theorem sc_Clip_span : FnScope N_Clip_span P_Clip_span (defScope s_Clip_span) := ⟨rfl, rfl, rfl, by decide +kernel, rfl, by decide +kernel, by decide +kernel⟩
abbrev s_guarded_places : Stmt := top 20
abbrev N_guarded_places : List Str := ["clips", "places", "start", "clip", "turn", "guard"]
abbrev P_guarded_places : List Str := ["clips"]
theorem sc_guarded_places : FnScope N_guarded_places P_guarded_places (defScope s_guarded_places) := ⟨rfl, rfl, rfl, by decide +kernel, rfl, by decide +kernel, by decide +kernel⟩
abbrev s_check_ring : Stmt := top 22
abbrev N_check_ring : List Str := ["name", "clips", "clip", "twice"]
abbrev P_check_ring : List Str := ["name", "clips"]
theorem sc_check_ring : FnScope N_check_ring P_check_ring (defScope s_check_ring) := ⟨rfl, rfl, rfl, by decide +kernel, rfl, by decide +kernel, by decide +kernel⟩
abbrev s_Track___init__ : Stmt := inClass (top 21) 1
abbrev N_Track___init__ : List Str := ["self", "name", "clips", "clip"]
abbrev P_Track___init__ : List Str := ["self", "name", "clips"]
theorem sc_Track___init__ : FnScope N_Track___init__ P_Track___init__ (defScope s_Track___init__) := ⟨rfl, rfl, rfl, by decide +kernel, rfl, by decide +kernel, by decide +kernel⟩
abbrev s_Track_clip_of : Stmt := inClass (top 21) 6
abbrev N_Track_clip_of : List Str := ["self", "name", "clip"]
abbrev P_Track_clip_of : List Str := ["self", "name"]
theorem sc_Track_clip_of : FnScope N_Track_clip_of P_Track_clip_of (defScope s_Track_clip_of) := ⟨rfl, rfl, rfl, by decide +kernel, rfl, by decide +kernel, by decide +kernel⟩
abbrev s_Track___iter__ : Stmt := inClass (top 21) 3
abbrev N_Track___iter__ : List Str := ["self"]
abbrev P_Track___iter__ : List Str := ["self"]
theorem sc_Track___iter__ : FnScope N_Track___iter__ P_Track___iter__ (defScope s_Track___iter__) := ⟨rfl, rfl, rfl, by decide +kernel, rfl, by decide +kernel, by decide +kernel⟩
abbrev s_Track___contains__ : Stmt := inClass (top 21) 4
abbrev N_Track___contains__ : List Str := ["self", "x", "clip"]
abbrev P_Track___contains__ : List Str := ["self", "x"]
theorem sc_Track___contains__ : FnScope N_Track___contains__ P_Track___contains__ (defScope s_Track___contains__) := ⟨rfl, rfl, rfl, by decide +kernel, rfl, by decide +kernel, by decide +kernel⟩

/-! ### the law's draws -/
/-- the facts of the built-in names -/
structure Txt (mg : Str → Option Value) : Prop where
  b_len : mg "len" = none
  b_int : mg "int" = none
  b_abs : mg "abs" = none
  b_str : mg "str" = none
  b_range : mg "range" = none
  b_isinstance : mg "isinstance" = none
  b_bool : mg "bool" = none
  b_list : mg "list" = none
  b_tuple : mg "tuple" = none
  b_sum : mg "sum" = none
  b_min : mg "min" = none
  b_max : mg "max" = none
  b_any : mg "any" = none
  b_all : mg "all" = none
  b_sorted : mg "sorted" = none
  b_enumerate : mg "enumerate" = none
abbrev big : Int := 10 ^ 399
abbrev box (c s n : Int) : HO := .lst [.int c, .int s, .int n]
abbrev kinds : List V := [.int 60, .int (10 ^ Int.toNat 6), .int (10 ^ Int.toNat 30), .int 60, .int (10 ^ Int.toNat 6), .int ((10 ^ Int.toNat 57) ^ Int.toNat 7), .int (10 ^ Int.toNat 6), .int 60, .int (10 ^ Int.toNat 30), .int 60, .int (10 ^ Int.toNat 6), .int 60]
theorem kinds_at {r : Int} (h0 : 0 ≤ r) (h1 : r < 12) : ∃ m, atI kinds r = some (.int m) ∧ 0 < m ∧ m ≤ big := by
  have h : r = 0 ∨ r = 1 ∨ r = 2 ∨ r = 3 ∨ r = 4 ∨ r = 5 ∨ r = 6 ∨ r = 7 ∨ r = 8 ∨ r = 9 ∨ r = 10 ∨ r = 11 := by omega
  rcases h with h | h | h | h | h | h | h | h | h | h | h | h <;> (subst h; exact ⟨_, rfl, by decide, by decide⟩)
def spDraw : Sp := fun vs H Q _ => ∃ (b : Addr) (c s n m : Int), vs = [.ref b, .int m] ∧ H b = some (box c s n) ∧ 0 < m ∧ m ≤ big ∧
  ∀ r c' n', 0 ≤ r → r < m → Q (.int r) (upd H b (box c' s n'))
theorem log_big {m : Int} (h0 : 0 < m) (h : m ≤ big) : m.natAbs < 2 ^ 1326 := by
  have h1 : m.natAbs ≤ 10 ^ 399 := by
    have e : big = ((10 ^ 399 : Nat) : Int) := by decide
    omega
  exact Nat.lt_of_le_of_lt h1 (by decide)
section
variable {P : Program} {w : World} {K : PySem.W.Frag} {mg : Str → Option Value} {base : Heap}
theorem ok_draw {f : Addr} {fd : FuncData} (F : Fun K "_law_draw" "_law_draw" s_law_draw f fd) (T : Txt mg) : FnOk P w K mg base CX0 1 f fd P_law_draw spDraw := by
  refine F.ok sc_law_draw (fun vs H Q E h => ?_) (fun cdv A outer s H vs Q E hr h => ?_)
  · obtain ⟨b, c, z, n, m, rfl, _⟩ := h
    rfl
  · obtain ⟨b, c, z, n, m, rfl, hb, m0, m1, k⟩ := h
    have lb := log_big m0 m1
    refine ⟨_, (pss_cons (ps_if (pt_cmpR op_gt (pe_ix ix_list (pv 0) pe_int (fun _ _ => rfl)) pe_int (nomark _)) (pss_cons (ps_set (i := 2) sc_law_draw.nd rfl (Or.inl rfl) (pe_op op_mod (pe_ix ix_list (pv 0) pe_int (fun _ _ => rfl)) (pv 1)))
    (pss_cons (ps_asg (pe_op op_fdivW (pe_ix ix_list (pv 0) pe_int (fun _ _ => rfl)) (pv 1)) (pg_sub (pv 0) pe_int set_list))
    (pss_one (ps_ret (pv 2))))) pss_nil)
    (pss_cons (ps_asg (pe_op op_add (pe_ix ix_list (pv 0) pe_int (fun _ _ => rfl)) pe_int) (pg_sub (pv 0) pe_int set_list))
    (pss_cons (ps_set (i := 3) sc_law_draw.nd rfl (Or.inl rfl) pe_int)
    (pss_cons (ps_for PassesOwn.never rfl  (pi_range1 rfl T.b_range (pa_cons (pe_op op_add pe_int (pe_op op_fdiv (pe_callB c_lenStr rfl T.b_len PySem.boot_len (pa_cons (pe_callTy c_str rfl T.b_str (by decide +kernel) (pa_cons (pv 1) pa_nil)) pa_nil)) pe_int)) pa_nil)) (pg_name (i := 4) sc_law_draw.nd rfl (Or.inl rfl)) (pss_cons (ps_set (i := 5) sc_law_draw.nd rfl (Or.inl rfl) (pe_op op_mod (pe_callTy c_int rfl T.b_int (by decide +kernel) (pa_cons (pe_op op_add (pe_op op_add (pe_op op_add (pe_op op_mul (pe_ix ix_list (pv 0) pe_int (fun _ _ => rfl)) pe_int) (pe_op op_mul (pe_ix ix_list (pv 0) pe_int (fun _ _ => rfl)) pe_int)) (pe_op op_mul (pv 4) pe_int)) pe_int) pa_nil)) pe_int))
    (pss_cons (ps_set (i := 5) sc_law_draw.nd rfl (Or.inl rfl) (pe_op op_mod (pe_callTy c_int rfl T.b_int (by decide +kernel) (pa_cons (pe_op op_add (pe_op op_add (pe_op op_mulW (pv 5) (pv 5)) (pe_op op_mul pe_int (pe_ix ix_list (pv 0) pe_int (fun _ _ => rfl)))) (pv 4)) pa_nil)) pe_int))
    (pss_cons (ps_set (i := 6) sc_law_draw.nd rfl (Or.inl rfl) (pe_op op_mod (pe_callTy c_int rfl T.b_int (by decide +kernel) (pa_cons (pe_op op_add (pe_op op_add (pe_op op_mulW (pv 5) (pv 5)) (pe_op op_mul pe_int (pv 5))) (pe_ix ix_list (pv 0) pe_int (fun _ _ => rfl))) pa_nil)) pe_int))
    (pss_one (ps_set (i := 3) sc_law_draw.nd rfl (Or.inl rfl) (pe_op op_add (pe_op op_mul (pv 3) pe_int) (pv 6))))))))
    (pss_one (ps_ret (pe_op op_mod (pe_callTy c_int rfl T.b_int (by decide +kernel) (pa_cons (pv 3) pa_nil)) (pv 1)))))))), ?_⟩
    refine Bar.rStart (σ := [some (.ref b), some (.int m), none, none, none, none, none]) rfl ?_
    have lg : m.natAbs.log2 < 1920 := Nat.lt_of_lt_of_le (PySem.Flt.log2_lt_of (by decide) lb) (by decide)
    have ls := PyProof.Rows.int_text_len_1921 lg
    walk_at "rd"
    refine ite2 (fun h => ?_) (fun h => ?_)
    · walk_at "rd"
      refine Bar.rI_ (wide_div m0 lb (by decide) (by decide)) ?_
      walk_at "rd"
      exact k _ _ _ (Int.emod_nonneg _ (by omega)) (Int.emod_lt_of_pos _ m0)
    · walk_at "rd"
      refine Bar.rStr_ lg ?_
      walk_at "rd"
      refine Bar.rLenStr_ (Nat.le_trans ls (by decide)) ?_
      walk_at "rd"
      refine Bar.forR _ rfl (fun _ σ H' => H' = upd H b (box c z (n + 1)) ∧ ∃ (t : Int) (x y u : Option V), σ = [some (.ref b), some (.int m), none, some (.int t), x, y, u]) (by omega) ⟨rfl, 0, none, none, none, rfl⟩ ?_ ?_
      · rintro i σ H' hi ⟨rfl, t, x, y, u, rfl⟩
        walk_at "rd"
        refine Bar.rI_ (sqW _ (by decide) (by decide)) ?_
        walk_at "rd"
        refine Bar.rI_ (sqW _ (by decide) (by decide)) ?_
        walk_at "rd"
        exact ⟨rfl, _, _, _, _, rfl⟩
      · rintro σ H' ⟨rfl, t, x, y, u, rfl⟩
        walk_at "rd"
        exact k _ _ _ (Int.emod_nonneg _ (by omega)) (Int.emod_lt_of_pos _ m0)
def spBox (K : PySem.W.Frag) : Sp := fun vs H Q _ => ∃ (a : Addr) (ns : List Int) (j : Nat), vs = [.ref a, .int (j : Int)] ∧ SqL K H a (ns.map V.int) ∧
  ∀ p H' c s, Same H H' → H p = none → H' p = some (box c s 0) → Q (.ref p) H'
theorem ok_box {f : Addr} {fd : FuncData} (F : Fun K "_law_box" "_law_box" s_law_box f fd) (T : Txt mg) : FnOk P w K mg base CX0 1 f fd P_law_box (spBox K) := by
  refine F.ok sc_law_box (fun vs H Q E h => ?_) (fun cdv A outer s H vs Q E hr h => ?_)
  · obtain ⟨a, ns, j, rfl, _⟩ := h
    rfl
  · obtain ⟨a, ns, j, rfl, ha, k⟩ := h
    refine ⟨_, (pss_cons (ps_set (i := 2) sc_law_box.nd rfl (Or.inl rfl) pe_int)
    (pss_cons (ps_if (pt_cmpR op_lt (pv 1) (pe_callB c_len rfl T.b_len PySem.boot_len (pa_cons (pv 0) pa_nil)) (nomark _)) (pss_one (ps_set (i := 2) sc_law_box.nd rfl (Or.inl rfl) (pe_callB c_abs rfl T.b_abs (by decide +kernel) (pa_cons (pe_ix ix_list (pv 0) (pv 1) (fun _ _ => rfl)) pa_nil)))) pss_nil)
    (pss_cons (ps_set (i := 3) sc_law_box.nd rfl (Or.inl rfl) (pe_op op_add (pe_op op_add (pe_op op_mul (pe_callB c_len rfl T.b_len PySem.boot_len (pa_cons (pv 0) pa_nil)) pe_int) (pe_op op_mul (pv 1) pe_int)) pe_int))
    (pss_cons (ps_for PassesOwn.never rfl  (pi_list (pe_slice sl_list (pv 0) po_none (po_some pe_int))) (pg_name (i := 4) sc_law_box.nd rfl (Or.inl rfl)) (pss_one (ps_set (i := 3) sc_law_box.nd rfl (Or.inl rfl) (pe_op op_mod (pe_callTy c_int rfl T.b_int (by decide +kernel) (pa_cons (pe_op op_add (pe_op op_mul (pv 3) pe_int) (pe_callB c_abs rfl T.b_abs (by decide +kernel) (pa_cons (pv 4) pa_nil))) pa_nil)) pe_int))))
    (pss_cons (ps_if (pt_cmpR op_ge (pv 2) (pe_op op_powW pe_int pe_int) (nomark _)) (pss_one (ps_ret (pe_lst (pa_cons (pv 2) (pa_cons (pv 3) (pa_cons pe_int pa_nil)))))) pss_nil)
    (pss_one (ps_ret (pe_lst (pa_cons pe_int (pa_cons (pe_op op_mod (pe_callTy c_int rfl T.b_int (by decide +kernel) (pa_cons (pe_op op_add (pv 3) (pe_op op_mul (pv 2) pe_int)) pa_nil)) pe_int) (pa_cons pe_int pa_nil))))))))))), ?_⟩
    refine Bar.rStart (σ := [some (.ref a), some (.int (j : Int)), none, none, none]) rfl ?_
    walk_at "rd"
    refine ite2 (fun h => ?_) (fun h => ?_)
    · have hj : j < ns.length := by
        have h1 := of_decide_eq_true h
        rw [List.length_map] at h1
        omega
      walk_at "rd"
      refine Bar.rIxL_ ha (Bar.at_map hj) ?_
      walk_at "rd"
      generalize (if ns[j] < 0 then -ns[j] else ns[j]) = cc
      refine Bar.rSlL_ ha fun q hq => ?_
      generalize (((ns.map V.int).length : Nat) : Int) * 97 + (j : Int) * 131 + 7 = salt
      refine Bar.forL (xs := cutV (ns.map V.int) none (some 16)) (fun _ σ H' => H' = upd H q (.lst (cutV (ns.map V.int) none (some 16))) ∧ ∃ (z : Int) (x : Option V), σ = [some (.ref a), some (.int (j : Int)), some (.int cc), some (.int z), x]) (SqL.of upd_same)
        ⟨rfl, salt, none, rfl⟩ (fun i σ H' _ ⟨e, _⟩ => by rw [e]; exact SqL.of upd_same) ?_ ?_
      · rintro i v σ H' hv ⟨rfl, z, x, rfl⟩
        obtain ⟨u, rfl⟩ := Bar.cut_int hv
        walk_at "rd"
        exact ⟨rfl, _, _, rfl⟩
      · rintro σ H' ⟨rfl, z, x, rfl⟩
        walk_at "rd"
        refine ite2 (fun h => ?_) (fun h => ?_)
        all_goals
          walk_at "rd"
          intro p hp
          walk_at "rd"
          refine k _ _ _ _ (fun b o e => Bar.lkNew hp (Bar.lkNew hq e)) (Bar.freeNew hp) upd_same
    · walk_at "rd"
      refine Bar.rSlL_ ha fun q hq => ?_
      generalize (((ns.map V.int).length : Nat) : Int) * 97 + (j : Int) * 131 + 7 = salt
      refine Bar.forL (xs := cutV (ns.map V.int) none (some 16)) (fun _ σ H' => H' = upd H q (.lst (cutV (ns.map V.int) none (some 16))) ∧ ∃ (z : Int) (x : Option V), σ = [some (.ref a), some (.int (j : Int)), some (.int 0), some (.int z), x]) (SqL.of upd_same)
        ⟨rfl, salt, none, rfl⟩ (fun i σ H' _ ⟨e, _⟩ => by rw [e]; exact SqL.of upd_same) ?_ ?_
      · rintro i v σ H' hv ⟨rfl, z, x, rfl⟩
        obtain ⟨u, rfl⟩ := Bar.cut_int hv
        walk_at "rd"
        exact ⟨rfl, _, _, rfl⟩
      · rintro σ H' ⟨rfl, z, x, rfl⟩
        walk_at "rd"
        refine ite2 (fun h => ?_) (fun h => ?_)
        all_goals
          walk_at "rd"
          intro p hp
          walk_at "rd"
          refine k _ _ _ _ (fun b o e => Bar.lkNew hp (Bar.lkNew hq e)) (Bar.freeNew hp) upd_same
def KpB (b : Addr) (s : Int) (H H' : Hp) : Prop := Kp b H H' ∧ ∃ c n, H' b = some (box c s n)
def spDrawA : Sp := fun vs H Q _ => ∃ (b : Addr) (c s n m : Int), vs = [.ref b, .int m] ∧ H b = some (box c s n) ∧ 0 < m ∧ m ≤ big ∧ ∀ r H', 0 ≤ r → r < m → KpB b s H H' → Q (.int r) H'
theorem drawA (F : Fn P w K mg base "_law_draw" P_law_draw [] 1 spDraw) : Fn P w K mg base "_law_draw" P_law_draw [] 1 spDrawA := by
  obtain ⟨f, fd, ds, h1, h2, h3, h4, ok⟩ := F.ex
  refine ⟨f, fd, ds, h1, h2, h3, h4, ok.imp fun vs H Q E h => ?_⟩
  obtain ⟨b, c, s, n, m, e, hb, m0, m1, k⟩ := h
  exact ⟨b, c, s, n, m, e, hb, m0, m1, fun r c' n' r0 r1 => k r _ r0 r1 ⟨Kp.upd, _, _, upd_same⟩⟩
end


/-! ### names -/
def spIsName : Sp := fun vs H Q _ => ∃ z : Str, vs = [.str z] ∧ z.length ≤ 1000 ∧ ∀ H', Same H H' → Q (.bl (nameB z)) H'
/-- __init__ of a sound, for an instance of any class of sounds -/
def spSoundX (K : PySem.W.Frag) (CBN : Addr) : Sp := fun vs H Q E => ∃ (p dx C : Addr) (z : Str) (v : V), vs = [.ref p, .str z, v] ∧ H p = some (.ins C dx []) ∧ Cls K C ∧ NoAttr K C "name" ∧ NoAttr K C "grid" ∧ z.length ≤ 100 ∧ (∀ c ∈ z.cps.toList, c < 16 ^ 8) ∧
  ((nameB z = true ∧ ∀ H', Kp p H H' → H' p = some (.ins C dx [("name", .str z), ("grid", v)]) → Q .non H') ∨
   (nameB z = false ∧ ∀ d H', H d = none → Same H H' → H' d = some (.xd [("name", .str z)]) → E (.ref CBN) (some d) H'))
theorem nil_iff {z : Str} : decide (z = ("" : Str)) = decide (z.cps.toList = []) := by
  refine decide_eq_decide.mpr ⟨fun e => by rw [e]; rfl, fun e => str_ext ?_⟩
  rw [e]
  rfl
section
variable {P : Program} {w : World} {K : PySem.W.Frag} {mg : Str → Option Value} {base : Heap}
theorem ok_isName {f : Addr} {fd : FuncData} {tk1 tk2 tk3 : Tok} (F : Fun K "is_name" "is_name" s_is_name f fd) (T : Txt mg) (g_int_MOST_CHARACTERS : mg "MOST_CHARACTERS" = some (.int 12 tk1)) (g_str_LETTERS : mg "LETTERS" = some (.str "abcdefghijklmnopqrstuvwxyz" tk2)) (g_str_CHARACTERS : mg "CHARACTERS" = some (.str "abcdefghijklmnopqrstuvwxyz0123456789" tk3)) :
    FnOk P w K mg base CX0 1 f fd P_is_name spIsName := by
  refine F.ok sc_is_name (fun vs H Q E h => ?_) (fun cdv A outer s H vs Q E hr h => ?_)
  · obtain ⟨z, rfl, _⟩ := h
    rfl
  · obtain ⟨z, rfl, lz, k⟩ := h
    have sz : z.length ≤ sizeLine := Nat.le_trans lz (by decide)
    refine ⟨_, (pss_cons (ps_if (PW.pt (pw_or (pt_cmpR op_eq (pv 0) pe_str (nomark _)) (pw_or1 (pt_cmpR op_gt (pe_callB c_lenStr rfl T.b_len PySem.boot_len (pa_cons (pv 0) pa_nil)) (pe_glob (v := .int 12) rfl g_int_MOST_CHARACTERS ⟨_, rfl⟩) (nomark _))))) (pss_one (ps_ret pe_bl)) pss_nil)
    (pss_one (ps_ret (pe_and (pe_cmpR o_inSg (pe_ix ix_str (pv 0) pe_int (fun _ _ => rfl)) (pe_glob (v := .str "abcdefghijklmnopqrstuvwxyz") rfl g_str_LETTERS ⟨_, rfl⟩) (by rfl)) (pe_one (pe_callB (cr_all rfl) rfl T.b_all (by decide +kernel) (pa_cons (pe_lc (own := [("character", 1)]) (g := gName 1) rfl sc_is_name.nd (pi_str (pv 0)) (blkOk_by (own := [("character", 1)]) (N := N_is_name) (sc := defScope s_is_name) (by decide +kernel)) (fun _ _ _ _ _ => pg_name (i := 1) sc_is_name.nd rfl (Or.inl rfl)) (fun _ _ _ _ _ => pts_nil) (fun _ _ _ _ _ => (pe_cmpR o_inSg (pv 1) (pe_glob (v := .str "abcdefghijklmnopqrstuvwxyz0123456789") rfl g_str_CHARACTERS ⟨_, rfl⟩) (by rfl)))) pa_nil))))))), ?_⟩
    refine Bar.rStart (σ := [some (.str z), none]) rfl ?_
    walk_at "rd"
    rw [dStr, nil_iff]
    refine ite2 (fun h => ?_) (fun h => ?_)
    · have e := of_decide_eq_true h
      have n0 : nameB z = false := by
        show nameL z.cps.toList = false
        rw [e]
        rfl
      rw [n0] at k
      walk_at "rd"
      exact k _ fun _ _ z => z
    · have e : z.cps.toList ≠ [] := fun q => h (decide_eq_true q)
      walk_at "rd"
      refine Bar.rLenStr_ sz ?_
      walk_at "rd"
      refine ite2 (fun h2 => ?_) (fun h2 => ?_)
      · have l12 := of_decide_eq_true h2
        have n0 : nameB z = false := by
          unfold nameB nameL
          have : decide (z.cps.toList.length ≤ 12) = false := decide_eq_false (by rw [len_cps] at l12; omega)
          rw [this, Bool.and_false, Bool.false_and, Bool.false_and]
        rw [n0] at k
        walk_at "rd"
        exact k _ fun _ _ z => z
      · have l12 : ¬ ((z.length : Nat) : Int) > 12 := fun q => h2 (decide_eq_true q)
        obtain ⟨c0, l, ez⟩ : ∃ c0 l, z.cps.toList = c0 :: l := List.exists_cons_of_ne_nil e
        have nm : nameB z = (decide (c0 ∈ letL) && z.cps.toList.all fun c => decide (c ∈ sgnL)) := by
          unfold nameB nameL
          have h1 : decide (1 ≤ z.cps.toList.length) = true := decide_eq_true (by rw [ez]; simp)
          have h3 : decide (z.cps.toList.length ≤ 12) = true := decide_eq_true (by rw [len_cps] at l12; omega)
          rw [h1, h3, ez]
          rfl
        walk_at "rd"
        refine rIxS_ sz (c := c0) (by rw [ez]; exact atI_nat (j := 0) rfl) ?_
        walk_at "rd"
        refine ite2 (fun h3 => ?_) (fun h3 => ?_)
        · have h4 : decide (c0 ∈ letL) = true := h3
          rw [h4, Bool.true_and] at nm
          walk_at "rd"
          refine lcS (τ := [some (.str z), none]) rfl fun D hD => ⟨fun i H' => Same H H' ∧ H' D = some (.lst (((z.cps.toList.take i).map fun c => decide (c ∈ sgnL)).map V.bl)), ⟨fun _ _ y => Bar.lkNew hD y, upd_same⟩, ?_, ?_⟩
          · rintro i c H' hc ⟨S, hd⟩
            have il := (List.getElem?_eq_some_iff.mp hc).1
            have ll : z.cps.toList.length ≤ 12 := by rw [len_cps] at l12; omega
            walk_at "rd"
            refine ⟨rfl, ?_⟩
            walk_at "rd"
            refine ⟨_, hd, Bar.szLt (by rw [List.length_map, List.length_map, List.length_take]; omega), fun p o y => ?_, ?_⟩
            · rw [upd_ne (ne_of_none y hD)]
              exact S _ _ y
            · rw [upd_same, List.take_add_one, hc, List.map_append, List.map_append]
              rfl
          · rintro H' ⟨S, hd⟩
            rw [List.take_length] at hd
            walk_at "rd"
            refine ⟨D, _, rfl, SqL.of hd, ?_⟩
            rw [List.all_map]
            rw [nm] at k
            walk_at "rd"
            exact k _ S
        · have h4 : decide (c0 ∈ letL) = false := Bool.eq_false_iff.mpr h3
          rw [h4, Bool.false_and] at nm
          rw [nm] at k
          walk_at "rd"
          exact k _ fun _ _ z => z
theorem ok_eName {f C CB : Addr} {fd : FuncData} (F : Fun K "__init__" "BadName.__init__" s_BadName___init__ f fd) (eb : EBase K mg "BarclipsError" CB) (O : OexC K C) (no : PySem.W.findIn K (.ref C) "name" = some none) : FnOk P w K mg base CX0 1 f fd P_BadName___init__ (spErr1 C "name" (fun v => ∃ z : Str, v = .str z ∧ z.length ≤ 100 ∧ ∀ c ∈ z.cps.toList, c < 16 ^ 8)) := by
  refine F.ok sc_BadName___init__ (fun vs H Q E h => ?_) (fun cdv A outer s H vs Q E hr h => ?_)
  · obtain ⟨a, v, rfl, _⟩ := h
    rfl
  · obtain ⟨a, v, rfl, ha, ⟨z, rfl, lz, cz⟩, k⟩ := h
    have lr : (reprText z).length ≤ 1002 := by
      have := PySem.StrLaws.reprText_len z cz
      omega
    refine ⟨_, (pss_cons (ps_expr (pe_baseInit eb rfl (pa_cons (pv 0) (pa_cons (pe_joined (PJ.cons pe_str (PJ.cons (pe_fmtR (pv 1)) PJ.nil))) pa_nil))))
    (pss_one (ps_ost (pv 0) (pv 1) rfl))), ?_⟩
    refine Bar.rStart (σ := [some (.ref a), some (.str z)]) rfl ?_
    walk_at "rd"
    refine ⟨"not a name: ", rfl, by decide +kernel, ?_⟩
    refine ⟨_, rfl, .inl ⟨z, rfl, Nat.le_trans lr (by decide), ?_⟩⟩
    refine ⟨reprText z, rfl, ?_, ?_⟩
    · rw [len_cps, cat_cps, List.length_append]
      have e1 : (reprText z).cps.toList.length ≤ 1002 := lr
      have e2 : ((Str.empty ++ ("not a name: " : Str)) : Str).cps.toList.length ≤ 100 := by decide +kernel
      exact Nat.le_trans (show _ ≤ 1102 by omega) (by decide)
    walk_at "rd"
    refine ⟨a, C, _, rfl, (by show 1 ≤ 1000; decide), O, ha, ?_⟩
    walk_at "rd"
    refine ⟨a, C, rfl, O, no, .inl ⟨ha, fun d hd ne => ?_⟩⟩
    walk_at "rd"
    exact k d hd ne
theorem ok_soundX {f CBN : Addr} {fd : FuncData} (F : Fun K "__init__" "Sound.__init__" s_Sound___init__ f fd) (fis_name : Fn P w K mg base "is_name" P_is_name [] 1 spIsName) (er_BadName : Err P w K mg base "BadName" CBN P_BadName___init__ 1 (spErr1 CBN "name" (fun v => ∃ z : Str, v = .str z ∧ z.length ≤ 100 ∧ ∀ c ∈ z.cps.toList, c < 16 ^ 8))) :
    FnOk P w K mg base (L2.CX P w) 3 f fd P_Sound___init__ (spSoundX K CBN) := by
  refine F.okX sc_Sound___init__ (fun vs H Q E h => ?_) (fun cdv A outer s H vs Q E hr h => ?_)
  · obtain ⟨p, dx, C, z, v, rfl, _⟩ := h
    rfl
  · obtain ⟨p, dx, C, z, v, rfl, hp, cl, n1, n2, lz, cz, h⟩ := h
    refine ⟨_, (pss_cons (ps_if (pt_not (pt_val (pe_fn fis_name (hr.mono (by omega)) rfl (pa_cons (pv 1) pa_nil)))) (pss_one (ps_raise rfl (takes_of rfl rfl rfl rfl) (pmk_err er_BadName (hr.mono (by omega)) rfl (pa_cons (pv 1) pa_nil)))) pss_nil)
    (pss_cons (ps_fld (pv 0) (pv 1) rfl)
    (pss_one (ps_fld (pv 0) (pv 2) rfl)))), ?_⟩
    refine Bar.rStart (σ := [some (.ref p), some (.str z), some v]) rfl ?_
    walk_at "rd"
    refine ⟨z, rfl, by omega, fun H1 S1 => ?_⟩
    rcases h with ⟨hn, k⟩ | ⟨hn, k⟩
    · rw [hn]
      have hp1 := S1 _ _ hp
      walk_at "rd"
      refine ⟨p, C, dx, [], rfl, hp1, cl, n1, by decide, ?_⟩
      walk_at "rd"
      refine ⟨p, C, dx, _, rfl, upd_same, cl, n2, (by show 1 < 1000; decide), ?_⟩
      walk_at "rd"
      exact k _ (((Kp.of_same S1).trans Kp.upd).trans Kp.upd) upd_same
    · rw [hn]
      walk_at "rd"
      refine rErr1 ⟨z, rfl, lz, cz⟩ fun d H' hd S e => k d H' ?_ (fun _ _ y => S _ _ (S1 _ _ y)) e
      cases q : H d with
      | none => rfl
      | some o =>
        rw [S1 _ _ q] at hd
        cases hd
end

end Lw
namespace Lw
open PySem L2 Bar

/-! ### clips -/
def oV : Option Int → V
  | some g => .int g
  | none => .non
section
variable {l i : Int} {H : Hp} {Q : VK} {f : Int → Int → V}
instance : Bar.Rd (rNotNone (oV (some l)) .non H Q) (Q (.bl true) H) := ⟨rNoN_i⟩
instance : Bar.Rd (rNotNone (oV none) .non H Q) (Q (.bl false) H) := ⟨rNoN_n⟩
instance : Bar.Rd (rIsNone (oV (some l)) .non H Q) (Q (.bl false) H) := ⟨rIsN_i⟩
instance : Bar.Rd (rIsNone (oV none) .non H Q) (Q (.bl true) H) := ⟨rIsN_n⟩
instance : Bar.Rd (rI0 f (.int i) (oV (some l)) H Q) (Q (f i l) H) := ⟨rI0_⟩
instance : Bar.Rd (rI0 f (oV (some l)) (.int i) H Q) (Q (f l i) H) := ⟨rI0_⟩
end
/-- the empty tuple of the text -/
def KEmp (K : PySem.W.Frag) (t : Addr) : Prop := ∃ (o : Obj) (its : Array Value) (n : Nat), K.lookup t = some o ∧ o.cls = .type "tuple" ∧ o.data = .seq its n ∧ its.size = 0
/-- ints in a list, a tuple, or none in the empty tuple of the text -/
def TupAt (K : PySem.W.Frag) (H : Hp) (t : Addr) (ns : List Int) : Prop := H t = some (.tup (ns.map V.int)) ∨ (ns = [] ∧ KEmp K t)
def IntsAt (K : PySem.W.Frag) (H : Hp) (t : Addr) (ns : List Int) : Prop := H t = some (.lst (ns.map V.int)) ∨ TupAt K H t ns
theorem KEmp.sq {K : PySem.W.Frag} {t : Addr} {H : Hp} (h : KEmp K t) : SqT K H t [] := by
  obtain ⟨o, its, n, h1, h2, h3, h4⟩ := h
  refine .inr ⟨o, its, n, h1, h2, h3, by rw [h4]; decide, ?_⟩
  have : its.toList = [] := List.length_eq_zero_iff.mp h4
  rw [this]
  exact .nil
theorem TupAt.sq {K : PySem.W.Frag} {H : Hp} {t : Addr} {ns : List Int} (h : TupAt K H t ns) : SqT K H t (ns.map V.int) := by
  rcases h with h | ⟨rfl, h⟩
  · exact SqT.of h
  · exact h.sq
theorem TupAt.same {K : PySem.W.Frag} {H H' : Hp} {t : Addr} {ns : List Int} (S : Same H H') (h : TupAt K H t ns) : TupAt K H' t ns := h.imp (S _ _) id
theorem TupAt.kp {K : PySem.W.Frag} {H H' : Hp} {t b : Addr} {ns : List Int} {o : HO} (k : Kp b H H') (hb : H b = some o) (n : ∀ xs, o ≠ .tup xs) (h : TupAt K H t ns) : TupAt K H' t ns := h.imp (fun e => k _ _ (ne_of e hb fun z => n _ z.symm) e) id
theorem IntsAt.kp {K : PySem.W.Frag} {H H' : Hp} {t b C dx : Addr} {fs : List (Str × V)} {ns : List Int} (k : Kp b H H') (hb : H b = some (.ins C dx fs)) (h : IntsAt K H t ns) : IntsAt K H' t ns := by
  rcases h with h | h
  · exact .inl (k _ _ (ne_of h hb (by intro z; cases z)) h)
  · exact .inr (h.kp k hb fun _ z => by cases z)
theorem IntsAt.same {K : PySem.W.Frag} {H H' : Hp} {t : Addr} {ns : List Int} (S : Same H H') (h : IntsAt K H t ns) : IntsAt K H' t ns := h.imp (S _ _) (TupAt.same S)
def badG (b : Int) (o : Option Int) (g : Int) : Bool := decide (g ≤ b) || (match o with | none => false | some l => decide (g ≥ l))
/-- the first guard that is refused -/
def firstBad (o : Option Int) : Int → List Int → Option Int
  | _, [] => none
  | b, g :: r => if badG b o g = true then some g else firstBad o g r
def spGuardsX (K : PySem.W.Frag) (CN : Addr) : Sp := fun vs H Q E => ∃ (t : Addr) (o : Option Int) (ns : List Int), vs = [.ref t, oV o] ∧ IntsAt K H t ns ∧
  ((firstBad o (-1) ns = none ∧ Q .non H) ∨ ∃ g, firstBad o (-1) ns = some g ∧ ∀ d H', H d = none → Same H H' → H' d = some (.xd [("value", .int g)]) → E (.ref CN) (some d) H')
inductive Flt where
  | name (z : Str)
  | value (v : Int)
/-- what of the parts is refused first -/
def fault (z : Str) (o : Option Int) (r : Int) (ns : List Int) : Option Flt :=
  if nameB z = false then some (.name z) else
  match o with
  | some l => if l < 1 then some (.value l) else if r < 1 ∨ r > 4 then some (.value r) else (firstBad (some l) (-1) ns).map .value
  | none => if r < 1 ∨ r > 1 then some (.value r) else (firstBad none (-1) ns).map .value
def cf (z : Str) (g : Addr) (o : Option Int) (r : Int) (t : Addr) : List (Str × V) := [("name", .str z), ("grid", .ref g), ("length", oV o), ("rounds", .int r), ("guards", .ref t)]
def spClipX (K : PySem.W.Frag) (C CBN CN : Addr) : Sp := fun vs H Q E => ∃ (p dx : Addr) (z : Str) (g : Addr) (o : Option Int) (r : Int) (t : Addr) (ns : List Int), vs = [.ref p, .str z, .ref g, oV o, .int r, .ref t] ∧ H p = some (.ins C dx []) ∧ z.length ≤ 100 ∧ (∀ c ∈ z.cps.toList, c < 16 ^ 8) ∧ IntsAt K H t ns ∧
  ((fault z o r ns = none ∧ ∀ t' H', Kp p H H' → H' p = some (.ins C dx (cf z g o r t')) → TupAt K H' t' ns → Q .non H') ∨
   (∃ y, fault z o r ns = some (.name y) ∧ ∀ d H', H d = none → Kp p H H' → H' d = some (.xd [("name", .str y)]) → E (.ref CBN) (some d) H') ∨
   (∃ v, fault z o r ns = some (.value v) ∧ ∀ d H', H d = none → Kp p H H' → H' d = some (.xd [("value", .int v)]) → E (.ref CN) (some d) H'))
structure CTxt (K : PySem.W.Frag) (C : Addr) : Prop where
  cl : Cls K C
  n1 : NoAttr K C "name"
  n2 : NoAttr K C "grid"
  n3 : NoAttr K C "length"
  n4 : NoAttr K C "rounds"
  n5 : NoAttr K C "guards"
theorem fault_some {z : Str} {l r : Int} {ns : List Int} (h : nameB z = true) : fault z (some l) r ns = if l < 1 then some (.value l) else if r < 1 ∨ r > 4 then some (.value r) else (firstBad (some l) (-1) ns).map .value := by
  unfold fault
  rw [h, if_neg (by decide)]
theorem fault_none {z : Str} {r : Int} {ns : List Int} (h : nameB z = true) : fault z none r ns = if r < 1 ∨ r > 1 then some (.value r) else (firstBad none (-1) ns).map .value := by
  unfold fault
  rw [h, if_neg (by decide)]
theorem fault_name {z : Str} {o : Option Int} {r : Int} {ns : List Int} (h : nameB z = false) : fault z o r ns = some (.name z) := if_pos h
section
variable {P : Program} {w : World} {K : PySem.W.Frag} {mg : Str → Option Value} {base : Heap} {C : Addr}
theorem ok_eBadNumber {f C CB : Addr} {fd : FuncData} (F : Fun K "__init__" "BadNumber.__init__" s_BadNumber___init__ f fd) (eb : EBase K mg "BarclipsError" CB) (O : OexC K C) (no : PySem.W.findIn K (.ref C) "value" = some none) : FnOk P w K mg base CX0 1 f fd P_BadNumber___init__ (spErr1 C "value" (fun _ => True)) := by
  refine F.ok sc_BadNumber___init__ (fun vs H Q E h => ?_) (fun cdv A outer s H vs Q E hr h => ?_)
  · obtain ⟨a, v, rfl, _⟩ := h
    rfl
  · obtain ⟨a, v, rfl, ha, _, k⟩ := h
    refine ⟨_, (pss_cons (ps_expr (pe_baseInit eb rfl (pa_cons (pv 0) (pa_cons pe_str pa_nil))))
    (pss_one (ps_ost (pv 0) (pv 1) rfl))), ?_⟩
    refine Bar.rStart (σ := [some (.ref a), some v]) rfl ?_
    walk_at "rd"
    refine ⟨a, C, _, rfl, by decide, O, ha, ?_⟩
    walk_at "rd"
    refine ⟨a, C, rfl, O, no, .inl ⟨ha, fun d hd ne => ?_⟩⟩
    walk_at "rd"
    exact k d hd ne

theorem guards_turn {CN t : Addr} {o : Option Int} {H : Hp} {b g : Int} {r : List Int} : True := trivial
theorem ok_guardsX {f CN : Addr} {fd : FuncData} (F : Fun K "check_guards" "check_guards" s_check_guards f fd) (T : Txt mg) (er_BadNumber : Err P w K mg base "BadNumber" CN P_BadNumber___init__ 1 (spErr1 CN "value" (fun _ => True))) : FnOk P w K mg base (L2.CX P w) 3 f fd P_check_guards (spGuardsX K CN) := by
  refine F.okX sc_check_guards (fun vs H Q E h => ?_) (fun cdv A outer s H vs Q E hr h => ?_)
  · obtain ⟨t, o, ns, rfl, _⟩ := h
    rfl
  · obtain ⟨t, o, ns, rfl, ht, h⟩ := h
    rcases ht with ht | ht
    · refine ⟨_, (pss_cons (ps_set (i := 2) sc_check_guards.nd rfl (Or.inl rfl) (pe_un un_neg pe_int))
    (pss_one (ps_for PassesOwn.leaving rfl  (pi_list (pv 0)) (pg_name (i := 3) sc_check_guards.nd rfl (Or.inl rfl)) (pss_cons (ps_if (PW.pt (pw_or (pt_cmpR op_le (pv 3) (pv 2) (nomark _)) (pw_or1 (PW.pt (pw_and (pt_cmpR o_notN (pv 1) pe_non (nomark _)) (pw_and1 (pt_cmpR op_ge (pv 3) (pv 1) (nomark _)))))))) (pss_one (ps_raise rfl (takes_of rfl rfl rfl rfl) (pmk_err er_BadNumber (hr.mono (by omega)) rfl (pa_cons (pv 3) pa_nil)))) pss_nil)
    (pss_one (ps_set (i := 2) sc_check_guards.nd rfl (Or.inl rfl) (pv 3))))))), ?_⟩
      refine Bar.rStart (σ := [some (.ref t), some (oV o), none, none]) rfl ?_
      walk_at "rd"
      refine Bar.forL (xs := ns.map V.int) (fun i σ H' => H' = H ∧ ∃ (b : Int) (x : Option V), firstBad o b (ns.drop i) = firstBad o (-1) ns ∧ σ = [some (.ref t), some (oV o), some (.int b), x]) (SqL.of ht) ⟨rfl, -1, _, rfl, rfl⟩ (fun i σ H2 _ ⟨e, _⟩ => by rw [e]; exact SqL.of ht) ?_ ?_
      · rintro i v σ H' hv ⟨rfl, b, x, fb, rfl⟩
        rw [List.getElem?_map] at hv
        obtain ⟨g, eg, rfl⟩ := Option.map_eq_some_iff.mp hv
        have il := (List.getElem?_eq_some_iff.mp eg).1
        have ed : ns.drop i = g :: ns.drop (i + 1) := by
          rw [List.drop_eq_getElem_cons il]
          congr 1
          exact (List.getElem?_eq_some_iff.mp eg).2
        rw [ed] at fb
        have bad : badG b o g = true → ∀ {R : Prop}, ((∀ d H2, H' d = none → Same H' H2 → H2 d = some (.xd [("value", .int g)]) → E (.ref CN) (some d) H2) → R) → R := fun hb R go => by
          have e1 : firstBad o b (g :: ns.drop (i + 1)) = some g := if_pos hb
          rw [e1] at fb
          rcases h with ⟨e, _⟩ | ⟨g', e, k⟩
          · rw [← fb] at e
            cases e
          · rw [← fb] at e
            cases e
            exact go k
        have good : ¬ badG b o g = true → firstBad o g (ns.drop (i + 1)) = firstBad o (-1) ns := fun hb => by
          rw [← fb]
          exact (if_neg hb).symm
        walk_at "rd"
        refine ite2 (fun h1 => ?_) (fun h1 => ?_)
        · walk_at "rd"
          exact bad (by unfold badG; rw [h1]; rfl) fun k => rErr1 trivial k
        · have h1' : decide (g ≤ b) = false := Bool.eq_false_iff.mpr h1
          cases o with
          | none =>
            walk_at "rd"
            exact ⟨rfl, g, _, good (by unfold badG; rw [h1']; simp), rfl⟩
          | some l =>
            walk_at "rd"
            refine ite2 (fun h2 => ?_) (fun h2 => ?_)
            · walk_at "rd"
              exact bad (by unfold badG; rw [h1']; exact h2) fun k => rErr1 trivial k
            · walk_at "rd"
              exact ⟨rfl, g, _, good (by unfold badG; rw [h1']; exact h2), rfl⟩
      · rintro σ H' ⟨rfl, b, x, fb, rfl⟩
        rw [List.length_map, List.drop_length] at fb
        rcases h with ⟨_, k⟩ | ⟨g, e, _⟩
        · walk_at "rd"
          exact k
        · rw [← fb] at e
          cases e

    · have hs := ht.sq
      refine ⟨_, (pss_cons (ps_set (i := 2) sc_check_guards.nd rfl (Or.inl rfl) (pe_un un_neg pe_int))
    (pss_one (ps_for PassesOwn.leaving rfl  (pi_tup (pv 0)) (pg_name (i := 3) sc_check_guards.nd rfl (Or.inl rfl)) (pss_cons (ps_if (PW.pt (pw_or (pt_cmpR op_le (pv 3) (pv 2) (nomark _)) (pw_or1 (PW.pt (pw_and (pt_cmpR o_notN (pv 1) pe_non (nomark _)) (pw_and1 (pt_cmpR op_ge (pv 3) (pv 1) (nomark _)))))))) (pss_one (ps_raise rfl (takes_of rfl rfl rfl rfl) (pmk_err er_BadNumber (hr.mono (by omega)) rfl (pa_cons (pv 3) pa_nil)))) pss_nil)
    (pss_one (ps_set (i := 2) sc_check_guards.nd rfl (Or.inl rfl) (pv 3))))))), ?_⟩
      refine Bar.rStart (σ := [some (.ref t), some (oV o), none, none]) rfl ?_
      walk_at "rd"
      refine Bar.forT (xs := ns.map V.int) (fun i σ H' => H' = H ∧ ∃ (b : Int) (x : Option V), firstBad o b (ns.drop i) = firstBad o (-1) ns ∧ σ = [some (.ref t), some (oV o), some (.int b), x]) hs ⟨rfl, -1, _, rfl, rfl⟩ (fun i σ H2 _ ⟨e, _⟩ => by rw [e]; exact hs) ?_ ?_
      · rintro i v σ H' hv ⟨rfl, b, x, fb, rfl⟩
        rw [List.getElem?_map] at hv
        obtain ⟨g, eg, rfl⟩ := Option.map_eq_some_iff.mp hv
        have il := (List.getElem?_eq_some_iff.mp eg).1
        have ed : ns.drop i = g :: ns.drop (i + 1) := by
          rw [List.drop_eq_getElem_cons il]
          congr 1
          exact (List.getElem?_eq_some_iff.mp eg).2
        rw [ed] at fb
        have bad : badG b o g = true → ∀ {R : Prop}, ((∀ d H2, H' d = none → Same H' H2 → H2 d = some (.xd [("value", .int g)]) → E (.ref CN) (some d) H2) → R) → R := fun hb R go => by
          have e1 : firstBad o b (g :: ns.drop (i + 1)) = some g := if_pos hb
          rw [e1] at fb
          rcases h with ⟨e, _⟩ | ⟨g', e, k⟩
          · rw [← fb] at e
            cases e
          · rw [← fb] at e
            cases e
            exact go k
        have good : ¬ badG b o g = true → firstBad o g (ns.drop (i + 1)) = firstBad o (-1) ns := fun hb => by
          rw [← fb]
          exact (if_neg hb).symm
        walk_at "rd"
        refine ite2 (fun h1 => ?_) (fun h1 => ?_)
        · walk_at "rd"
          exact bad (by unfold badG; rw [h1]; rfl) fun k => rErr1 trivial k
        · have h1' : decide (g ≤ b) = false := Bool.eq_false_iff.mpr h1
          cases o with
          | none =>
            walk_at "rd"
            exact ⟨rfl, g, _, good (by unfold badG; rw [h1']; simp), rfl⟩
          | some l =>
            walk_at "rd"
            refine ite2 (fun h2 => ?_) (fun h2 => ?_)
            · walk_at "rd"
              exact bad (by unfold badG; rw [h1']; exact h2) fun k => rErr1 trivial k
            · walk_at "rd"
              exact ⟨rfl, g, _, good (by unfold badG; rw [h1']; exact h2), rfl⟩
      · rintro σ H' ⟨rfl, b, x, fb, rfl⟩
        rw [List.length_map, List.drop_length] at fb
        rcases h with ⟨_, k⟩ | ⟨g, e, _⟩
        · walk_at "rd"
          exact k
        · rw [← fb] at e
          cases e

theorem ok_clipX {C_Clip : Addr} {kws : List (Str × V)} {f cda cc CBN CN : Addr} {fd : FuncData} {mc : Value} {tkv : Tok} (F : FunC K "__init__" "Clip.__init__" s_Clip___init__ kws f cda cc fd) (T : Txt mg) (G : CTxt K C_Clip) (g_Clip : mg "Clip" = some (.ref C_Clip)) (cr : ClX.CRead K C_Clip mc) (cv : ClX.CVal K C_Clip mc "ROUNDS" (.int 4) (.int 4 tkv))
    (su___init__ : SupFn P w K mg base (L2.CX P w) f cda cc C_Clip "self" "__init__" P_Sound___init__ [] 3 (spSoundX K CBN)) (fxcheck_guards : FnX P w K mg base "check_guards" P_check_guards [] 3 (spGuardsX K CN)) (er_BadNumber : Err P w K mg base "BadNumber" CN P_BadNumber___init__ 1 (spErr1 CN "value" (fun _ => True))) :
    FnOk P w K mg base (L2.CX P w) 5 f fd P_Clip___init__ (spClipX K C_Clip CBN CN) := by
  refine F.ok sc_Clip___init__ (fun vs H Q E h => ?_) (fun A outer s H vs Q E D hr h => ?_)
  · obtain ⟨p, dx, z, g, o, r, t, ns, rfl, _⟩ := h
    rfl
  · obtain ⟨p, dx, z, g, o, r, t, ns, rfl, hp, lz, cz, ht, h⟩ := h
    refine ⟨_, (pssa_cons (psa_expr (pea_supX su___init__ (takes_of rfl rfl rfl rfl) (hr.mono (by omega)) rfl rfl rfl rfl rfl rfl rfl (pa_cons (pv 1) (pa_cons (pv 2) pa_nil))))
    (pss_cons (ps_if (PW.pt (pw_and (pt_cmpR o_notN (pv 3) pe_non (nomark _)) (pw_and1 (pt_cmpR op_lt (pv 3) pe_int (nomark _))))) (pss_one (ps_raise rfl (takes_of rfl rfl rfl rfl) (pmk_err er_BadNumber (hr.mono (by omega)) rfl (pa_cons (pv 3) pa_nil)))) pss_nil)
    (pss_cons (ps_set (i := 7) sc_Clip___init__.nd rfl (Or.inl rfl) (pe_ifExp (pt_cmpR o_isN (pv 3) pe_non (nomark _)) pe_int (ClX.pe_cval (pe_glob (v := .ref C_Clip) rfl g_Clip rfl))))
    (pss_cons (ps_if (PW.pt (pw_or (pt_cmpR op_lt (pv 4) pe_int (nomark _)) (pw_or1 (pt_cmpR op_gt (pv 4) (pv 7) (nomark _))))) (pss_one (ps_raise rfl (takes_of rfl rfl rfl rfl) (pmk_err er_BadNumber (hr.mono (by omega)) rfl (pa_cons (pv 4) pa_nil)))) pss_nil)
    (pss_cons (ps_expr (pe_fnX fxcheck_guards (takes_of rfl rfl rfl rfl) (hr.mono (by omega)) rfl (pa_cons (pv 5) (pa_cons (pv 3) pa_nil))))
    (pss_cons (ps_fld (pv 0) (pv 3) rfl)
    (pss_cons (ps_fld (pv 0) (pv 4) rfl)
    (pss_one (ps_fld (pv 0) (pe_callTy call_tuple_of rfl T.b_tuple (by decide +kernel) (pa_cons (pv 5) pa_nil)) rfl))))))))), ?_⟩
    refine rStartF (σ := [some (.ref p), some (.str z), some (.ref g), some (oV o), some (.int r), some (.ref t), some (.ref D), none]) rfl ?_
    walk_at "rd"
    refine ⟨dx, [], hp, ?_⟩
    walk_at "rd"
    refine ⟨p, dx, C_Clip, z, .ref g, rfl, hp, G.cl, G.n1, G.n2, lz, cz, ?_⟩
    cases hn : nameB z with
    | false =>
      refine .inr ⟨rfl, fun d H' hd S e => ?_⟩
      rcases h with ⟨q, _⟩ | ⟨y, q, k⟩ | ⟨v, q, _⟩
      · rw [fault_name hn] at q
        cases q
      · rw [fault_name hn] at q
        cases q
        exact k d H' hd (Kp.of_same S) e
      · rw [fault_name hn] at q
        cases q
    | true =>
      refine .inl ⟨rfl, fun H1 K1 e1 => ?_⟩
      have ht1 := ht.kp K1 hp
      have out : ∀ {x : Int} {R : Prop}, fault z o r ns = some (.value x) → ((∀ d H2, H1 d = none → Same H1 H2 → H2 d = some (.xd [("value", .int x)]) → E (.ref CN) (some d) H2) → R) → R := fun {x R} q go => by
        rcases h with ⟨q2, _⟩ | ⟨y, q2, _⟩ | ⟨v, q2, k⟩
        · rw [q] at q2
          cases q2
        · rw [q] at q2
          cases q2
        · rw [q] at q2
          cases q2
          refine go fun d H2 hd S e => k d H2 (Kp.free K1 hp e1 hd) (K1.trans (Kp.of_same S)) e
      have fine : (fault z o r ns = none) → ∀ t' H', Kp p H H' → H' p = some (.ins C_Clip dx (cf z g o r t')) → TupAt K H' t' ns → Q .non H' := fun q => by
        rcases h with ⟨_, k⟩ | ⟨y, q2, _⟩ | ⟨v, q2, _⟩
        · exact k
        · rw [q] at q2
          cases q2
        · rw [q] at q2
          cases q2
      have last : ∀ {m : Int}, (fault z o r ns = if r < 1 ∨ r > m then some (.value r) else (firstBad o (-1) ns).map .value) → True := fun _ => trivial
      cases o with
      | none =>
        have fz := fault_none (z := z) (r := r) (ns := ns) hn
        walk_at "rd"
        refine ite2 (fun h1 => ?_) (fun h1 => ?_)
        · have q : r < 1 := of_decide_eq_true h1
          rw [if_pos (.inl q)] at fz
          walk_at "rd"
          exact out fz fun k => rErr1 trivial k
        · have q1 : ¬ r < 1 := fun q => h1 (decide_eq_true q)
          walk_at "rd"
          refine ite2 (fun h2 => ?_) (fun h2 => ?_)
          · rw [if_pos (.inr (of_decide_eq_true h2))] at fz
            walk_at "rd"
            exact out fz fun k => rErr1 trivial k
          · rw [if_neg fun q => q.elim q1 fun q => h2 (decide_eq_true q)] at fz
            walk_at "rd"
            refine ⟨t, _, ns, rfl, ht1, ?_⟩
            cases fb : firstBad _ (-1) ns with
            | some b =>
              rw [fb] at fz
              exact .inr ⟨b, rfl, fun d H' hd S e => out fz fun k => k d H' hd S e⟩
            | none =>
              rw [fb] at fz
              refine .inl ⟨rfl, ?_⟩
              have k := fine fz
              walk_at "rd"
              refine ⟨p, C_Clip, dx, _, rfl, e1, G.cl, G.n3, (by show 2 < 1000; decide), ?_⟩
              walk_at "rd"
              refine ⟨p, C_Clip, dx, _, rfl, upd_same, G.cl, G.n4, (by show 3 < 1000; decide), ?_⟩
              walk_at "rd"
              rcases ht1 with ht1 | ht1
              · have tp : t ≠ p := ne_of ht1 e1 (by intro z; cases z)
                refine ⟨t, _, rfl, .inl ⟨SqL.of (Bar.lkNe tp (Bar.lkNe tp ht1)), fun u hu => ?_⟩⟩
                walk_at "rd"
                refine ⟨p, C_Clip, dx, _, rfl, Bar.lkNew hu upd_same, G.cl, G.n5, (by show 4 < 1000; decide), ?_⟩
                walk_at "rd"
                have nu : u ≠ p := fun z => by
                  rw [z, upd_same] at hu
                  cases hu
                exact k u _ ((((K1.trans Kp.upd).trans Kp.upd).trans (Kp.new hu)).trans Kp.upd) upd_same (.inl (Bar.lkNe nu upd_same))
              · have tp : H1 t = some (.tup (ns.map V.int)) → t ≠ p := fun q => ne_of q e1 (by intro z; cases z)
                refine ⟨t, _, rfl, .inr ⟨TupAt.sq (ns := ns) (ht1.imp (fun q => Bar.lkNe (tp q) (Bar.lkNe (tp q) q)) id), ?_⟩⟩
                walk_at "rd"
                refine ⟨p, C_Clip, dx, _, rfl, upd_same, G.cl, G.n5, (by show 4 < 1000; decide), ?_⟩
                walk_at "rd"
                exact k t _ (((K1.trans Kp.upd).trans Kp.upd).trans Kp.upd) upd_same (ht1.imp (fun q => Bar.lkNe (tp q) (Bar.lkNe (tp q) (Bar.lkNe (tp q) q))) id)
      | some l =>
        have fz0 := fault_some (z := z) (l := l) (r := r) (ns := ns) hn
        walk_at "rd"
        refine ite2 (fun hl => ?_) (fun hl => ?_)
        · rw [if_pos (of_decide_eq_true hl)] at fz0
          walk_at "rd"
          exact out fz0 fun k => rErr1 trivial k
        · have fz := fz0.trans (if_neg fun q => hl (decide_eq_true q))
          walk_at "rd"
          refine ⟨C_Clip, mc, _, _, rfl, cr, cv, ?_⟩
          walk_at "rd"
          refine ite2 (fun h1 => ?_) (fun h1 => ?_)
          · have q : r < 1 := of_decide_eq_true h1
            rw [if_pos (.inl q)] at fz
            walk_at "rd"
            exact out fz fun k => rErr1 trivial k
          · have q1 : ¬ r < 1 := fun q => h1 (decide_eq_true q)
            walk_at "rd"
            refine ite2 (fun h2 => ?_) (fun h2 => ?_)
            · rw [if_pos (.inr (of_decide_eq_true h2))] at fz
              walk_at "rd"
              exact out fz fun k => rErr1 trivial k
            · rw [if_neg fun q => q.elim q1 fun q => h2 (decide_eq_true q)] at fz
              walk_at "rd"
              refine ⟨t, _, ns, rfl, ht1, ?_⟩
              cases fb : firstBad _ (-1) ns with
              | some b =>
                rw [fb] at fz
                exact .inr ⟨b, rfl, fun d H' hd S e => out fz fun k => k d H' hd S e⟩
              | none =>
                rw [fb] at fz
                refine .inl ⟨rfl, ?_⟩
                have k := fine fz
                walk_at "rd"
                refine ⟨p, C_Clip, dx, _, rfl, e1, G.cl, G.n3, (by show 2 < 1000; decide), ?_⟩
                walk_at "rd"
                refine ⟨p, C_Clip, dx, _, rfl, upd_same, G.cl, G.n4, (by show 3 < 1000; decide), ?_⟩
                walk_at "rd"
                rcases ht1 with ht1 | ht1
                · have tp : t ≠ p := ne_of ht1 e1 (by intro z; cases z)
                  refine ⟨t, _, rfl, .inl ⟨SqL.of (Bar.lkNe tp (Bar.lkNe tp ht1)), fun u hu => ?_⟩⟩
                  walk_at "rd"
                  refine ⟨p, C_Clip, dx, _, rfl, Bar.lkNew hu upd_same, G.cl, G.n5, (by show 4 < 1000; decide), ?_⟩
                  walk_at "rd"
                  have nu : u ≠ p := fun z => by
                    rw [z, upd_same] at hu
                    cases hu
                  exact k u _ ((((K1.trans Kp.upd).trans Kp.upd).trans (Kp.new hu)).trans Kp.upd) upd_same (.inl (Bar.lkNe nu upd_same))
                · have tp : H1 t = some (.tup (ns.map V.int)) → t ≠ p := fun q => ne_of q e1 (by intro z; cases z)
                  refine ⟨t, _, rfl, .inr ⟨TupAt.sq (ns := ns) (ht1.imp (fun q => Bar.lkNe (tp q) (Bar.lkNe (tp q) q)) id), ?_⟩⟩
                  walk_at "rd"
                  refine ⟨p, C_Clip, dx, _, rfl, upd_same, G.cl, G.n5, (by show 4 < 1000; decide), ?_⟩
                  walk_at "rd"
                  exact k t _ (((K1.trans Kp.upd).trans Kp.upd).trans Kp.upd) upd_same (ht1.imp (fun q => Bar.lkNe (tp q) (Bar.lkNe (tp q) (Bar.lkNe (tp q) q))) id)
end


section
variable {P : Program} {w : World} {K : PySem.W.Frag} {mg : Str → Option Value} {base : Heap} {C : Addr}
def spSpan (C : Addr) : Sp := fun vs H Q _ => ∃ (p dx : Addr) (z : Str) (g : Addr) (o : Option Int) (r : Int) (t : Addr), vs = [.ref p] ∧ H p = some (.ins C dx (cf z g o r t)) ∧ (∀ l, o = some l → CMulW r l) ∧ Q (match o with | none => .int 0 | some l => .int (r * l)) H
theorem ok_span {f : Addr} {fd : FuncData} (F : Fun K "span" "Clip.span" s_Clip_span f fd) (G : CTxt K C) : FnOk P w K mg base CX0 1 f fd P_Clip_span (spSpan C) := by
  refine F.ok sc_Clip_span (fun vs H Q E h => ?_) (fun cdv A outer s H vs Q E hr h => ?_)
  · obtain ⟨p, dx, z, g, o, r, t, rfl, _⟩ := h
    rfl
  · obtain ⟨p, dx, z, g, o, r, t, rfl, hp, hm, k⟩ := h
    refine ⟨_, (pss_one (ps_ret (pe_ifExp (pt_cmpR o_isN (pe_fld (pv 0) rfl) pe_non (nomark _)) pe_int (pe_op op_mulW (pe_fld (pv 0) rfl) (pe_fld (pv 0) rfl))))), ?_⟩
    refine Bar.rStart (σ := [some (.ref p)]) rfl ?_
    walk_at "rd"
    refine ⟨p, C, dx, _, _, rfl, hp, G.cl, G.n3, rfl, ?_⟩
    cases o with
    | none =>
      walk_at "rd"
      exact k
    | some l =>
      have m := hm l rfl
      walk_at "rd"
      refine ⟨p, C, dx, _, _, rfl, hp, G.cl, G.n4, rfl, ?_⟩
      walk_at "rd"
      refine ⟨p, C, dx, _, _, rfl, hp, G.cl, G.n3, rfl, ?_⟩
      exact rI_ m k
end

end Lw
namespace Lw
open PySem L2 Bar

/-! ### names that occur twice -/
/-- the first of the names that is seen already or stands further ahead -/
def twi : List Str → List Str → Option Str
  | _, [] => none
  | seen, z :: r => if z ∈ seen then some z else twi (seen ++ [z]) r
def sV : Option Str → V
  | some z => .str z
  | none => .non
/-- texts in a tuple, or none in the empty tuple of the text -/
def TupS (K : PySem.W.Frag) (H : Hp) (t : Addr) (us : List Str) : Prop := H t = some (.tup (us.map V.str)) ∨ (us = [] ∧ KEmp K t)
def StrsAt (K : PySem.W.Frag) (H : Hp) (t : Addr) (us : List Str) : Prop := H t = some (.lst (us.map V.str)) ∨ TupS K H t us
theorem TupS.sq {K : PySem.W.Frag} {H : Hp} {t : Addr} {us : List Str} (h : TupS K H t us) : SqT K H t (us.map V.str) := by
  rcases h with h | ⟨rfl, h⟩
  · exact SqT.of h
  · exact h.sq
theorem TupS.same {K : PySem.W.Frag} {H H' : Hp} {t : Addr} {us : List Str} (S : Same H H') (h : TupS K H t us) : TupS K H' t us := h.imp (S _ _) id
theorem TupS.kp {K : PySem.W.Frag} {H H' : Hp} {t b : Addr} {us : List Str} {o : HO} (k : Kp b H H') (hb : H b = some o) (n : ∀ xs, o ≠ .tup xs) (h : TupS K H t us) : TupS K H' t us := h.imp (fun e => k _ _ (ne_of e hb fun z => n _ z.symm) e) id
theorem StrsAt.same {K : PySem.W.Frag} {H H' : Hp} {t : Addr} {us : List Str} (S : Same H H') (h : StrsAt K H t us) : StrsAt K H' t us := h.imp (S _ _) (TupS.same S)
theorem StrsAt.kp {K : PySem.W.Frag} {H H' : Hp} {t b C dx : Addr} {fs : List (Str × V)} {us : List Str} (k : Kp b H H') (hb : H b = some (.ins C dx fs)) (h : StrsAt K H t us) : StrsAt K H' t us := by
  rcases h with h | h
  · exact .inl (k _ _ (ne_of h hb (by intro z; cases z)) h)
  · exact .inr (h.kp k hb fun _ z => by cases z)
def spTwice (K : PySem.W.Frag) : Sp := fun vs H Q _ => ∃ (t : Addr) (us : List Str), vs = [.ref t] ∧ StrsAt K H t us ∧ us.length ≤ 1000 ∧ ∀ H', Same H H' → Q (sV (twi [] us)) H'
section
variable {P : Program} {w : World} {K : PySem.W.Frag} {mg : Str → Option Value} {base : Heap}
theorem ok_twice {f : Addr} {fd : FuncData} (F : Fun K "first_twice" "first_twice" s_first_twice f fd) (b_set : mg "set" = none) : FnOk P w K mg base CX0 1 f fd P_first_twice (spTwice K) := by
  refine F.ok sc_first_twice (fun vs H Q E h => ?_) (fun cdv A outer s H vs Q E hr h => ?_)
  · obtain ⟨t, us, rfl, _⟩ := h
    rfl
  · obtain ⟨t, us, rfl, ht, lu, k⟩ := h
    rcases ht with ht | ht
    · refine ⟨_, (pss_cons (ps_set (i := 1) sc_first_twice.nd rfl (Or.inl rfl) (pe_callTy0 cr_set0K rfl b_set (by decide +kernel)))
    (pss_cons (ps_for PassesOwn.never rfl  (pi_list (pv 0)) (pg_name (i := 2) sc_first_twice.nd rfl (Or.inl rfl)) (pss_cons (ps_if (pt_cmpR or_sinK (pv 2) (pv 1) (by rfl)) (pss_one (ps_ret (pv 2))) pss_nil)
    (pss_one (ps_expr (pe_saddK (pv 1) (pa_cons (pv 2) pa_nil))))))
    (pss_one (ps_ret pe_non)))), ?_⟩
      refine Bar.rStart (σ := [some (.ref t), none, none]) rfl ?_
      walk_at "rd"
      intro D hD
      walk_at "rd"
      refine Bar.forL (xs := us.map V.str) (fun i σ H' => (∃ (S : Key → Bool) (n : Nat), H' D = some (SetK P w D S n) ∧ n ≤ i ∧ ∀ z, S (.inr z) = true ↔ z ∈ us.take i) ∧ Same H H' ∧ twi (us.take i) (us.drop i) = twi [] us ∧ ∃ x : Option V, σ = [some (.ref t), some (.ref D), x]) (SqL.of (Bar.lkNew hD ht)) ⟨⟨_, 0, upd_same, Nat.le_refl _, fun z => ⟨(fun q => by cases q), (fun q => by cases q)⟩⟩, fun _ _ e => Bar.lkNew hD e, rfl, _, rfl⟩ (fun i σ H2 _ ⟨_, S, _⟩ => SqL.of (S _ _ ht)) ?_ ?_
      · rintro i v σ H2 hv ⟨⟨S, n, hs, hn, hS⟩, S2, ft, x, rfl⟩
        rw [List.getElem?_map] at hv
        obtain ⟨z, ez, rfl⟩ := Option.map_eq_some_iff.mp hv
        have il := (List.getElem?_eq_some_iff.mp ez).1
        have ed : us.drop i = z :: us.drop (i + 1) := by
          rw [List.drop_eq_getElem_cons il]
          congr 1
          exact (List.getElem?_eq_some_iff.mp ez).2
        have et : us.take (i + 1) = us.take i ++ [z] := by
          rw [List.take_add_one, ez]
          rfl
        have ft' : (if z ∈ us.take i then some z else twi (us.take i ++ [z]) (us.drop (i + 1))) = twi [] us := by
          rw [ed] at ft
          exact ft
        walk_at "rd"
        refine rSIn_ hs ?_
        walk_at "rd"
        refine ite2 (fun h => ?_) (fun h => ?_)
        · have hm := (hS z).mp h
          rw [if_pos hm] at ft'
          walk_at "rd"
          rw [← ft'] at k
          exact k _ S2
        · have hm : z ∉ us.take i := fun q => h ((hS z).mpr q)
          rw [if_neg hm] at ft'
          walk_at "rd"
          refine ⟨⟨D, S, n, rfl, hs⟩, ?_⟩
          walk_at "rd"
          refine rSAdd_ hs (Nat.lt_of_le_of_lt (show n + 1 ≤ 1001 by omega) (by decide)) ?_
          walk_at "rd"
          refine ⟨⟨_, _, upd_same, ?_, fun y => ?_⟩, fun a o e => Bar.lkNe (ne_of_none e hD) (S2 _ _ e), by rw [et]; exact ft', _, rfl⟩
          · have h : ¬ S (.inr z) = true := h
            rw [if_neg h]
            omega
          · rw [et, List.mem_append, List.mem_singleton, ← hS y, Bool.or_eq_true, decide_eq_true_eq]
            constructor
            · rintro (q | q)
              · exact .inl q
              · injection q with q
                exact .inr q
            · rintro (q | q)
              · exact .inl q
              · exact .inr (by rw [q])
      · rintro σ H2 ⟨⟨S, n, hs, hn, hS⟩, S2, ft, x, rfl⟩
        rw [List.length_map, List.drop_length] at ft
        walk_at "rd"
        rw [← ft] at k
        exact k _ S2
    · have hs : ∀ {H2 : Hp}, Same H H2 → SqT K H2 t (us.map V.str) := fun S => (ht.same S).sq
      refine ⟨_, (pss_cons (ps_set (i := 1) sc_first_twice.nd rfl (Or.inl rfl) (pe_callTy0 cr_set0K rfl b_set (by decide +kernel)))
    (pss_cons (ps_for PassesOwn.never rfl  (pi_tup (pv 0)) (pg_name (i := 2) sc_first_twice.nd rfl (Or.inl rfl)) (pss_cons (ps_if (pt_cmpR or_sinK (pv 2) (pv 1) (by rfl)) (pss_one (ps_ret (pv 2))) pss_nil)
    (pss_one (ps_expr (pe_saddK (pv 1) (pa_cons (pv 2) pa_nil))))))
    (pss_one (ps_ret pe_non)))), ?_⟩
      refine Bar.rStart (σ := [some (.ref t), none, none]) rfl ?_
      walk_at "rd"
      intro D hD
      walk_at "rd"
      refine Bar.forT (xs := us.map V.str) (fun i σ H' => (∃ (S : Key → Bool) (n : Nat), H' D = some (SetK P w D S n) ∧ n ≤ i ∧ ∀ z, S (.inr z) = true ↔ z ∈ us.take i) ∧ Same H H' ∧ twi (us.take i) (us.drop i) = twi [] us ∧ ∃ x : Option V, σ = [some (.ref t), some (.ref D), x]) (hs fun _ _ e => Bar.lkNew hD e) ⟨⟨_, 0, upd_same, Nat.le_refl _, fun z => ⟨(fun q => by cases q), (fun q => by cases q)⟩⟩, fun _ _ e => Bar.lkNew hD e, rfl, _, rfl⟩ (fun i σ H2 _ ⟨_, S, _⟩ => hs S) ?_ ?_
      · rintro i v σ H2 hv ⟨⟨S, n, hs, hn, hS⟩, S2, ft, x, rfl⟩
        rw [List.getElem?_map] at hv
        obtain ⟨z, ez, rfl⟩ := Option.map_eq_some_iff.mp hv
        have il := (List.getElem?_eq_some_iff.mp ez).1
        have ed : us.drop i = z :: us.drop (i + 1) := by
          rw [List.drop_eq_getElem_cons il]
          congr 1
          exact (List.getElem?_eq_some_iff.mp ez).2
        have et : us.take (i + 1) = us.take i ++ [z] := by
          rw [List.take_add_one, ez]
          rfl
        have ft' : (if z ∈ us.take i then some z else twi (us.take i ++ [z]) (us.drop (i + 1))) = twi [] us := by
          rw [ed] at ft
          exact ft
        walk_at "rd"
        refine rSIn_ hs ?_
        walk_at "rd"
        refine ite2 (fun h => ?_) (fun h => ?_)
        · have hm := (hS z).mp h
          rw [if_pos hm] at ft'
          walk_at "rd"
          rw [← ft'] at k
          exact k _ S2
        · have hm : z ∉ us.take i := fun q => h ((hS z).mpr q)
          rw [if_neg hm] at ft'
          walk_at "rd"
          refine ⟨⟨D, S, n, rfl, hs⟩, ?_⟩
          walk_at "rd"
          refine rSAdd_ hs (Nat.lt_of_le_of_lt (show n + 1 ≤ 1001 by omega) (by decide)) ?_
          walk_at "rd"
          refine ⟨⟨_, _, upd_same, ?_, fun y => ?_⟩, fun a o e => Bar.lkNe (ne_of_none e hD) (S2 _ _ e), by rw [et]; exact ft', _, rfl⟩
          · have h : ¬ S (.inr z) = true := h
            rw [if_neg h]
            omega
          · rw [et, List.mem_append, List.mem_singleton, ← hS y, Bool.or_eq_true, decide_eq_true_eq]
            constructor
            · rintro (q | q)
              · exact .inl q
              · injection q with q
                exact .inr q
            · rintro (q | q)
              · exact .inl q
              · exact .inr (by rw [q])
      · rintro σ H2 ⟨⟨S, n, hs, hn, hS⟩, S2, ft, x, rfl⟩
        rw [List.length_map, List.drop_length] at ft
        walk_at "rd"
        rw [← ft] at k
        exact k _ S2
end

end Lw
namespace Lw
open PySem L2 Bar

/-! ### a drawn name -/
theorem nodup_len : ∀ (l us : List Str), l.Nodup → (∀ x ∈ l, x ∈ us) → l.length ≤ us.length
  | [], _, _, _ => Nat.zero_le _
  | a :: l, us, nd, h => by
    obtain ⟨na, nl⟩ := List.nodup_cons.mp nd
    have ha := h a (List.mem_cons_self ..)
    have i := nodup_len l (us.erase a) nl fun x hx => (List.mem_erase_of_ne fun e => na (by rw [← e]; exact hx)).mpr (h x (List.mem_cons_of_mem _ hx))
    rw [List.length_erase_of_mem ha] at i
    have : 0 < us.length := List.length_pos_of_mem ha
    show l.length + 1 ≤ us.length
    omega
def spareS (k : Nat) : Str := ("spare" : Str) ++ ((toString ((k : Nat) : Int) : String) : Str)
theorem spare_nodup : ((List.range 100).map spareS).Nodup := by decide +kernel
theorem spare_name : ∀ k : Nat, k < 100 → nameB (spareS k) = true := by decide +kernel
theorem in_str {z : Str} {us : List Str} : inV (.str z) (us.map V.str) = decide (z ∈ us) := by
  unfold inV
  rw [List.any_map]
  rw [Bool.eq_iff_iff, List.any_eq_true, decide_eq_true_eq]
  constructor
  · rintro ⟨y, hy, e⟩
    have e : (y == z) = true := e
    rw [← beq_iff_eq.mp e]
    exact hy
  · exact fun h => ⟨z, h, beq_self_eq_true z⟩
theorem flat_strs (us : List Str) : (us.map V.str).all flatV = true := by
  rw [List.all_map, List.all_eq_true]
  exact fun _ _ => rfl
abbrev lenV : List V := [.int 0, .int 1, .int 2, .int 4, .int 7, .int 11]
theorem len_at {r : Int} (h0 : 0 ≤ r) (h1 : r < 6) : ∃ v : Int, atI lenV r = some (.int v) ∧ 0 ≤ v ∧ v ≤ 11 := by
  have h : r = 0 ∨ r = 1 ∨ r = 2 ∨ r = 3 ∨ r = 4 ∨ r = 5 := by omega
  rcases h with h | h | h | h | h | h <;> (subst h; exact ⟨_, rfl, by decide, by decide⟩)
theorem letters_sgn : ((("abcdefghijklmnopqrstuvwxyz" : Str) ++ ("0123456789" : Str)) : Str) = signsS := by decide +kernel
/-- a letter and then signs -/
def NameTo (n : Nat) (z : Str) : Prop := ∃ c l, z.cps.toList = c :: l ∧ c ∈ letL ∧ l.length = n ∧ ∀ d ∈ l, d ∈ sgnL
theorem NameTo.ok {n : Nat} {z : Str} (h : NameTo n z) (hn : n ≤ 11) : nameB z = true := by
  obtain ⟨c, l, e, hc, hl, hs⟩ := h
  unfold nameB nameL
  rw [e]
  have h1 : decide (1 ≤ (c :: l).length) = true := decide_eq_true (by simp)
  have h2 : decide ((c :: l).length ≤ 12) = true := decide_eq_true (by show l.length + 1 ≤ 12; omega)
  have h3 : (c :: l).head?.any (fun c => decide (c ∈ letL)) = true := decide_eq_true hc
  have h4 : (c :: l).all (fun c => decide (c ∈ sgnL)) = true := List.all_eq_true.mpr fun d hd => by
    rcases List.mem_cons.mp hd with e | hd
    · rw [e]
      exact decide_eq_true (let_sub c hc)
    · exact decide_eq_true (hs d hd)
  rw [h1, h2, h3, h4]
  rfl
theorem NameTo.more {n : Nat} {z : Str} {c : Nat} (h : NameTo n z) (hc : c ∈ sgnL) : NameTo (n + 1) (z ++ ⟨#[c]⟩) := by
  obtain ⟨c0, l, e, h0, hl, hs⟩ := h
  refine ⟨c0, l ++ [c], by rw [cat_cps, e]; rfl, h0, by rw [List.length_append, hl]; rfl, fun d hd => ?_⟩
  rcases List.mem_append.mp hd with hd | hd
  · exact hs d hd
  · rw [List.mem_singleton.mp hd]
    exact hc
theorem NameTo.len {n : Nat} {z : Str} (h : NameTo n z) : z.length = n + 1 := by
  obtain ⟨c, l, e, _, hl, _⟩ := h
  rw [len_cps, e]
  show l.length + 1 = _
  omega
theorem sgn_small : ∀ c ∈ sgnL, c < 128 := by decide +kernel
theorem name_len {z : Str} (h : nameB z = true) : 1 ≤ z.length ∧ z.length ≤ 12 := by
  unfold nameB nameL at h
  simp only [Bool.and_eq_true, decide_eq_true_eq] at h
  exact ⟨h.1.1.1, h.1.1.2⟩
theorem name_sgn {z : Str} (h : nameB z = true) : ∀ c ∈ z.cps.toList, c ∈ sgnL := by
  unfold nameB nameL at h
  simp only [Bool.and_eq_true, decide_eq_true_eq] at h
  exact fun c hc => of_decide_eq_true (List.all_eq_true.mp h.2 c hc)
theorem name_small {z : Str} (h : nameB z = true) : ∀ c ∈ z.cps.toList, c < 16 ^ 8 := fun c hc => Nat.lt_trans (sgn_small c (name_sgn h c hc)) (by decide)
def spName : Sp := fun vs H Q _ => ∃ (b u : Addr) (c s n : Int) (us : List Str), vs = [.ref b, .ref u] ∧ H b = some (box c s n) ∧ H u = some (.lst (us.map V.str)) ∧ us.length ≤ 50 ∧
  ∀ z H', nameB z = true → z ∉ us → Kp2 b u H H' → (∃ c' n', H' b = some (box c' s n')) → H' u = some (.lst ((us ++ [z]).map V.str)) → Q (.str z) H'
theorem box_strs {c s n : Int} (us : List Str) : (HO.lst (us.map V.str)) ≠ box c s n := fun e => by
  have e := HO.lst.inj e
  match us, e with
  | a :: r, e => cases e
section
variable {P : Program} {w : World} {K : PySem.W.Frag} {mg : Str → Option Value} {base : Heap}
theorem ok_name {f : Addr} {fd : FuncData} (F : Fun K "_law_name" "_law_name" s_law_name f fd) (T : Txt mg) (f_law_draw : Fn P w K mg base "_law_draw" P_law_draw [] 1 spDrawA) : FnOk P w K mg base CX0 2 f fd P_law_name spName := by
  refine F.ok sc_law_name (fun vs H Q E h => ?_) (fun cdv A outer s H vs Q E hr h => ?_)
  · obtain ⟨b, u, c, z, n, us, rfl, _⟩ := h
    rfl
  · obtain ⟨b, u, c, z, n, us, rfl, hb, hu, lu, k⟩ := h
    have nub : u ≠ b := ne_of hu hb (box_strs us)
    refine ⟨_, (pss_cons (ps_set (i := 2) sc_law_name.nd rfl (Or.inl rfl) pe_str)
    (pss_cons (ps_for PassesOwn.never rfl  (pi_range1 rfl T.b_range (pa_cons pe_int pa_nil)) (pg_name (i := 3) sc_law_name.nd rfl (Or.inl rfl)) (pss_cons (ps_set (i := 4) sc_law_name.nd rfl (Or.inl rfl) (pe_ix ix_str (pv 2) (pe_fn f_law_draw (hr.mono (by omega)) rfl (pa_cons (pv 0) (pa_cons pe_int pa_nil))) (fun _ _ => rfl)))
    (pss_cons (ps_for PassesOwn.never rfl  (pi_range1 rfl T.b_range (pa_cons (pe_ix ix_tup (pe_tup (pa_cons pe_int (pa_cons pe_int (pa_cons pe_int (pa_cons pe_int (pa_cons pe_int (pa_cons pe_int pa_nil))))))) (pe_fn f_law_draw (hr.mono (by omega)) rfl (pa_cons (pv 0) (pa_cons pe_int pa_nil))) (fun _ _ => rfl)) pa_nil)) (pg_name (i := 5) sc_law_name.nd rfl (Or.inl rfl)) (pss_one (ps_set (i := 4) sc_law_name.nd rfl (Or.inl rfl) (pe_op o_catS (pv 4) (pe_ix ix_str (pe_op o_catS (pv 2) pe_str) (pe_fn f_law_draw (hr.mono (by omega)) rfl (pa_cons (pv 0) (pa_cons pe_int pa_nil))) (fun _ _ => rfl))))))
    (pss_one (ps_if (pt_cmpR op_notIn_seq (pv 4) (pv 1) (by rfl)) (pss_cons (ps_expr (pe_bm PySem.F.plainAttrs_list PySem.F.slot_list_append PySem.F.type_list_append mt_append (pv 1) (pa_cons (pv 4) pa_nil)))
    (pss_one (ps_ret (pv 4)))) pss_nil)))))
    (pss_cons (ps_for PassesOwn.never rfl  (pi_range1 rfl T.b_range (pa_cons pe_int pa_nil)) (pg_name (i := 5) sc_law_name.nd rfl (Or.inl rfl)) (pss_cons (ps_set (i := 4) sc_law_name.nd rfl (Or.inl rfl) (pe_op o_catS pe_str (pe_callTy c_str rfl T.b_str (by decide +kernel) (pa_cons (pv 5) pa_nil))))
    (pss_one (ps_if (pt_cmpR op_notIn_seq (pv 4) (pv 1) (by rfl)) (pss_one ps_break) pss_nil))))
    (pss_cons (ps_expr (pe_bm PySem.F.plainAttrs_list PySem.F.slot_list_append PySem.F.type_list_append mt_append (pv 1) (pa_cons (pv 4) pa_nil)))
    (pss_one (ps_ret (pv 4))))))), ?_⟩
    refine Bar.rStart (σ := [some (.ref b), some (.ref u), none, none, none, none]) rfl ?_
    walk_at "rd"
    refine Bar.forR 20 rfl (fun i σ H' => Kp b H H' ∧ (∃ c' n', H' b = some (box c' z n')) ∧ ∃ (x y w : Option V), σ = [some (.ref b), some (.ref u), some (.str "abcdefghijklmnopqrstuvwxyz"), x, y, w]) (by decide) ⟨Kp.refl, ⟨_, _, hb⟩, _, _, _, rfl⟩ ?_ ?_
    · rintro i σ H' hi ⟨K0, ⟨c0, n0, hb0⟩, x, y, w, rfl⟩
      walk_at "rd"
      refine ⟨b, c0, z, n0, 26, rfl, hb0, by decide, by decide, fun r1 H1 l1 u1 ⟨K1, c1, n1, hb1⟩ => ?_⟩
      obtain ⟨ch, hch, hlet⟩ := let_ix l1 u1
      refine rIxS_ (by decide +kernel) hch ?_
      walk_at "rd"
      intro tq htq
      walk_at "rd"
      have nqb : tq ≠ b := fun e => by
        rw [e, hb1] at htq
        cases htq
      refine ⟨b, c1, z, n1, 6, rfl, Bar.lkNew htq hb1, by decide, by decide, fun r2 H2 l2 u2 ⟨K2, c2, n2, hb2⟩ => ?_⟩
      obtain ⟨v, hv, v0, v1⟩ := len_at l2 u2
      refine Bar.rIxT_ (SqT.of (K2 _ _ nqb upd_same)) hv ?_
      obtain ⟨m, rfl⟩ : ∃ m : Nat, v = m := ⟨v.toNat, by omega⟩
      have K02 : Kp b H H2 := ((K0.trans K1).trans (Kp.new htq)).trans K2
      clear K0 K1 K2 hb0 hb1 htq
      walk_at "rd"
      refine Bar.forR m (Int.toNat_natCast m) (fun j σ H' => Kp b H H' ∧ (∃ c' n', H' b = some (box c' z n')) ∧ ∃ (y : Str) (w : Option V), NameTo j y ∧ σ = [some (.ref b), some (.ref u), some (.str "abcdefghijklmnopqrstuvwxyz"), some (.int (i : Int)), some (.str y), w]) (by omega) ⟨K02, ⟨_, _, hb2⟩, _, _, ⟨ch, [], rfl, hlet, rfl, fun d hd => by cases hd⟩, rfl⟩ ?_ ?_
      · rintro j σ H3 hj ⟨K3, ⟨c3, n3, hb3⟩, y, w, ny, rfl⟩
        have ly := ny.len
        walk_at "rd"
        refine rCatS_ (by decide +kernel) ?_
        walk_at "rd"
        rw [letters_sgn]
        refine ⟨b, c3, z, n3, 36, rfl, hb3, by decide, by decide, fun r3 H4 l3 u3 ⟨K4, c4, n4, hb4⟩ => ?_⟩
        obtain ⟨cs, hcs, hsg⟩ := sgn_ix l3 u3
        refine rIxS_ (by decide +kernel) hcs ?_
        refine rCatS_ (Nat.le_trans (show y.length + 1 ≤ 100 by omega) (by decide)) ?_
        walk_at "rd"
        exact ⟨K3.trans K4, ⟨_, _, hb4⟩, _, _, ny.more hsg, rfl⟩
      · rintro σ H3 ⟨K3, ⟨c3, n3, hb3⟩, y, w, ny, rfl⟩
        have nm := ny.ok (by omega)
        have hu3 := K3 _ _ nub hu
        walk_at "rd"
        refine ⟨u, _, rfl, .inl (SqL.of hu3), rfl, flat_strs us, ?_⟩
        rw [in_str]
        walk_at "rd"
        refine ite2 (fun h => ?_) (fun h => ?_)
        · have ni : y ∉ us := fun q => by
            have h : (!decide (y ∈ us)) = true := h
            rw [decide_eq_true q] at h
            cases h
          walk_at "rd"
          refine Bar.rAppend_ hu3 (Bar.szLt (by rw [List.length_map]; omega)) ?_
          walk_at "rd"
          refine k y _ nm ni ((Kp2.refl.kp K3).set) ⟨_, _, Bar.lkNe nub.symm hb3⟩ ?_
          rw [upd_same, List.map_append]
          rfl
        · walk_at "rd"
          exact ⟨K3, ⟨_, _, hb3⟩, _, _, _, rfl⟩
    · rintro σ H' ⟨K0, ⟨c0, n0, hb0⟩, x, y, w, rfl⟩
      have hu0 := K0 _ _ nub hu
      walk_at "rd"
      refine Bar.forR 100 rfl (fun j σ H2 => H2 = H' ∧ (∀ i, i < j → spareS i ∈ us) ∧ ∃ (y w : Option V), σ = [some (.ref b), some (.ref u), some (.str "abcdefghijklmnopqrstuvwxyz"), x, y, w]) (by decide) ⟨rfl, fun i hi => absurd hi (by omega), _, _, rfl⟩ ?_ ?_
      · rintro j σ H2 hj ⟨rfl, hh, y, w, rfl⟩
        have nm := spare_name j hj
        have ln := name_len nm
        walk_at "rd"
        refine Bar.rStr_ (PySem.Flt.log2_lt_of (by decide) (Nat.lt_of_lt_of_le (show ((j : Nat) : Int).natAbs < 2 ^ 7 by omega) (Nat.pow_le_pow_right (by decide) (by decide)))) ?_
        refine rCatS_ ?_ ?_
        · have e : (spareS j).length = ("spare" : Str).length + ((toString ((j : Nat) : Int) : String) : Str).length := by
            unfold spareS
            rw [len_cps, cat_cps, List.length_append]
            rfl
          exact Nat.le_trans (show _ ≤ 12 by rw [← e]; exact ln.2) (by decide)
        walk_at "rd"
        refine ⟨u, _, rfl, .inl (SqL.of hu0), rfl, flat_strs us, ?_⟩
        rw [in_str]
        walk_at "rd"
        refine ite2 (fun h => ?_) (fun h => ?_)
        · have ni : spareS j ∉ us := fun q => by
            have h : (!decide (spareS j ∈ us)) = true := h
            rw [decide_eq_true q] at h
            cases h
          walk_at "rd"
          refine Bar.rAppend_ hu0 (Bar.szLt (by rw [List.length_map]; omega)) ?_
          walk_at "rd"
          refine k (spareS j) _ nm ni ((Kp2.refl.kp K0).set) ⟨_, _, Bar.lkNe nub.symm hb0⟩ ?_
          rw [upd_same, List.map_append]
          rfl
        · have ni : spareS j ∈ us := by
            by_cases q : spareS j ∈ us
            · exact q
            · exact absurd (show (!decide (spareS j ∈ us)) = true by rw [decide_eq_false q]; rfl) h
          walk_at "rd"
          refine ⟨rfl, fun i hi => ?_, _, _, rfl⟩
          by_cases ij : i = j
          · rw [ij]
            exact ni
          · exact hh i (by omega)
      · rintro σ H2 ⟨rfl, hh, y, w, rfl⟩
        exfalso
        have l := nodup_len _ us spare_nodup fun z hz => by
          obtain ⟨i, hi, rfl⟩ := List.mem_map.mp hz
          exact hh i (List.mem_range.mp hi)
        rw [List.length_map, List.length_range] at l
        omega
end


/-! ### bad names -/
abbrev digS : Str := "0123456789"
def okBad (z : Str) : Bool := z.cps.toList.all fun c => decide (c ∉ sgnL) && decide (c < 128)
theorem dig_not : ∀ c ∈ digS.cps.toList, c ∉ letL ∧ c < 128 := by decide +kernel
theorem any_ix {l : List Nat} {r : Int} (h0 : 0 ≤ r) (h1 : r < l.length) : ∃ c, atI l r = some c ∧ c ∈ l := by
  have hn : r.toNat < l.length := by omega
  refine ⟨_, ?_, List.mem_of_getElem? (List.getElem?_eq_getElem hn)⟩
  have e : atI l ((r.toNat : Nat) : Int) = _ := atI_nat (List.getElem?_eq_getElem hn)
  rw [show ((r.toNat : Nat) : Int) = r by omega] at e
  exact e
theorem rIxBad {z : Str} {i : Int} {H : Hp} {Q : VK} (hz : okBad z = true) (l : z.length ≤ sizeLine) (h0 : 0 ≤ i) (h1 : i < (z.length : Int)) (k : ∀ c, c ∉ sgnL → c < 128 → Q (.str ⟨#[c]⟩) H) : rIxS (.str z) (.int i) H Q := by
  obtain ⟨c, hc, hm⟩ := any_ix (l := z.cps.toList) h0 h1
  have q := List.all_eq_true.mp hz c hm
  rw [Bool.and_eq_true] at q
  exact rIxS_ l hc (k c (of_decide_eq_true q.1) (of_decide_eq_true q.2))
theorem nb_long {z : Str} (h : 12 < z.cps.toList.length) : nameB z = false := by
  unfold nameB nameL
  rw [decide_eq_false (show ¬ z.cps.toList.length ≤ 12 by omega)]
  simp
theorem nb_head {z : Str} {c : Nat} {l : List Nat} (e : z.cps.toList = c :: l) (h : c ∉ letL) : nameB z = false := by
  unfold nameB nameL
  rw [e]
  have : (c :: l).head?.any (fun c => decide (c ∈ letL)) = false := decide_eq_false h
  rw [this]
  simp
theorem nb_sign {z : Str} {c : Nat} (hc : c ∈ z.cps.toList) (h : c ∉ sgnL) : nameB z = false := by
  unfold nameB nameL
  have : z.cps.toList.all (fun c => decide (c ∈ sgnL)) = false := by
    rw [Bool.eq_false_iff]
    intro q
    exact h (of_decide_eq_true (List.all_eq_true.mp q c hc))
  rw [this, Bool.and_false]
structure BadS (y : Str) : Prop where
  no : nameB y = false
  len : y.length ≤ 100
  small : ∀ c ∈ y.cps.toList, c < 0x110000
def spBadName : Sp := fun vs H Q _ => ∃ (b : Addr) (c s n : Int) (z : Str), vs = [.ref b, .str z] ∧ H b = some (box c s n) ∧ nameB z = true ∧ ∀ y H', BadS y → KpB b s H H' → Q (.str y) H'
section
variable {P : Program} {w : World} {K : PySem.W.Frag} {mg : Str → Option Value} {base : Heap}
theorem ok_badName {f : Addr} {fd : FuncData} (F : Fun K "_law_bad_name" "_law_bad_name" s_law_bad_name f fd) (T : Txt mg) (f_law_draw : Fn P w K mg base "_law_draw" P_law_draw [] 1 spDrawA) : FnOk P w K mg base CX0 2 f fd P_law_bad_name spBadName := by
  refine F.ok sc_law_bad_name (fun vs H Q E h => ?_) (fun cdv A outer s H vs Q E hr h => ?_)
  · obtain ⟨b, c, s, n, z, rfl, _⟩ := h
    rfl
  · obtain ⟨b, c, sa, n, z, rfl, hb, hn, k⟩ := h
    have zl := name_len hn
    have zs : ∀ c ∈ z.cps.toList, c < 0x110000 := fun c hc => Nat.lt_trans (sgn_small c (name_sgn hn c hc)) (by decide)
    refine ⟨_, (pss_cons (ps_set (i := 2) sc_law_bad_name.nd rfl (Or.inl rfl) (pe_fn f_law_draw (hr.mono (by omega)) rfl (pa_cons (pv 0) (pa_cons pe_int pa_nil))))
    (pss_cons (ps_if (pt_cmpR op_eq (pv 2) pe_int (nomark _)) (pss_one (ps_ret pe_str)) pss_nil)
    (pss_cons (ps_if (pt_cmpR op_eq (pv 2) pe_int (nomark _)) (pss_one (ps_ret (pe_slice sl_str (pe_op o_catS (pv 1) pe_str) po_none (po_some pe_int)))) pss_nil)
    (pss_cons (ps_if (pt_cmpR op_eq (pv 2) pe_int (nomark _)) (pss_one (ps_ret (pe_op o_catS (pe_ix ix_str pe_str (pe_fn f_law_draw (hr.mono (by omega)) rfl (pa_cons (pv 0) (pa_cons pe_int pa_nil))) (fun _ _ => rfl)) (pe_slice sl_str (pv 1) (po_some pe_int) po_none)))) pss_nil)
    (pss_cons (ps_set (i := 3) sc_law_bad_name.nd rfl (Or.inl rfl) pe_str)
    (pss_cons (ps_set (i := 4) sc_law_bad_name.nd rfl (Or.inl rfl) (pe_fn f_law_draw (hr.mono (by omega)) rfl (pa_cons (pv 0) (pa_cons (pe_callB c_lenStr rfl T.b_len PySem.boot_len (pa_cons (pv 1) pa_nil)) pa_nil))))
    (pss_one (ps_ret (pe_op o_catS (pe_op o_catS (pe_slice sl_str (pv 1) po_none (po_some (pv 4))) (pe_ix ix_str (pv 3) (pe_fn f_law_draw (hr.mono (by omega)) rfl (pa_cons (pv 0) (pa_cons (pe_callB c_lenStr rfl T.b_len PySem.boot_len (pa_cons (pv 3) pa_nil)) pa_nil))) (fun _ _ => rfl))) (pe_slice sl_str (pv 1) (po_some (pe_op op_add (pv 4) pe_int)) po_none)))))))))), ?_⟩
    refine Bar.rStart (σ := [some (.ref b), some (.str z), none, none, none]) rfl ?_
    walk_at "rd"
    refine ⟨b, c, sa, n, 4, rfl, hb, by decide, by decide, fun r1 H1 l1 u1 ⟨K1, c1, n1, hb1⟩ => ?_⟩
    walk_at "rd"
    refine ite2 (fun h1 => ?_) (fun h1 => ?_)
    · walk_at "rd"
      exact k _ _ ⟨by decide +kernel, by decide +kernel, fun c hc => by cases hc⟩ ⟨K1, _, _, hb1⟩
    · walk_at "rd"
      refine ite2 (fun h2 => ?_) (fun h2 => ?_)
      · walk_at "rd"
        refine rCatS_ (Nat.le_trans (show _ ≤ 12 + 13 from Nat.add_le_add zl.2 (by decide +kernel)) (by decide)) ?_
        walk_at "rd"
        have ec := cut_to (z := z ++ ("abcdefghijklm" : Str)) (n := 13) (by decide)
        rw [cat_cps] at ec
        have l13 : (("abcdefghijklm" : Str)).cps.toList.length = 13 := by decide +kernel
        have sm13 : ∀ c ∈ (("abcdefghijklm" : Str)).cps.toList, c < 128 := by decide +kernel
        have ll : (cutS (z ++ ("abcdefghijklm" : Str)) none (some 13)).cps.toList.length = 13 := by
          rw [ec, List.length_take, List.length_append, l13]
          show min 13 _ = 13
          omega
        refine rSlS_ ?_ ?_
        · rw [len_cps, cat_cps, List.length_append, l13, ← len_cps]
          exact Nat.le_trans (show _ ≤ 25 by omega) (by decide)
        walk_at "rd"
        refine k _ _ ⟨nb_long (by rw [ll]; decide), by rw [len_cps, ll]; decide, fun c hc => ?_⟩ ⟨K1, _, _, hb1⟩
        rw [ec] at hc
        rcases List.mem_append.mp (List.mem_of_mem_take hc) with h | h
        · exact zs c h
        · exact Nat.lt_trans (sm13 c h) (by decide)
      · walk_at "rd"
        refine ite2 (fun h3 => ?_) (fun h3 => ?_)
        · walk_at "rd"
          refine ⟨b, c1, sa, n1, 10, rfl, hb1, by decide, by decide, fun r2 H2 l2 u2 ⟨K2, c2, n2, hb2⟩ => ?_⟩
          obtain ⟨ch, hch, hd⟩ := any_ix (l := digS.cps.toList) l2 (Int.lt_of_lt_of_le u2 (by decide +kernel))
          refine rIxS_ (by decide +kernel) hch ?_
          walk_at "rd"
          have ec := cut_from (z := z) (n := 1) (by decide)
          refine rSlS_ (Nat.le_trans (show _ ≤ 12 from zl.2) (by decide)) ?_
          have lc : (cutS z (some 1) none).cps.toList.length ≤ 12 := by
            rw [ec, List.length_drop, ← len_cps]
            omega
          refine rCatS_ (Nat.le_trans (show _ ≤ 1 + 12 from Nat.add_le_add (Nat.le_refl _) lc) (by decide)) ?_
          walk_at "rd"
          have ez : ((⟨#[ch]⟩ : Str) ++ cutS z (some 1) none).cps.toList = ch :: z.cps.toList.drop 1 := by
            rw [cat_cps, ec]
            rfl
          refine k _ _ ⟨nb_head ez (dig_not _ hd).1, ?_, fun c hc => ?_⟩ ⟨K1.trans K2, _, _, hb2⟩
          · rw [len_cps, ez, List.length_cons, List.length_drop, ← len_cps]
            omega
          · rw [ez] at hc
            rcases List.mem_cons.mp hc with e | h
            · rw [e]
              exact Nat.lt_trans (dig_not _ hd).2 (by decide)
            · exact zs c (List.mem_of_mem_drop h)
        · walk_at "rd"
          refine ⟨z, rfl, Nat.le_trans (show _ ≤ 12 from zl.2) (by decide), ?_⟩
          walk_at "rd"
          refine ⟨b, c1, sa, n1, z.length, rfl, hb1, by omega, Int.le_trans (show _ ≤ 12 by omega) (by decide), fun r2 H2 l2 u2 ⟨K2, c2, n2, hb2⟩ => ?_⟩
          walk_at "rd"
          have e1 := cut_to (z := z) (n := r2) l2
          have e2 := cut_from (z := z) (n := r2 + 1) (by omega)
          have z12 : z.length ≤ sizeLine := Nat.le_trans (show _ ≤ 12 from zl.2) (by decide)
          refine rSlS_ z12 ?_
          walk_at "rd"
          refine Bar.rLenStr_ (by decide +kernel) ?_
          walk_at "rd"
          refine ⟨b, c2, sa, n2, _, rfl, hb2, by decide +kernel, by decide +kernel, fun r3 H3 l3 u3 ⟨K3, c3, n3, hb3⟩ => ?_⟩
          refine rIxBad (by decide +kernel) (by decide +kernel) l3 u3 fun ch hd1 hd2 => ?_
          have la : (cutS z none (some r2)).cps.toList.length ≤ 12 := by
            rw [e1, List.length_take, ← len_cps]
            omega
          refine rCatS_ (Nat.le_trans (show _ ≤ 12 + 1 from Nat.add_le_add la (Nat.le_refl _)) (by decide)) ?_
          walk_at "rd"
          refine rSlS_ z12 ?_
          have lb : (cutS z (some (r2 + 1)) none).cps.toList.length ≤ 12 := by
            rw [e2, List.length_drop, ← len_cps]
            omega
          have ez : ((cutS z none (some r2) ++ (⟨#[ch]⟩ : Str)) ++ cutS z (some (r2 + 1)) none).cps.toList = (z.cps.toList.take r2.toNat ++ [ch]) ++ z.cps.toList.drop (r2 + 1).toNat := by
            rw [cat_cps, cat_cps, e1, e2]
          have ll : ((cutS z none (some r2) ++ (⟨#[ch]⟩ : Str)) ++ cutS z (some (r2 + 1)) none).length ≤ 25 := by
            rw [len_cps, cat_cps, cat_cps, List.length_append, List.length_append]
            show _ + 1 + _ ≤ 25
            omega
          refine rCatS_ ?_ ?_
          · have e : ((cutS z none (some r2) ++ (⟨#[ch]⟩ : Str)) ++ cutS z (some (r2 + 1)) none).length = (cutS z none (some r2) ++ (⟨#[ch]⟩ : Str)).length + (cutS z (some (r2 + 1)) none).length := by
              rw [len_cps, cat_cps, List.length_append]
              rfl
            rw [← e]
            exact Nat.le_trans ll (by decide)
          walk_at "rd"
          refine k _ _ ⟨nb_sign (c := ch) (by rw [ez]; simp) hd1, by omega, fun c hc => ?_⟩ ⟨(K1.trans K2).trans K3, _, _, hb3⟩
          rw [ez] at hc
          rcases List.mem_append.mp hc with h | h
          · rcases List.mem_append.mp h with h | h
            · exact zs c (List.mem_of_mem_take h)
            · rw [List.mem_singleton.mp h]
              exact Nat.lt_trans hd2 (by decide)
          · exact zs c (List.mem_of_mem_drop h)
end


/-! ### tracks -/
instance {H : Hp} {Q : VK} : Bar.Rd (rNotNone (sV none) .non H Q) (Q (.bl false) H) := ⟨rNoN_n⟩
structure Dc where
  z : Str
  st : Int
  off : Int
  o : Option Int
  r : Int
  ns : List Int
def Dc.span (c : Dc) : Int := match c.o with
  | none => 0
  | some l => c.r * l
def rowP (s l : Int) (ns : List Int) : List Int := ns.map fun n => s + n
theorem rowP_len (s l : Int) (ns : List Int) : (rowP s l ns).length = ns.length := List.length_map _
def plc (s : Int) (c : Dc) : List Int := match c.o with
  | none => []
  | some l => (List.range c.r.toNat).flatMap fun (t : Nat) => rowP (s + (t : Int) * l) l c.ns
def places : Int → List Dc → List Int
  | _, [] => []
  | s, c :: r => plc s c ++ places (s + c.span) r
def total : List Dc → Int
  | [] => 0
  | c :: r => c.span + total r
/-- the parts are in order -/
structure DOk (c : Dc) : Prop where
  nm : nameB c.z = true
  st1 : 1 ≤ c.st
  r1 : 1 ≤ c.r
  r4 : c.r ≤ 4
  on : c.o = none → c.r = 1
  ol : ∀ l, c.o = some l → 1 ≤ l ∧ l ≤ 10 ^ 31 ∧ ∀ x ∈ c.ns, x < l
  up : c.ns.Pairwise (· < ·)
  n0 : ∀ x ∈ c.ns, 0 ≤ x ∧ x < 10 ^ 31
  len : c.ns.length ≤ 40
/-- the program's clip at q -/
def CpAt (K : PySem.W.Frag) (C : Addr) (H : Hp) (q : Addr) (c : Dc) : Prop := ∃ dx g t, H q = some (.ins C dx (cf c.z g c.o c.r t)) ∧ TupAt K H t c.ns
theorem CpAt.same {K : PySem.W.Frag} {C q : Addr} {H H' : Hp} {c : Dc} (S : Same H H') (h : CpAt K C H q c) : CpAt K C H' q c := by
  obtain ⟨dx, g, t, h1, h2⟩ := h
  exact ⟨dx, g, t, S _ _ h1, h2.same S⟩
/-- two lists, item by item -/
def All2 {α : Type} (R : Addr → α → Prop) (qs : List Addr) (cs : List α) : Prop := qs.length = cs.length ∧ ∀ (i : Nat) q c, qs[i]? = some q → cs[i]? = some c → R q c
theorem All2.to {α : Type} {R R' : Addr → α → Prop} {qs : List Addr} {cs : List α} (h : All2 R qs cs) (k : ∀ q c, R q c → R' q c) : All2 R' qs cs := ⟨h.1, fun i q c a b => k q c (h.2 i q c a b)⟩
theorem All2.at {α : Type} {R : Addr → α → Prop} {qs : List Addr} {cs : List α} (h : All2 R qs cs) {i : Nat} (hi : i < qs.length) : ∃ q c, qs[i]? = some q ∧ cs[i]? = some c ∧ R q c := by
  have hi' : i < cs.length := by rw [← h.1]; exact hi
  exact ⟨_, _, List.getElem?_eq_getElem hi, List.getElem?_eq_getElem hi', h.2 i _ _ (List.getElem?_eq_getElem hi) (List.getElem?_eq_getElem hi')⟩
theorem mul31 {r l : Int} (r1 : 1 ≤ r) (r4 : r ≤ 4) (l1 : 1 ≤ l) (l2 : l ≤ 10 ^ 31) : CMulW r l ∧ CMulW l r ∧ 1 ≤ r * l ∧ r * l ≤ 4 * 10 ^ 31 := by
  have h : r = 1 ∨ r = 2 ∨ r = 3 ∨ r = 4 := by omega
  have w1 : r.natAbs < 2 ^ 200 := Nat.lt_of_le_of_lt (show r.natAbs ≤ 4 by omega) (by decide)
  have w2 : l.natAbs < 2 ^ 200 := Nat.lt_of_le_of_lt (show l.natAbs ≤ 10 ^ 31 by omega) (by decide)
  refine ⟨wide_mul w1 w2 (by decide) (by decide) (by decide), wide_mul w2 w1 (by decide) (by decide) (by decide), ?_, ?_⟩ <;> (rcases h with h | h | h | h <;> (subst h; omega))
theorem DOk.span {c : Dc} (h : DOk c) : 0 ≤ c.span ∧ c.span ≤ 4 * 10 ^ 31 := by
  unfold Dc.span
  cases e : c.o with
  | none => exact ⟨by show (0 : Int) ≤ 0; decide, by show (0 : Int) ≤ _; decide⟩
  | some l =>
    obtain ⟨l1, l2, _⟩ := h.ol l e
    obtain ⟨_, _, a, b⟩ := mul31 h.r1 h.r4 l1 l2
    exact ⟨by show 0 ≤ c.r * l; omega, b⟩
theorem total_bd : ∀ {cs : List Dc}, (∀ c ∈ cs, DOk c) → 0 ≤ total cs ∧ total cs ≤ cs.length * (4 * 10 ^ 31)
  | [], _ => ⟨by show (0 : Int) ≤ 0; decide, by show (0 : Int) ≤ _; decide⟩
  | c :: r, h => by
    obtain ⟨a, b⟩ := (h c (List.mem_cons_self ..)).span
    obtain ⟨d, e⟩ := total_bd fun x hx => h x (List.mem_cons_of_mem c hx)
    show 0 ≤ c.span + total r ∧ c.span + total r ≤ ((r.length + 1 : Nat) : Int) * (4 * 10 ^ 31)
    omega
theorem plc_len {s : Int} {c : Dc} (h : DOk c) : (plc s c).length ≤ 160 := by
  unfold plc
  cases c.o with
  | none => exact Nat.zero_le _
  | some l =>
    show ((List.range c.r.toNat).flatMap _).length ≤ 160
    have : ∀ n : Nat, ((List.range n).flatMap fun (t : Nat) => rowP (s + (t : Int) * l) l c.ns).length = n * c.ns.length := fun n => by
      induction n with
      | zero => exact (Nat.zero_mul _).symm
      | succ n ih =>
        rw [List.range_succ, List.flatMap_append, List.length_append, ih, Nat.succ_mul, List.flatMap_cons, List.flatMap_nil, List.append_nil]
        unfold rowP
        rw [List.length_map]
    rw [this]
    have r4 := h.r4
    have ln := h.len
    exact Nat.le_trans (Nat.mul_le_mul (show c.r.toNat ≤ 4 by omega) ln) (by decide)
theorem places_len : ∀ {cs : List Dc} {s : Int}, (∀ c ∈ cs, DOk c) → (places s cs).length ≤ cs.length * 160
  | [], _, _ => Nat.zero_le _
  | c :: r, s, h => by
    have a := plc_len (s := s) (h c (List.mem_cons_self ..))
    have b := places_len (cs := r) (s := s + c.span) fun x hx => h x (List.mem_cons_of_mem c hx)
    show (plc s c ++ places (s + c.span) r).length ≤ (r.length + 1) * 160
    rw [List.length_append]
    omega
def spGP (K : PySem.W.Frag) (C : Addr) : Sp := fun vs H Q _ => ∃ (t : Addr) (qs : List Addr) (cs : List Dc), vs = [.ref t] ∧ H t = some (.tup (qs.map V.ref)) ∧ All2 (CpAt K C H) qs cs ∧ (∀ c ∈ cs, DOk c) ∧ cs.length ≤ 3 ∧
  ∀ p H', H p = none → Same H H' → H' p = some (.tup ((places 0 cs).map V.int)) → Q (.ref p) H'
section
variable {P : Program} {w : World} {K : PySem.W.Frag} {mg : Str → Option Value} {base : Heap}
theorem places_app : ∀ {as bs : List Dc} {s : Int}, places s (as ++ bs) = places s as ++ places (s + total as) bs
  | [], bs, s => by
    show places s bs = [] ++ places (s + 0) bs
    rw [Int.add_zero]
    rfl
  | a :: as, bs, s => by
    show plc s a ++ places (s + a.span) (as ++ bs) = (plc s a ++ places (s + a.span) as) ++ places (s + (a.span + total as)) bs
    rw [places_app, List.append_assoc, Int.add_assoc]
theorem tot1 (c : Dc) : total [c] = c.span := Int.add_zero _
theorem total_app : ∀ {as bs : List Dc}, total (as ++ bs) = total as + total bs
  | [], bs => by
    show total bs = 0 + total bs
    omega
  | a :: as, bs => by
    show a.span + total (as ++ bs) = a.span + total as + total bs
    rw [total_app]
    omega
theorem ok_gp {f C : Addr} {fd : FuncData} (F : Fun K "guarded_places" "guarded_places" s_guarded_places f fd) (T : Txt mg) (G : CTxt K C) (pr_Clip_span : PrpF P w K mg base C "span" P_Clip_span 1 (spSpan C)) : FnOk P w K mg base CX0 3 f fd P_guarded_places (spGP K C) := by
  refine F.ok sc_guarded_places (fun vs H Q E h => ?_) (fun cdv A outer s H vs Q E hr h => ?_)
  · obtain ⟨t, qs, cs, rfl, _⟩ := h
    rfl
  · obtain ⟨t, qs, cs, rfl, ht, hcs, okc, lc, k⟩ := h
    refine ⟨_, (pss_cons (ps_set (i := 1) sc_guarded_places.nd rfl (Or.inl rfl) (pe_lst pa_nil))
    (pss_cons (ps_set (i := 2) sc_guarded_places.nd rfl (Or.inr rfl) pe_int)
    (pss_cons (ps_for PassesOwn.never rfl  (pi_tup (pv 0)) (pg_name (i := 3) sc_guarded_places.nd rfl (Or.inr rfl)) (pss_mid (ps_if (pt_cmpR o_notN (pe_fld (pv 3) rfl) pe_non (nomark _)) (pss_one (ps_for PassesOwn.never rfl  (pi_range1 rfl T.b_range (pa_cons (pe_fld (pv 3) rfl) pa_nil)) (pg_name (i := 4) sc_guarded_places.nd rfl (Or.inr rfl)) (pss_one (ps_expr (pe_bm PySem.F.plainAttrs_list PySem.F.slot_list_extend PySem.F.type_list_extend mt_extend (pv 1) (pa_cons (pe_lc (own := [("guard", 5)]) (g := gName 5) rfl sc_guarded_places.nd (pi_tup (pe_fld (pv 3) rfl)) (blkOk_by (own := [("guard", 5)]) (N := N_guarded_places) (sc := defScope s_guarded_places) (by decide +kernel)) (fun _ _ _ _ _ => pg_name (i := 5) sc_guarded_places.nd rfl (Or.inl rfl)) (fun _ _ _ _ _ => pts_nil) (fun _ _ _ _ _ => (pe_op op_add (pe_op op_add (pv 2) (pe_op op_mulW (pv 4) (pe_fldK (K := K) (pv 3) rfl rfl))) (pv 5)))) pa_nil)))))) pss_nil)
    (pss_one (ps_set (i := 2) sc_guarded_places.nd rfl (Or.inr rfl) (pe_op op_add (pv 2) (pe_prp pr_Clip_span (hr.mono (by omega)) (pv 3) rfl))))))
    (pss_one (ps_ret (pe_callTy call_tuple_of rfl T.b_tuple (by decide +kernel) (pa_cons (pv 1) pa_nil))))))), ?_⟩
    refine Bar.rStart (σ := [some (.ref t), none, none, none, none, none]) rfl ?_
    walk_at "rd"
    intro D hD
    walk_at "rd"
    refine Bar.forT (xs := qs.map V.ref) (fun i σ H' => Same H H' ∧ H' D = some (.lst ((places 0 (cs.take i)).map V.int)) ∧ ∃ x y, σ = [some (.ref t), some (.ref D), some (.int (total (cs.take i))), x, y, none]) (SqT.of (Bar.lkNew hD ht)) ⟨fun _ _ e => Bar.lkNew hD e, upd_same, _, _, rfl⟩ (fun i σ H2 _ ⟨S, _⟩ => SqT.of (S _ _ ht)) ?_ ?_
    · rintro i x σ H1 hx ⟨S1, hd, y, u, rfl⟩
      have hi : i < qs.length := by have := (List.getElem?_eq_some_iff.mp hx).1; rwa [List.length_map] at this
      obtain ⟨q, c, hq, hc, cp⟩ := hcs.at hi
      have ex : x = .ref q := by
        rw [List.getElem?_map, hq] at hx
        exact (Option.some.inj hx).symm
      subst ex
      have oc := okc c (List.mem_of_getElem? hc)
      obtain ⟨dx, g, tt, eq, et⟩ := cp.same S1
      have tk : cs.take (i + 1) = cs.take i ++ [c] := by rw [List.take_add_one, hc]; rfl
      have sb := total_bd (cs := cs.take i) fun x hx => okc x (List.mem_of_mem_take hx)
      have sl : ((cs.take i).length : Int) ≤ 3 := by rw [List.length_take]; omega
      have pl := places_len (cs := cs.take i) (s := 0) fun x hx => okc x (List.mem_of_mem_take hx)
      have pl3 : (places 0 (cs.take i)).length ≤ 480 := by omega
      generalize hS : total (cs.take i) = S at sb hd
      have nqD : q ≠ D := ne_of eq hd (by intro z; cases z)
      have e0 := places_app (as := cs.take i) (bs := [c]) (s := 0)
      rw [Int.zero_add, hS] at e0
      have e1 : places S [c] = plc S c := List.append_nil _
      rw [e1] at e0
      have t0 := total_app (as := cs.take i) (bs := [c])
      rw [hS] at t0
      obtain ⟨z, st, off, o, r, ns⟩ := c
      have r1 : 1 ≤ r := oc.r1
      have r4 : r ≤ 4 := oc.r4
      have ln : ns.length ≤ 40 := oc.len
      have spn := oc.span
      walk_at "rd"
      refine ⟨fun σ H' => Same H H' ∧ H' D = some (.lst ((places 0 (cs.take i) ++ plc S ⟨z, st, off, o, r, ns⟩).map V.int)) ∧ ∃ y, σ = [some (.ref t), some (.ref D), some (.int S), some (.ref q), y, none], ?_, ?_⟩
      · walk_at "rd"
        refine Bar.rFldV eq G.cl G.n3 rfl ?_
        cases o with
        | none =>
          walk_at "rd"
          exact ⟨S1, by rw [show plc S ⟨z, st, off, none, r, ns⟩ = [] from rfl, List.append_nil]; exact hd, _, rfl⟩
        | some l =>
          obtain ⟨l1, l2, _⟩ := oc.ol l rfl
          obtain ⟨rn, rfl⟩ : ∃ k : Nat, r = k := ⟨r.toNat, by omega⟩
          walk_at "rd"
          refine Bar.rFldV eq G.cl G.n4 rfl ?_
          walk_at "rd"
          refine Bar.forR rn (Int.toNat_natCast rn) (fun j σ H' => Same H H' ∧ H' D = some (.lst ((places 0 (cs.take i) ++ (List.range j).flatMap fun (t : Nat) => rowP (S + (t : Int) * l) l ns).map V.int)) ∧ ∃ y, σ = [some (.ref t), some (.ref D), some (.int S), some (.ref q), y, none]) (by show -(2 ^ 62) ≤ (rn : Int) ∧ (rn : Int) < 2 ^ 62; omega) ⟨S1, by rw [List.range_zero, List.flatMap_nil, List.append_nil]; exact hd, _, rfl⟩ ?_ ?_
          · rintro j σ H2 hj ⟨S2, hd2, y2, rfl⟩
            obtain ⟨dx, g, tt, eq2, et2⟩ := cp.same S2
            have rl : ((List.range j).flatMap fun (t : Nat) => rowP (S + (t : Int) * l) l ns).length ≤ 160 := by
              have : ∀ n : Nat, ((List.range n).flatMap fun (t : Nat) => rowP (S + (t : Int) * l) l ns).length = n * ns.length := fun n => by
                induction n with
                | zero => exact (Nat.zero_mul _).symm
                | succ n ih =>
                  rw [List.range_succ, List.flatMap_append, List.length_append, ih, Nat.succ_mul, List.flatMap_cons, List.flatMap_nil, List.append_nil]
                  unfold rowP
                  rw [List.length_map]
              rw [this]
              exact Nat.le_trans (Nat.mul_le_mul (show j ≤ 4 by omega) ln) (by decide)
            walk_at "rd"
            refine Bar.rFldV eq2 G.cl G.n5 rfl ?_
            walk_at "rd"
            refine Bar.lcT (τ := [some (.ref t), some (.ref D), some (.int S), some (.ref q), some (.int (j : Int)), none]) rfl et2.sq fun W hW => ⟨fun m H' => Same H2 H' ∧ H' W = some (.lst ((rowP (S + (j : Int) * l) l (ns.take m)).map V.int)), ⟨fun _ _ e => Bar.lkNew hW e, upd_same⟩, fun m H' _ ⟨S', _⟩ => (et2.same S').sq, ?_, ?_⟩
            · rintro m v H3 hv ⟨S3, hw⟩
              obtain ⟨n, en, rfl⟩ : ∃ n, ns[m]? = some n ∧ v = .int n := by
                rw [List.getElem?_map] at hv
                cases e : ns[m]? with
                | none => rw [e] at hv; cases hv
                | some n =>
                  rw [e] at hv
                  exact ⟨n, rfl, (Option.some.inj hv).symm⟩
              have mn : m < ns.length := (List.getElem?_eq_some_iff.mp en).1
              walk_at "rd"
              refine ⟨rfl, ?_⟩
              obtain ⟨dx, g, tt, eq3, et3⟩ := cp.same fun _ _ e => S3 _ _ (S2 _ _ e)
              walk_at "rd"
              refine Bar.rFldV eq3 G.cl G.n3 rfl ?_
              refine Bar.rI_ (mul31 (r := (j : Int) + 1) (by omega) (by omega) l1 l2 |> fun _ => wide_mul (a := 200) (b := 200) (Nat.lt_of_le_of_lt (show (j : Int).natAbs ≤ 4 by omega) (by decide)) (Nat.lt_of_le_of_lt (show l.natAbs ≤ 10 ^ 31 by omega) (by decide)) (by decide) (by decide) (by decide)) ?_
              walk_at "rd"
              refine ⟨_, hw, Bar.szLt (by rw [List.length_map, rowP_len, List.length_take]; omega), fun a' o' e => ?_, ?_⟩
              · rw [upd_ne (ne_of_none e hW)]
                exact S3 _ _ e
              · rw [upd_same, List.take_add_one, en]
                unfold rowP
                rw [List.map_append, List.map_append]
                rfl
            · rintro H3 ⟨S3, hw⟩
              have nDW : W ≠ D := fun e => by
                rw [e, hd2] at hW
                cases hW
              rw [List.length_map, List.take_length] at hw
              walk_at "rd"
              refine ⟨D, W, _, _, rfl, rfl, S3 _ _ hd2, hw, ?_, ?_⟩
              · simp only [List.length_map, List.length_append, rowP_len]
                exact Nat.le_trans (show _ ≤ 680 by omega) (by decide)
              walk_at "rd"
              refine ⟨fun a' o' e => ?_, ?_, _, rfl⟩
              · rw [upd_ne (ne_of_none e hD)]
                exact S3 _ _ (S2 _ _ e)
              · rw [upd_same, ← List.map_append, List.append_assoc, List.range_succ, List.flatMap_append, List.flatMap_cons, List.flatMap_nil, List.append_nil]
          · rintro σ H2 ⟨S2, hd2, y2, rfl⟩
            walk_at "rd"
            exact ⟨S2, hd2, _, rfl⟩
      · rintro σ H2 ⟨S2, hd2, y2, rfl⟩
        obtain ⟨dx, g, tt, eq2, et2⟩ := cp.same S2
        walk_at "rd"
        refine ⟨q, dx, _, rfl, eq2, q, dx, z, g, o, r, tt, rfl, eq2, (fun l e => ?_), ?_⟩
        · obtain ⟨l1, l2, _⟩ := oc.ol l e
          exact (mul31 r1 r4 l1 l2).1
        cases o with
        | none =>
          walk_at "rd"
          refine ⟨S2, ?_, some (.ref q), y2, ?_⟩
          · rw [tk, e0]
            exact hd2
          · rw [tk, t0, tot1]
            rfl
        | some l =>
          walk_at "rd"
          refine ⟨S2, ?_, some (.ref q), y2, ?_⟩
          · rw [tk, e0]
            exact hd2
          · rw [tk, t0, tot1]
            rfl
    · rintro σ H1 ⟨S1, hd, y, u, rfl⟩
      rw [List.length_map, hcs.1, List.take_length] at hd
      walk_at "rd"
      refine ⟨D, _, rfl, .inl ⟨SqL.of hd, fun p hp => ?_⟩⟩
      refine k p _ ?_ (fun _ _ e => Bar.lkNew hp (S1 _ _ e)) upd_same
      cases e : H p with
      | none => rfl
      | some o' =>
        rw [S1 _ _ e] at hp
        cases hp
end
theorem twi_none : ∀ {us seen : List Str}, us.Nodup → (∀ u ∈ us, u ∉ seen) → twi seen us = none
  | [], _, _, _ => rfl
  | z :: r, seen, nd, h => by
    obtain ⟨n1, n2⟩ := List.nodup_cons.mp nd
    show (if z ∈ seen then some z else twi (seen ++ [z]) r) = none
    rw [if_neg (h z (List.mem_cons_self ..))]
    refine twi_none n2 fun u hu q => ?_
    rcases List.mem_append.mp q with q | q
    · exact h u (List.mem_cons_of_mem _ hu) q
    · rw [List.mem_singleton.mp q] at hu
      exact n1 hu
/-- a good ring -/
structure ROk (cs : List Dc) : Prop where
  ok : ∀ c ∈ cs, DOk c
  l1 : 1 ≤ cs.length
  l3 : cs.length ≤ 3
  one : ∀ c ∈ cs, c.o = none → cs.length = 1
  nd : (cs.map Dc.z).Nodup
def tkf (z : Str) (t : Addr) (per : Int) (pl : Addr) : List (Str × V) := [("name", .str z), ("clips", .ref t), ("period", .int per), ("places", .ref pl)]
structure TTxt (K : PySem.W.Frag) (C : Addr) : Prop where
  cl : Cls K C
  n1 : NoAttr K C "name"
  n2 : NoAttr K C "clips"
  n3 : NoAttr K C "period"
  n4 : NoAttr K C "places"
theorem CpAt.kp {K : PySem.W.Frag} {C CT q b dx : Addr} {H H' : Hp} {fs : List (Str × V)} {c : Dc} (k : Kp b H H') (hb : H b = some (.ins CT dx fs)) (n : q ≠ b) (h : CpAt K C H q c) : CpAt K C H' q c := by
  obtain ⟨dx, g, t, h1, h2⟩ := h
  exact ⟨dx, g, t, k _ _ n h1, h2.kp k hb fun _ e => by cases e⟩
theorem total_sum : ∀ cs : List Dc, total cs = (cs.map Dc.span).sum
  | [] => rfl
  | c :: r => by
    show c.span + total r = _
    rw [total_sum r, List.map_cons, List.sum_cons]

end Lw
namespace Lw
open PySem L2 Bar
theorem twi_mem : ∀ {us seen : List Str} {y : Str}, twi seen us = some y → y ∈ us
  | z :: r, seen, y, h => by
    have h : (if z ∈ seen then some z else twi (seen ++ [z]) r) = some y := h
    by_cases q : z ∈ seen
    · rw [if_pos q] at h
      cases h
      exact List.mem_cons_self ..
    · rw [if_neg q] at h
      exact List.mem_cons_of_mem _ (twi_mem h)


/-! ### tracks with all their errors -/
abbrev okText : V → Prop := fun v => ∃ z : Str, v = .str z ∧ z.length ≤ 100 ∧ ∀ c ∈ z.cps.toList, c < 16 ^ 8
structure TxOk (z : Str) : Prop where
  len : z.length ≤ 100
  small : ∀ c ∈ z.cps.toList, c < 16 ^ 8
theorem txName {z : Str} (h : nameB z = true) : TxOk z := ⟨by have := (name_len h).2; omega, name_small h⟩
theorem TxOk.ok {z : Str} (h : TxOk z) : okText (.str z) := ⟨z, rfl, h.len, h.small⟩
/-- what of a track is refused first -/
inductive KFlt where
  | name (z : Str)
  | none (z : Str)
  | many
  | empty (z : Str)
  | twice (z : Str)
structure EA where
  bn : Addr
  nc : Addr
  tm : Addr
  ec : Addr
  tw : Addr
def KFlt.cls (A : EA) : KFlt → Addr
  | .name _ => A.bn
  | .none _ => A.nc
  | .many => A.tm
  | .empty _ => A.ec
  | .twice _ => A.tw
def KFlt.fs : KFlt → List (Str × V)
  | .name z => [("name", .str z)]
  | .none z => [("name", .str z)]
  | .many => [("most", .int 3), ("kind", .str "clips")]
  | .empty z => [("name", .str z)]
  | .twice z => [("name", .str z)]
def voidC (cs : List Dc) : Option Str := (cs.find? fun c => c.o.isNone).map Dc.z
def ringF (z : Str) (cs : List Dc) : Option KFlt :=
  if cs.length = 0 then some (.none z) else if 3 < cs.length then some .many else
  match (if 1 < cs.length then voidC cs else Option.none) with
  | some y => some (.empty y)
  | Option.none => (twi [] (cs.map Dc.z)).map .twice
def trackF (z : Str) (cs : List Dc) : Option KFlt := if nameB z = false then some (.name z) else ringF z cs
theorem twi_nodup : ∀ {us seen : List Str}, twi seen us = none → us.Nodup ∧ ∀ u ∈ us, u ∉ seen
  | [], _, _ => ⟨List.nodup_nil, fun u hu => by cases hu⟩
  | z :: r, seen, h => by
    have h : (if z ∈ seen then some z else twi (seen ++ [z]) r) = none := h
    by_cases q : z ∈ seen
    · rw [if_pos q] at h
      cases h
    · rw [if_neg q] at h
      obtain ⟨a, b⟩ := twi_nodup h
      refine ⟨List.nodup_cons.mpr ⟨fun m => b z m (List.mem_append_right _ (List.mem_singleton.mpr rfl)), a⟩, fun u hu => ?_⟩
      rcases List.mem_cons.mp hu with e | hu
      · rw [e]
        exact q
      · exact fun m => b u hu (List.mem_append_left _ m)
theorem voidC_none {cs : List Dc} (h : voidC cs = none) : ∀ c ∈ cs, c.o ≠ none := fun c hc e => by
  unfold voidC at h
  have h := List.find?_eq_none.mp (Option.map_eq_none_iff.mp h) c hc
  rw [e] at h
  exact h rfl
theorem ring_ok {z : Str} {cs : List Dc} (ok : ∀ c ∈ cs, DOk c) (h : ringF z cs = none) : ROk cs := by
  unfold ringF at h
  by_cases h0 : cs.length = 0
  · rw [if_pos h0] at h
    cases h
  rw [if_neg h0] at h
  by_cases h3 : 3 < cs.length
  · rw [if_pos h3] at h
    cases h
  rw [if_neg h3] at h
  cases e : (if 1 < cs.length then voidC cs else none) with
  | some y =>
    rw [e] at h
    cases h
  | none =>
    rw [e] at h
    have nd := (twi_nodup (Option.map_eq_none_iff.mp h)).1
    refine ⟨ok, by omega, by omega, fun c hc ec => ?_, nd⟩
    by_cases h1 : 1 < cs.length
    · rw [if_pos h1] at e
      exact absurd ec (voidC_none e c hc)
    · omega
theorem ok_ring0 {z : Str} {cs : List Dc} (ok : ROk cs) : ringF z cs = none := by
  have a := ok.l1
  have b := ok.l3
  unfold ringF
  rw [if_neg (by omega), if_neg (by omega)]
  have e : (if 1 < cs.length then voidC cs else none) = none := by
    by_cases h1 : 1 < cs.length
    · rw [if_pos h1]
      unfold voidC
      rw [List.find?_eq_none.mpr fun c hc q => ?_]
      · rfl
      · have e : c.o = none := Option.isNone_iff_eq_none.mp q
        have := ok.one c hc e
        omega
    · exact if_neg h1
  rw [e]
  show (twi [] _).map _ = none
  rw [twi_none ok.nd fun _ _ q => by cases q]
  rfl
theorem ok_track0 {z : Str} {cs : List Dc} (nz : nameB z = true) (ok : ROk cs) : trackF z cs = none := by
  unfold trackF
  rw [nz, if_neg (by decide)]
  exact ok_ring0 ok
def spRingX (K : PySem.W.Frag) (C : Addr) (A : EA) : Sp := fun vs H Q E => ∃ (t : Addr) (z : Str) (qs : List Addr) (cs : List Dc), vs = [.str z, .ref t] ∧ SqT K H t (qs.map V.ref) ∧ All2 (CpAt K C H) qs cs ∧ cs.length ≤ 9 ∧ nameB z = true ∧ (∀ c ∈ cs, nameB c.z = true) ∧
  (ringF z cs = none → ∀ H', Same H H' → Q .non H') ∧ (∀ e, ringF z cs = some e → ∀ d H', H d = none → Same H H' → H' d = some (.xd e.fs) → E (.ref (e.cls A)) (some d) H')
def spTrackX (K : PySem.W.Frag) (CC CT : Addr) (A : EA) : Sp := fun vs H Q E => ∃ (x dx t : Addr) (z : Str) (qs : List Addr) (cs : List Dc), vs = [.ref x, .str z, .ref t] ∧ H x = some (.ins CT dx []) ∧ TxOk z ∧ H t = some (.tup (qs.map V.ref)) ∧ All2 (CpAt K CC H) qs cs ∧ cs.length ≤ 9 ∧ (∀ c ∈ cs, DOk c) ∧
  (trackF z cs = none → ∀ pl H', Kp x H H' → H' x = some (.ins CT dx (tkf z t (total cs) pl)) → H' pl = some (.tup ((places 0 cs).map V.int)) → Q .non H') ∧
  (∀ e, trackF z cs = some e → ∀ d H', H d = none → Same H H' → H' d = some (.xd e.fs) → E (.ref (e.cls A)) (some d) H')
abbrev okTM : V → V → Prop := fun v u => v = .str "clips" ∧ u = .int 3
/-- what is in a list of texts -/
def spTrackIn (K : PySem.W.Frag) (CC CT : Addr) : Sp := fun vs H Q _ => ∃ (x dx t pl : Addr) (z y : Str) (per : Int) (qs : List Addr) (cs : List Dc), vs = [.ref x, .str y] ∧ H x = some (.ins CT dx (tkf z t per pl)) ∧ H t = some (.tup (qs.map V.ref)) ∧ All2 (CpAt K CC H) qs cs ∧ cs.length ≤ 100 ∧ ∀ H', Same H H' → Q (.bl (decide (y ∈ cs.map Dc.z))) H'
instance {y : Str} {H : Hp} {Q : VK} : Bar.Rd (rNotNone (sV (some y)) .non H Q) (Q (.bl true) H) := ⟨fun h => ⟨rfl, h⟩⟩
section
variable {P : Program} {w : World} {K : PySem.W.Frag} {mg : Str → Option Value} {base : Heap}
theorem ok_eNoClips {f C CB : Addr} {fd : FuncData} (F : Fun K "__init__" "NoClips.__init__" s_NoClips___init__ f fd) (eb : EBase K mg "BarclipsError" CB) (O : OexC K C) (no : PySem.W.findIn K (.ref C) "name" = some none) : FnOk P w K mg base CX0 1 f fd P_NoClips___init__ (spErr1 C "name" okText) := by
  refine F.ok sc_NoClips___init__ (fun vs H Q E h => ?_) (fun cdv A outer s H vs Q E hr h => ?_)
  · obtain ⟨a, v, rfl, _⟩ := h
    rfl
  · obtain ⟨a, v, rfl, ha, ⟨z, rfl, lz, cz⟩, k⟩ := h
    have lr : (reprText z).length ≤ 1002 := by
      have := PySem.StrLaws.reprText_len z cz
      omega
    refine ⟨_, (pss_cons (ps_expr (pe_baseInit eb rfl (pa_cons (pv 0) (pa_cons (pe_joined (PJ.cons pe_str (PJ.cons (pe_fmtR (pv 1)) PJ.nil))) pa_nil))))
    (pss_one (ps_ost (pv 0) (pv 1) rfl))), ?_⟩
    refine Bar.rStart (σ := [some (.ref a), some (.str z)]) rfl ?_
    walk_at "rd"
    refine ⟨"a track without a clip: ", rfl, by decide +kernel, ?_⟩
    refine ⟨_, rfl, .inl ⟨z, rfl, Nat.le_trans lr (by decide), ?_⟩⟩
    refine ⟨reprText z, rfl, ?_, ?_⟩
    · rw [len_cps, cat_cps, List.length_append]
      have e1 : (reprText z).cps.toList.length ≤ 1002 := lr
      have e2 : ((Str.empty ++ ("a track without a clip: " : Str)) : Str).cps.toList.length ≤ 100 := by decide +kernel
      exact Nat.le_trans (show _ ≤ 1102 by omega) (by decide)
    walk_at "rd"
    refine ⟨a, C, _, rfl, (by show 1 ≤ 1000; decide), O, ha, ?_⟩
    walk_at "rd"
    refine ⟨a, C, rfl, O, no, .inl ⟨ha, fun d hd ne => ?_⟩⟩
    walk_at "rd"
    exact k d hd ne
theorem ok_eEmptyClip {f C CB : Addr} {fd : FuncData} (F : Fun K "__init__" "EmptyClip.__init__" s_EmptyClip___init__ f fd) (eb : EBase K mg "BarclipsError" CB) (O : OexC K C) (no : PySem.W.findIn K (.ref C) "name" = some none) : FnOk P w K mg base CX0 1 f fd P_EmptyClip___init__ (spErr1 C "name" okText) := by
  refine F.ok sc_EmptyClip___init__ (fun vs H Q E h => ?_) (fun cdv A outer s H vs Q E hr h => ?_)
  · obtain ⟨a, v, rfl, _⟩ := h
    rfl
  · obtain ⟨a, v, rfl, ha, ⟨z, rfl, lz, cz⟩, k⟩ := h
    have lr : (reprText z).length ≤ 1002 := by
      have := PySem.StrLaws.reprText_len z cz
      omega
    refine ⟨_, (pss_cons (ps_expr (pe_baseInit eb rfl (pa_cons (pv 0) (pa_cons (pe_joined (PJ.cons pe_str (PJ.cons (pe_fmtR (pv 1)) PJ.nil))) pa_nil))))
    (pss_one (ps_ost (pv 0) (pv 1) rfl))), ?_⟩
    refine Bar.rStart (σ := [some (.ref a), some (.str z)]) rfl ?_
    walk_at "rd"
    refine ⟨"an empty clip: ", rfl, by decide +kernel, ?_⟩
    refine ⟨_, rfl, .inl ⟨z, rfl, Nat.le_trans lr (by decide), ?_⟩⟩
    refine ⟨reprText z, rfl, ?_, ?_⟩
    · rw [len_cps, cat_cps, List.length_append]
      have e1 : (reprText z).cps.toList.length ≤ 1002 := lr
      have e2 : ((Str.empty ++ ("an empty clip: " : Str)) : Str).cps.toList.length ≤ 100 := by decide +kernel
      exact Nat.le_trans (show _ ≤ 1102 by omega) (by decide)
    walk_at "rd"
    refine ⟨a, C, _, rfl, (by show 1 ≤ 1000; decide), O, ha, ?_⟩
    walk_at "rd"
    refine ⟨a, C, rfl, O, no, .inl ⟨ha, fun d hd ne => ?_⟩⟩
    walk_at "rd"
    exact k d hd ne
theorem ok_eTwice {f C CB : Addr} {fd : FuncData} (F : Fun K "__init__" "Twice.__init__" s_Twice___init__ f fd) (eb : EBase K mg "BarclipsError" CB) (O : OexC K C) (no : PySem.W.findIn K (.ref C) "name" = some none) : FnOk P w K mg base CX0 1 f fd P_Twice___init__ (spErr1 C "name" okText) := by
  refine F.ok sc_Twice___init__ (fun vs H Q E h => ?_) (fun cdv A outer s H vs Q E hr h => ?_)
  · obtain ⟨a, v, rfl, _⟩ := h
    rfl
  · obtain ⟨a, v, rfl, ha, ⟨z, rfl, lz, cz⟩, k⟩ := h
    have lr : (reprText z).length ≤ 1002 := by
      have := PySem.StrLaws.reprText_len z cz
      omega
    refine ⟨_, (pss_cons (ps_expr (pe_baseInit eb rfl (pa_cons (pv 0) (pa_cons (pe_joined (PJ.cons pe_str (PJ.cons (pe_fmtR (pv 1)) PJ.nil))) pa_nil))))
    (pss_one (ps_ost (pv 0) (pv 1) rfl))), ?_⟩
    refine Bar.rStart (σ := [some (.ref a), some (.str z)]) rfl ?_
    walk_at "rd"
    refine ⟨"a name that occurs twice: ", rfl, by decide +kernel, ?_⟩
    refine ⟨_, rfl, .inl ⟨z, rfl, Nat.le_trans lr (by decide), ?_⟩⟩
    refine ⟨reprText z, rfl, ?_, ?_⟩
    · rw [len_cps, cat_cps, List.length_append]
      have e1 : (reprText z).cps.toList.length ≤ 1002 := lr
      have e2 : ((Str.empty ++ ("a name that occurs twice: " : Str)) : Str).cps.toList.length ≤ 100 := by decide +kernel
      exact Nat.le_trans (show _ ≤ 1102 by omega) (by decide)
    walk_at "rd"
    refine ⟨a, C, _, rfl, (by show 1 ≤ 1000; decide), O, ha, ?_⟩
    walk_at "rd"
    refine ⟨a, C, rfl, O, no, .inl ⟨ha, fun d hd ne => ?_⟩⟩
    walk_at "rd"
    exact k d hd ne
theorem ok_eUnknown {f C CB : Addr} {fd : FuncData} (F : Fun K "__init__" "Unknown.__init__" s_Unknown___init__ f fd) (eb : EBase K mg "BarclipsError" CB) (O : OexC K C) (no : PySem.W.findIn K (.ref C) "name" = some none) : FnOk P w K mg base CX0 1 f fd P_Unknown___init__ (spErr1 C "name" okText) := by
  refine F.ok sc_Unknown___init__ (fun vs H Q E h => ?_) (fun cdv A outer s H vs Q E hr h => ?_)
  · obtain ⟨a, v, rfl, _⟩ := h
    rfl
  · obtain ⟨a, v, rfl, ha, ⟨z, rfl, lz, cz⟩, k⟩ := h
    have lr : (reprText z).length ≤ 1002 := by
      have := PySem.StrLaws.reprText_len z cz
      omega
    refine ⟨_, (pss_cons (ps_expr (pe_baseInit eb rfl (pa_cons (pv 0) (pa_cons (pe_joined (PJ.cons pe_str (PJ.cons (pe_fmtR (pv 1)) PJ.nil))) pa_nil))))
    (pss_one (ps_ost (pv 0) (pv 1) rfl))), ?_⟩
    refine Bar.rStart (σ := [some (.ref a), some (.str z)]) rfl ?_
    walk_at "rd"
    refine ⟨"an unknown name: ", rfl, by decide +kernel, ?_⟩
    refine ⟨_, rfl, .inl ⟨z, rfl, Nat.le_trans lr (by decide), ?_⟩⟩
    refine ⟨reprText z, rfl, ?_, ?_⟩
    · rw [len_cps, cat_cps, List.length_append]
      have e1 : (reprText z).cps.toList.length ≤ 1002 := lr
      have e2 : ((Str.empty ++ ("an unknown name: " : Str)) : Str).cps.toList.length ≤ 100 := by decide +kernel
      exact Nat.le_trans (show _ ≤ 1102 by omega) (by decide)
    walk_at "rd"
    refine ⟨a, C, _, rfl, (by show 1 ≤ 1000; decide), O, ha, ?_⟩
    walk_at "rd"
    refine ⟨a, C, rfl, O, no, .inl ⟨ha, fun d hd ne => ?_⟩⟩
    walk_at "rd"
    exact k d hd ne
theorem ok_eTM {f C CB : Addr} {fd : FuncData} (F : Fun K "__init__" "TooMany.__init__" s_TooMany___init__ f fd) (eb : EBase K mg "BarclipsError" CB) (O : OexC K C) (no1 : PySem.W.findIn K (.ref C) "kind" = some none) (no2 : PySem.W.findIn K (.ref C) "most" = some none) : FnOk P w K mg base CX0 1 f fd P_TooMany___init__ (spErr2 C "kind" "most" okTM) := by
  refine F.ok sc_TooMany___init__ (fun vs H Q E h => ?_) (fun cdv A outer s H vs Q E hr h => ?_)
  · obtain ⟨a, v, u, rfl, _⟩ := h
    rfl
  · obtain ⟨a, v, u, rfl, ha, ⟨rfl, rfl⟩, k⟩ := h
    refine ⟨_, (pss_cons (ps_expr (pe_baseInit eb rfl (pa_cons (pv 0) (pa_cons (pe_joined (PJ.cons pe_str (PJ.cons (pe_fmt (pv 1)) (PJ.cons pe_str (PJ.cons (pe_fmt (pv 2)) PJ.nil))))) pa_nil))))
    (pss_cons (ps_ost (pv 0) (pv 1) rfl)
    (pss_one (ps_ost (pv 0) (pv 2) rfl)))), ?_⟩
    refine Bar.rStart (σ := [some (.ref a), some (.str "clips"), some (.int 3)]) rfl ?_
    walk_at "rd"
    refine ⟨"more ", rfl, by decide +kernel, ?_⟩
    refine ⟨_, rfl, .inl ⟨"clips", rfl, by decide +kernel, ?_⟩⟩
    refine ⟨"clips", rfl, by decide +kernel, ?_⟩
    refine ⟨" than ", rfl, by decide +kernel, ?_⟩
    refine ⟨_, rfl, .inr ⟨3, rfl, by decide, ?_⟩⟩
    refine ⟨_, rfl, by decide +kernel, ?_⟩
    walk_at "rd"
    refine ⟨a, C, _, rfl, by decide, O, ha, ?_⟩
    walk_at "rd"
    refine ⟨a, C, rfl, O, no1, .inl ⟨ha, fun d hd ne => ?_⟩⟩
    walk_at "rd"
    refine ⟨a, C, rfl, O, no2, .inr ⟨d, _, upd_same, (upd_ne ne).trans upd_same, by simp, ?_⟩⟩
    walk_at "rd"
    exact k d hd ne
theorem find_first {cs : List Dc} {i : Nat} {c : Dc} (hc : cs[i]? = some c) (ec : c.o = none) (h : ∀ d ∈ cs.take i, d.o ≠ none) : voidC cs = some c.z := by
  unfold voidC
  have e : cs = cs.take i ++ c :: cs.drop (i + 1) := by
    have il := (List.getElem?_eq_some_iff.mp hc).1
    have e1 : cs.drop i = c :: cs.drop (i + 1) := by
      rw [List.drop_eq_getElem_cons il]
      congr 1
      exact (List.getElem?_eq_some_iff.mp hc).2
    rw [← e1, List.take_append_drop]
  have f1 : (cs.take i).find? (fun c => c.o.isNone) = none := List.find?_eq_none.mpr fun d hd q => h d hd (Option.isNone_iff_eq_none.mp q)
  rw [e, List.find?_append, f1, List.find?_cons_of_pos (by rw [ec]; rfl)]
  rfl
theorem ring_pos {z : Str} {cs : List Dc} (h : 0 < cs.length) (h3 : cs.length ≤ 3) : ringF z cs = match (if 1 < cs.length then voidC cs else Option.none) with
  | some y => some (.empty y)
  | Option.none => (twi [] (cs.map Dc.z)).map .twice := by
  unfold ringF
  rw [if_neg (by omega), if_neg (by omega)]
theorem ok_ringX {f C C_Track CNC CTM CEC CTW CBN : Addr} {fd : FuncData} {mc : Value} {tkv : Tok} (F : Fun K "check_ring" "check_ring" s_check_ring f fd) (T : Txt mg) (G : CTxt K C) (g_Track : mg "Track" = some (.ref C_Track)) (cr : ClX.CRead K C_Track mc) (cv : ClX.CVal K C_Track mc "CLIPS" (.int 3) (.int 3 tkv)) (ffirst_twice : Fn P w K mg base "first_twice" P_first_twice [] 1 (spTwice K))
    (er_NoClips : Err P w K mg base "NoClips" CNC P_NoClips___init__ 1 (spErr1 CNC "name" okText)) (er_TooMany : Err P w K mg base "TooMany" CTM P_TooMany___init__ 1 (spErr2 CTM "kind" "most" okTM)) (er_EmptyClip : Err P w K mg base "EmptyClip" CEC P_EmptyClip___init__ 1 (spErr1 CEC "name" okText)) (er_Twice : Err P w K mg base "Twice" CTW P_Twice___init__ 1 (spErr1 CTW "name" okText)) :
    FnOk P w K mg base (L2.CX P w) 3 f fd P_check_ring (spRingX K C ⟨CBN, CNC, CTM, CEC, CTW⟩) := by
  refine F.okX sc_check_ring (fun vs H Q E h => ?_) (fun cdv A outer s H vs Q E hr h => ?_)
  · obtain ⟨t, z, qs, cs, rfl, _⟩ := h
    rfl
  · obtain ⟨t, z, qs, cs, rfl, ht, hcs, l9, nz, ncs, k, ke⟩ := h
    have lq := hcs.1
    have htS : ∀ {H' : Hp}, Same H H' → SqT K H' t (qs.map V.ref) := fun S => by
      rcases ht with (h | ⟨o, h⟩) | h
      · exact .inl (.inl (S _ _ h))
      · exact .inl (.inr ⟨o, S _ _ h⟩)
      · exact .inr h
    refine ⟨_, (pss_cons (ps_if (pt_cmpR op_eq (pe_callB c_len rfl T.b_len PySem.boot_len (pa_cons (pv 1) pa_nil)) pe_int (nomark _)) (pss_one (ps_raise rfl (takes_of rfl rfl rfl rfl) (pmk_err er_NoClips (hr.mono (by omega)) rfl (pa_cons (pv 0) pa_nil)))) pss_nil)
    (pss_cons (ps_if (pt_cmpR op_gt (pe_callB c_len rfl T.b_len PySem.boot_len (pa_cons (pv 1) pa_nil)) (ClX.pe_cval (pe_glob (v := .ref C_Track) rfl g_Track rfl)) (nomark _)) (pss_one (ps_raise rfl (takes_of rfl rfl rfl rfl) (pmk_err er_TooMany (hr.mono (by omega)) rfl (pa_cons pe_str (pa_cons (ClX.pe_cval (pe_glob (v := .ref C_Track) rfl g_Track rfl)) pa_nil))))) pss_nil)
    (pss_cons (ps_for PassesOwn.leaving rfl  (pi_tup (pv 1)) (pg_name (i := 2) sc_check_ring.nd rfl (Or.inl rfl)) (pss_one (ps_if (PW.pt (pw_and (pt_cmpR o_isN (pe_fld (pv 2) rfl) pe_non (nomark _)) (pw_and1 (pt_cmpR op_gt (pe_callB c_len rfl T.b_len PySem.boot_len (pa_cons (pv 1) pa_nil)) pe_int (nomark _))))) (pss_one (ps_raise rfl (takes_of rfl rfl rfl rfl) (pmk_err er_EmptyClip (hr.mono (by omega)) rfl (pa_cons (pe_fld (pv 2) rfl) pa_nil)))) pss_nil)))
    (pss_cons (ps_set (i := 3) sc_check_ring.nd rfl (Or.inl rfl) (pe_fn ffirst_twice (hr.mono (by omega)) rfl (pa_cons (pe_lc (own := [("clip", 2)]) (g := gName 2) rfl sc_check_ring.nd (pi_tup (pv 1)) (blkOk_by (own := [("clip", 2)]) (N := N_check_ring) (sc := defScope s_check_ring) (by decide +kernel)) (fun _ _ _ _ _ => pg_name (i := 2) sc_check_ring.nd rfl (Or.inl rfl)) (fun _ _ _ _ _ => pts_nil) (fun _ _ _ _ _ => (pe_fldK (K := K) (pv 2) rfl rfl))) pa_nil)))
    (pss_one (ps_if (pt_cmpR o_notN (pv 3) pe_non (nomark _)) (pss_one (ps_raise rfl (takes_of rfl rfl rfl rfl) (pmk_err er_Twice (hr.mono (by omega)) rfl (pa_cons (pv 3) pa_nil)))) pss_nil)))))), ?_⟩
    refine Bar.rStart (σ := [some (.str z), some (.ref t), none, none]) rfl ?_
    walk_at "rd"
    refine ite2 (fun h => ?_) (fun h => ?_)
    · have e0 : cs.length = 0 := by
        have := of_decide_eq_true h
        rw [List.length_map] at this
        omega
      have er : ringF z cs = some (.none z) := if_pos e0
      walk_at "rd"
      exact rErr1 (txName nz).ok fun d H' hd S e => ke _ er d H' hd S e
    have n0 : 0 < cs.length := by
      rcases Nat.eq_zero_or_pos cs.length with e | e
      · exact absurd (decide_eq_true (by rw [List.length_map, lq, e]; rfl)) h
      · exact e
    walk_at "rd"
    refine ⟨C_Track, mc, _, _, rfl, cr, cv, ?_⟩
    walk_at "rd"
    refine ite2 (fun h => ?_) (fun h => ?_)
    · have e3 : 3 < cs.length := by
        have := of_decide_eq_true h
        rw [List.length_map] at this
        omega
      have er : ringF z cs = some .many := by
        unfold ringF
        rw [if_neg (by omega), if_pos e3]
      walk_at "rd"
      refine ⟨C_Track, mc, _, _, rfl, cr, cv, ?_⟩
      walk_at "rd"
      exact rErr2 ⟨rfl, rfl⟩ fun d H' hd S e => ke _ er d H' hd S e
    have l3 : cs.length ≤ 3 := by
      by_cases q : cs.length ≤ 3
      · exact q
      · exact absurd (decide_eq_true (by rw [List.length_map, lq]; omega)) h
    have er := ring_pos (z := z) n0 l3
    walk_at "rd"
    refine Bar.forT (xs := qs.map V.ref) (fun i σ H' => H' = H ∧ (1 < cs.length → ∀ c ∈ cs.take i, c.o ≠ none) ∧ ∃ x, σ = [some (.str z), some (.ref t), x, none]) ht ⟨rfl, (fun _ c hc => by cases hc), _, rfl⟩ (fun i σ H2 _ ⟨e, _⟩ => by rw [e]; exact ht) ?_ ?_
    · rintro i x σ H1 hx ⟨rfl, hv, y, rfl⟩
      have hi : i < qs.length := by have := (List.getElem?_eq_some_iff.mp hx).1; rwa [List.length_map] at this
      obtain ⟨q, c, hq, hc, cp⟩ := hcs.at hi
      have ex : x = .ref q := by
        rw [List.getElem?_map, hq] at hx
        exact (Option.some.inj hx).symm
      subst ex
      obtain ⟨dx, g, tt, eq, et⟩ := cp
      have cm := List.mem_of_getElem? hc
      have nc := ncs c cm
      have tk : cs.take (i + 1) = cs.take i ++ [c] := by rw [List.take_add_one, hc]; rfl
      have ff := fun ec h => find_first hc ec h
      obtain ⟨cz, st, off, o, r, ns⟩ := c
      walk_at "rd"
      refine Bar.rFldV eq G.cl G.n3 rfl ?_
      cases o with
      | none =>
        walk_at "rd"
        refine ite2 (fun h => ?_) (fun h => ?_)
        · have h1 : 1 < cs.length := by
            have := of_decide_eq_true h
            rw [List.length_map] at this
            omega
          rw [if_pos h1, ff rfl (hv h1)] at er
          walk_at "rd"
          refine Bar.rFldV eq G.cl G.n1 rfl ?_
          walk_at "rd"
          exact rErr1 (txName nc).ok fun d H' hd S e => ke _ er d H' hd S e
        · have h1 : ¬ 1 < cs.length := fun q => h (decide_eq_true (by rw [List.length_map, lq]; omega))
          walk_at "rd"
          exact ⟨rfl, fun q => absurd q h1, _, rfl⟩
      | some l =>
        walk_at "rd"
        refine ⟨rfl, fun h1 c hc => ?_, _, rfl⟩
        rw [tk] at hc
        rcases List.mem_append.mp hc with q | q
        · exact hv h1 c q
        · rw [List.mem_singleton.mp q]
          intro z
          cases z
    rintro σ H1 ⟨rfl, hv, y, rfl⟩
    rw [List.length_map, lq, List.take_length] at hv
    have ev : (if 1 < cs.length then voidC cs else Option.none) = none := by
      by_cases h1 : 1 < cs.length
      · rw [if_pos h1]
        unfold voidC
        rw [List.find?_eq_none.mpr fun c hc q => hv h1 c hc (Option.isNone_iff_eq_none.mp q)]
        rfl
      · exact if_neg h1
    rw [ev] at er
    have er : ringF z cs = (twi [] (cs.map Dc.z)).map .twice := er
    walk_at "rd"
    refine Bar.lcT (τ := [some (.str z), some (.ref t), none, none]) rfl ht fun D hD => ⟨fun i H' => Same H1 H' ∧ H' D = some (.lst (((cs.take i).map Dc.z).map V.str)), ⟨fun _ _ e => Bar.lkNew hD e, upd_same⟩, fun i H' _ ⟨S, _⟩ => htS S, ?_, ?_⟩
    · rintro i x H2 hx ⟨S2, hd⟩
      have hi : i < qs.length := by have := (List.getElem?_eq_some_iff.mp hx).1; rwa [List.length_map] at this
      obtain ⟨q, c, hq, hc, cp⟩ := hcs.at hi
      have ex : x = .ref q := by
        rw [List.getElem?_map, hq] at hx
        exact (Option.some.inj hx).symm
      subst ex
      obtain ⟨dx, g, tt, eq, et⟩ := cp.same S2
      walk_at "rd"
      refine ⟨rfl, ?_⟩
      walk_at "rd"
      refine Bar.rFldV eq G.cl G.n1 rfl ?_
      refine ⟨_, hd, Bar.szLt (by rw [List.length_map, List.length_map, List.length_take]; omega), fun a' o' e => ?_, ?_⟩
      · rw [upd_ne (ne_of_none e hD)]
        exact S2 _ _ e
      · rw [upd_same, List.take_add_one, hc, List.map_append, List.map_append]
        rfl
    · rintro H2 ⟨S2, hd⟩
      rw [List.length_map, lq, List.take_length] at hd
      walk_at "rd"
      refine ⟨D, cs.map Dc.z, rfl, .inl hd, by rw [List.length_map]; omega, fun H3 S3 => ?_⟩
      have S13 : Same H1 H3 := fun _ _ e => S3 _ _ (S2 _ _ e)
      cases et : twi [] (cs.map Dc.z) with
      | none =>
        rw [et] at er
        walk_at "rd"
        exact k er _ S13
      | some u =>
        rw [et] at er
        have ou : okText (.str u) := by
          obtain ⟨c, hc, e⟩ := List.mem_map.mp (twi_mem et)
          rw [← e]
          exact (txName (ncs c hc)).ok
        walk_at "rd"
        have ke' : ∀ d H', H1 d = none → Same H1 H' → H' d = some (.xd [("name", .str u)]) → E (.ref CTW) (some d) H' := ke _ er
        refine rErr1 ou fun d H' hd' S e => ke' d H' ?_ (fun _ _ y => S _ _ (S13 _ _ y)) e
        cases q : H1 d with
        | none => rfl
        | some o =>
          rw [S13 _ _ q] at hd'
          cases hd'
theorem ok_trackX {f CC CT CBN : Addr} {A : EA} {fd : FuncData} (F : Fun K "__init__" "Track.__init__" s_Track___init__ f fd) (T : Txt mg) (GT : TTxt K CT) (eA : A.bn = CBN) (pr_Clip_span : PrpF P w K mg base CC "span" P_Clip_span 1 (spSpan CC)) (fis_name : Fn P w K mg base "is_name" P_is_name [] 1 spIsName) (fxcheck_ring : FnX P w K mg base "check_ring" P_check_ring [] 3 (spRingX K CC A)) (fguarded_places : Fn P w K mg base "guarded_places" P_guarded_places [] 3 (spGP K CC))
    (er_BadName : Err P w K mg base "BadName" CBN P_BadName___init__ 1 (spErr1 CBN "name" (fun v => ∃ z : Str, v = .str z ∧ z.length ≤ 100 ∧ ∀ c ∈ z.cps.toList, c < 16 ^ 8))) : FnR P w K mg base (L2.CX P w) 5 f (spRest (spTrackX K CC CT A)) := by
  subst eA
  refine okStar F sc_Track___init__ (fun _ _ _ _ _ _ _ _ => rfl) (fun _ _ _ _ _ _ _ _ _ _ => rfl) fun cdv A' outer s H vs Q E hr h => ?_
  obtain ⟨x, dx, t, z, qs, cs, rfl, hx, oz, ht, hcs, l9, okc, k, ke⟩ := h
  have lq := hcs.1
  have tx : t ≠ x := ne_of ht hx (by intro e; cases e)
  refine ⟨_, (pss_cons (ps_if (pt_not (pt_val (pe_fn fis_name (hr.mono (by omega)) rfl (pa_cons (pv 1) pa_nil)))) (pss_one (ps_raise rfl (takes_of rfl rfl rfl rfl) (pmk_err er_BadName (hr.mono (by omega)) rfl (pa_cons (pv 1) pa_nil)))) pss_nil)
    (pss_cons (ps_expr (pe_fnX fxcheck_ring (takes_of rfl rfl rfl rfl) (hr.mono (by omega)) rfl (pa_cons (pv 1) (pa_cons (pv 2) pa_nil))))
    (pss_cons (ps_fld (pv 0) (pv 1) rfl)
    (pss_cons (ps_fld (pv 0) (pv 2) rfl)
    (pss_cons (ps_fld (pv 0) (pe_callB (cr_sum rfl) rfl T.b_sum (by decide +kernel) (pa_cons (pe_lc (own := [("clip", 3)]) (g := gName 3) rfl sc_Track___init__.nd (pi_tup (pv 2)) (blkOk_by (own := [("clip", 3)]) (N := N_Track___init__) (sc := defScope s_Track___init__) (by decide +kernel)) (fun _ _ _ _ _ => pg_name (i := 3) sc_Track___init__.nd rfl (Or.inl rfl)) (fun _ _ _ _ _ => pts_nil) (fun _ _ _ _ _ => (pe_prp pr_Clip_span (hr.mono (by omega)) (pv 3) rfl))) pa_nil)) rfl)
    (pss_one (ps_fld (pv 0) (pe_fn fguarded_places (hr.mono (by omega)) rfl (pa_cons (pv 2) pa_nil)) rfl))))))), ?_⟩
  refine Bar.rStart (σ := [some (.ref x), some (.str z), some (.ref t), none]) rfl ?_
  walk_at "rd"
  refine ⟨z, rfl, by have := oz.len; omega, fun H1 S1 => ?_⟩
  cases nz : nameB z with
  | false =>
    have er : trackF z cs = some (.name z) := if_pos nz
    walk_at "rd"
    refine rErr1 oz.ok fun d H' hd S e => ke _ er d H' ?_ (fun _ _ y => S _ _ (S1 _ _ y)) e
    cases q : H d with
    | none => rfl
    | some o =>
      rw [S1 _ _ q] at hd
      cases hd
  | true =>
  have et : trackF z cs = ringF z cs := if_neg (by rw [nz]; decide)
  rw [et] at k ke
  walk_at "rd"
  refine ⟨t, z, qs, cs, rfl, SqT.of (S1 _ _ ht), hcs.to fun _ _ h => h.same S1, l9, nz, fun c hc => (okc c hc).nm, fun er H2 S2 => ?_, fun e er d H' hd S eh => ke e er d H' ?_ (fun _ _ y => S _ _ (S1 _ _ y)) eh⟩
  · have S02 : Same H H2 := fun _ _ e => S2 _ _ (S1 _ _ e)
    have ok := ring_ok okc er
    have k := k er
    have l3 := ok.l3
    have hx2 := S02 _ _ hx
    have ht2 := S02 _ _ ht
    have hc2 := hcs.to fun _ _ h => h.same S02
    clear S1 S2 er ke
    have qx : ∀ (i : Nat) q, qs[i]? = some q → q ≠ x := fun i q hq => by
      obtain ⟨q', c, hq', hc, dx', g, tt, eq, _⟩ := hc2.at (List.getElem?_eq_some_iff.mp hq).1
      rw [hq] at hq'
      cases hq'
      exact ne_of eq hx2 (by intro e; cases HO.ins.inj e |>.2.2)
    walk_at "rd"
    refine ⟨x, CT, dx, [], rfl, hx2, GT.cl, GT.n1, by decide, ?_⟩
    walk_at "rd"
    refine ⟨x, CT, dx, _, rfl, upd_same, GT.cl, GT.n2, (by show 1 < 1000; decide), ?_⟩
    walk_at "rd"
    have ht3 : (upd (upd H2 x (.ins CT dx (putF ("name" : Str) (.str z) []))) x (.ins CT dx (putF ("clips" : Str) (.ref t) (putF ("name" : Str) (.str z) [])))) t = some (.tup (qs.map V.ref)) := Bar.lkNe tx (Bar.lkNe tx ht2)
    have hx3 : (upd (upd H2 x (.ins CT dx (putF ("name" : Str) (.str z) []))) x (.ins CT dx (putF ("clips" : Str) (.ref t) (putF ("name" : Str) (.str z) [])))) x = some (.ins CT dx [("name", .str z), ("clips", .ref t)]) := upd_same
    have K3 : Kp x H2 (upd (upd H2 x (.ins CT dx (putF ("name" : Str) (.str z) []))) x (.ins CT dx (putF ("clips" : Str) (.ref t) (putF ("name" : Str) (.str z) [])))) := Kp.upd.trans Kp.upd
    generalize (upd (upd H2 x (.ins CT dx (putF ("name" : Str) (.str z) []))) x (.ins CT dx (putF ("clips" : Str) (.ref t) (putF ("name" : Str) (.str z) [])))) = H3 at ht3 hx3 K3 ⊢
    have hc3 : All2 (CpAt K CC H3) qs cs := ⟨hc2.1, fun i q c a b => (hc2.2 i q c a b).kp K3 hx2 (qx i q a)⟩
    have K03 : Kp x H H3 := (Kp.of_same S02).trans K3
    clear hc2 ht2 hx2 K3 S02 qx
    refine Bar.lcT (τ := [some (.ref x), some (.str z), some (.ref t), none]) rfl (SqT.of ht3) fun D hD => ⟨fun i H' => Same H3 H' ∧ H' D = some (.lst (((cs.take i).map Dc.span).map V.int)), ⟨fun _ _ e => Bar.lkNew hD e, upd_same⟩, fun i H' _ ⟨S, _⟩ => SqT.of (S _ _ ht3), ?_, ?_⟩
    · rintro i v H4 hv ⟨S4, hd⟩
      have hi : i < qs.length := by have := (List.getElem?_eq_some_iff.mp hv).1; rwa [List.length_map] at this
      obtain ⟨q, c, hq, hc, cp⟩ := hc3.at hi
      have ex : v = .ref q := by
        rw [List.getElem?_map, hq] at hv
        exact (Option.some.inj hv).symm
      subst ex
      have oc := ok.ok c (List.mem_of_getElem? hc)
      obtain ⟨dq, g, tt, eq, et⟩ := cp.same S4
      have cz : (cs.take (i + 1)).map Dc.span = (cs.take i).map Dc.span ++ [c.span] := by rw [List.take_add_one, hc, List.map_append]; rfl
      obtain ⟨zz, st, off, o, r, ns⟩ := c
      have r1 : 1 ≤ r := oc.r1
      have r4 : r ≤ 4 := oc.r4
      walk_at "rd"
      refine ⟨rfl, ?_⟩
      walk_at "rd"
      refine ⟨q, dq, _, rfl, eq, q, dq, zz, g, o, r, tt, rfl, eq, (fun l e => ?_), ?_⟩
      · obtain ⟨l1, l2, _⟩ := oc.ol l e
        exact (mul31 r1 r4 l1 l2).1
      cases o with
      | none =>
        refine ⟨_, hd, Bar.szLt (by rw [List.length_map, List.length_map, List.length_take]; omega), fun a' o' e => ?_, ?_⟩
        · rw [upd_ne (ne_of_none e hD)]
          exact S4 _ _ e
        · rw [upd_same, cz, List.map_append]
          rfl
      | some l =>
        refine ⟨_, hd, Bar.szLt (by rw [List.length_map, List.length_map, List.length_take]; omega), fun a' o' e => ?_, ?_⟩
        · rw [upd_ne (ne_of_none e hD)]
          exact S4 _ _ e
        · rw [upd_same, cz, List.map_append]
          rfl
    · rintro H4 ⟨S4, hd⟩
      rw [List.length_map, lq, List.take_length] at hd
      have hx4 := S4 _ _ hx3
      have ht4 := S4 _ _ ht3
      have hc4 := hc3.to fun _ _ h => h.same S4
      have K04 := K03.trans (Kp.of_same S4)
      have qx : ∀ (i : Nat) q, qs[i]? = some q → q ≠ x := fun i q hq => by
        obtain ⟨q', c, hq', hc, dx', g, tt, eq, _⟩ := hc4.at (List.getElem?_eq_some_iff.mp hq).1
        rw [hq] at hq'
        cases hq'
        exact ne_of eq hx4 (by intro e; cases HO.ins.inj e |>.2.2)
      walk_at "rd"
      refine Bar.rSum_ (SqL.of hd) ?_
      rw [← total_sum]
      walk_at "rd"
      refine ⟨x, CT, dx, _, rfl, hx4, GT.cl, GT.n3, (by show 2 < 1000; decide), ?_⟩
      walk_at "rd"
      refine ⟨t, qs, cs, rfl, Bar.lkNe tx ht4, ⟨hc4.1, fun i q c a b => (hc4.2 i q c a b).kp Kp.upd hx4 (qx i q a)⟩, ok.ok, l3, fun pl H5 hpl S5 e5 => ?_⟩
      have hx5 := S5 _ _ upd_same
      walk_at "rd"
      refine ⟨x, CT, dx, _, rfl, hx5, GT.cl, GT.n4, (by show 3 < 1000; decide), ?_⟩
      walk_at "rd"
      have npx : pl ≠ x := fun e => by
        rw [e, upd_same] at hpl
        cases hpl
      exact k pl _ (((K04.trans Kp.upd).trans (Kp.of_same S5)).trans Kp.upd) upd_same (Bar.lkNe npx e5)
  · cases q : H d with
    | none => rfl
    | some o =>
      rw [S1 _ _ q] at hd
      cases hd
theorem ok_trackIn {f CC CT : Addr} {fd : FuncData} (F : Fun K "__contains__" "Track.__contains__" s_Track___contains__ f fd) (T : Txt mg) (G : CTxt K CC) (GT : TTxt K CT) : FnOk P w K mg base CX0 1 f fd P_Track___contains__ (spTrackIn K CC CT) := by
  refine F.ok sc_Track___contains__ (fun vs H Q E h => ?_) (fun cdv A outer s H vs Q E hr h => ?_)
  · obtain ⟨x, dx, t, pl, z, y, per, qs, cs, rfl, _⟩ := h
    rfl
  · obtain ⟨x, dx, t, pl, z, y, per, qs, cs, rfl, hx, ht, hcs, lc, k⟩ := h
    have lq := hcs.1
    refine ⟨_, (pss_one (ps_ret (pe_cmpR op_in_seq (pv 1) (pe_lc (own := [("clip", 2)]) (g := gName 2) rfl sc_Track___contains__.nd (pi_tup (pe_fld (pv 0) rfl)) (blkOk_by (own := [("clip", 2)]) (N := N_Track___contains__) (sc := defScope s_Track___contains__) (by decide +kernel)) (fun _ _ _ _ _ => pg_name (i := 2) sc_Track___contains__.nd rfl (Or.inl rfl)) (fun _ _ _ _ _ => pts_nil) (fun _ _ _ _ _ => (pe_fldK (K := K) (pv 2) rfl rfl))) (by rfl)))), ?_⟩
    refine Bar.rStart (σ := [some (.ref x), some (.str y), none]) rfl ?_
    walk_at "rd"
    refine Bar.rFldV hx GT.cl GT.n2 rfl ?_
    walk_at "rd"
    refine Bar.lcT (τ := [some (.ref x), some (.str y), none]) rfl (SqT.of ht) fun D hD => ⟨fun i H' => Same H H' ∧ H' D = some (.lst (((cs.take i).map Dc.z).map V.str)), ⟨fun _ _ e => Bar.lkNew hD e, upd_same⟩, fun i H' _ ⟨S, _⟩ => SqT.of (S _ _ ht), ?_, ?_⟩
    · rintro i v H2 hx ⟨S2, hd⟩
      have hi : i < qs.length := by have := (List.getElem?_eq_some_iff.mp hx).1; rwa [List.length_map] at this
      obtain ⟨q, c, hq, hc, cp⟩ := hcs.at hi
      have ex : v = .ref q := by
        rw [List.getElem?_map, hq] at hx
        exact (Option.some.inj hx).symm
      subst ex
      obtain ⟨dx, g, tt, eq, et⟩ := cp.same S2
      walk_at "rd"
      refine ⟨rfl, ?_⟩
      walk_at "rd"
      refine Bar.rFldV eq G.cl G.n1 rfl ?_
      refine ⟨_, hd, Bar.szLt (by rw [List.length_map, List.length_map, List.length_take]; omega), fun a' o' e => ?_, ?_⟩
      · rw [upd_ne (ne_of_none e hD)]
        exact S2 _ _ e
      · rw [upd_same, List.take_add_one, hc, List.map_append, List.map_append]
        rfl
    · rintro H2 ⟨S2, hd⟩
      rw [List.length_map, lq, List.take_length] at hd
      walk_at "rd"
      refine ⟨D, _, rfl, .inl (SqL.of hd), rfl, flat_strs _, ?_⟩
      rw [in_str]
      walk_at "rd"
      exact k _ S2
end

end Lw
namespace Lw
open PySem L2 Bar
/-! ### a box and a list of used names -/
theorem box_lst {c s n : Int} : ∃ xs : List V, box c s n = .lst xs := ⟨_, rfl⟩
structure BU (b u : Addr) (sa : Int) (H0 H : Hp) (us : List Str) : Prop where
  k : Kp2 b u H0 H
  bx : ∃ c n, H b = some (box c sa n)
  hu : H u = some (.lst (us.map V.str))
  nub : u ≠ b
theorem BU.draw {b u : Addr} {sa : Int} {H0 H H' : Hp} {us : List Str} (h : BU b u sa H0 H us) (k : KpB b sa H H') : BU b u sa H0 H' us := by
  obtain ⟨k, c2, n2, hb2⟩ := k
  exact ⟨h.k.kp k, ⟨_, _, hb2⟩, k _ _ h.nub h.hu, h.nub⟩
theorem BU.new {b u p : Addr} {sa : Int} {H0 H : Hp} {us : List Str} {o : HO} (h : BU b u sa H0 H us) (hp : H p = none) : BU b u sa H0 (upd H p o) us := by
  obtain ⟨c1, n1, hb1⟩ := h.bx
  exact ⟨fun a o' n1 n2 e => Bar.lkNew hp (h.k a o' n1 n2 e), ⟨_, _, Bar.lkNew hp hb1⟩, Bar.lkNew hp h.hu, h.nub⟩
theorem BU.same {b u : Addr} {sa : Int} {H0 H H' : Hp} {us : List Str} (h : BU b u sa H0 H us) (S : Same H H') : BU b u sa H0 H' us := by
  obtain ⟨c1, n1, hb1⟩ := h.bx
  exact ⟨fun a o' n1 n2 e => S _ _ (h.k a o' n1 n2 e), ⟨_, _, S _ _ hb1⟩, S _ _ h.hu, h.nub⟩
/-- another list, of one's own, is changed -/
theorem BU.set {b u p : Addr} {sa : Int} {H0 H : Hp} {us : List Str} {o : HO} (h : BU b u sa H0 H us) (h0 : H0 p = none) (nb : p ≠ b) (nu : p ≠ u) : BU b u sa H0 (upd H p o) us := by
  obtain ⟨c1, n1, hb1⟩ := h.bx
  exact ⟨fun a o' n1 n2 e => Bar.lkNe (ne_of_none e h0) (h.k a o' n1 n2 e), ⟨_, _, Bar.lkNe nb.symm hb1⟩, Bar.lkNe nu.symm h.hu, h.nub⟩
theorem BU.name {b u : Addr} {sa c n : Int} {H0 H H' : Hp} {us : List Str} {z : Str} (h : BU b u sa H0 H us) (k : Kp2 b u H H') (hb : H' b = some (box c sa n)) (hu : H' u = some (.lst ((us ++ [z]).map V.str))) : BU b u sa H0 H' (us ++ [z]) :=
  ⟨fun a o n1 n2 e => k a o n1 n2 (h.k a o n1 n2 e), ⟨_, _, hb⟩, hu, h.nub⟩
theorem BU.fresh {b u p : Addr} {sa : Int} {H0 H : Hp} {us : List Str} (h : BU b u sa H0 H us) (hp : H p = none) : H0 p = none ∧ p ≠ b ∧ p ≠ u := by
  obtain ⟨c1, n1, hb1⟩ := h.bx
  have nb : p ≠ b := fun e => by rw [e, hb1] at hp; cases hp
  have nu : p ≠ u := fun e => by rw [e, h.hu] at hp; cases hp
  refine ⟨?_, nb, nu⟩
  cases e : H0 p with
  | none => rfl
  | some o =>
    rw [h.k _ _ nb nu e] at hp
    cases hp
theorem BU.start {b u : Addr} {c sa n : Int} {H : Hp} {us : List Str} (hb : H b = some (box c sa n)) (hu : H u = some (.lst (us.map V.str))) : BU b u sa H H us := ⟨Kp2.refl, ⟨_, _, hb⟩, hu, ne_of hu hb (box_strs us)⟩
/-- what stands at an address of one's own is kept by a draw, by a name -/
theorem lkU {b u a : Addr} {H H' : Hp} {o : HO} (k : Kp2 b u H H') (nb : a ≠ b) (nu : a ≠ u) (h : H a = some o) : H' a = some o := k a o nb nu h
theorem All2.push {α : Type} {R : Addr → α → Prop} {qs : List Addr} {cs : List α} {q : Addr} {c : α} (h : All2 R qs cs) (k : R q c) : All2 R (qs ++ [q]) (cs ++ [c]) := by
  refine ⟨by rw [List.length_append, List.length_append, h.1]; rfl, fun i q' c' a e => ?_⟩
  by_cases lt : i < qs.length
  · rw [List.getElem?_append_left lt] at a
    rw [List.getElem?_append_left (by rw [← h.1]; exact lt)] at e
    exact h.2 i q' c' a e
  · rw [List.getElem?_append_right (by omega)] at a
    rw [List.getElem?_append_right (by rw [← h.1]; omega)] at e
    have i0 : i - qs.length = 0 := by
      have := (List.getElem?_eq_some_iff.mp a).1
      simpa using this
    rw [i0] at a
    rw [← h.1, i0] at e
    cases a
    cases e
    exact k
theorem All2.set {α : Type} {R : Addr → α → Prop} {qs : List Addr} {cs : List α} {i : Nat} {q : Addr} {c : α} (h : All2 R qs cs) (k : R q c) : All2 R (qs.set i q) (cs.set i c) := by
  refine ⟨by rw [List.length_set, List.length_set, h.1], fun j q' c' a e => ?_⟩
  rw [List.getElem?_set] at a e
  by_cases ij : i = j
  · rw [if_pos ij] at a e
    by_cases lt : i < qs.length
    · rw [if_pos (by omega)] at a
      rw [if_pos (by rw [← h.1]; omega)] at e
      cases a
      cases e
      exact k
    · rw [if_neg (by omega)] at a
      cases a
  · rw [if_neg ij] at a e
    exact h.2 j q' c' a e
theorem All2.take {α : Type} {R : Addr → α → Prop} {qs : List Addr} {cs : List α} (n : Nat) (h : All2 R qs cs) : All2 R (qs.take n) (cs.take n) := by
  refine ⟨by rw [List.length_take, List.length_take, h.1], fun i q c a e => ?_⟩
  rw [List.getElem?_take] at a e
  by_cases lt : i < n
  · rw [if_pos lt] at a e
    exact h.2 i q c a e
  · rw [if_neg lt] at a
    cases a
theorem All2.nil {α : Type} {R : Addr → α → Prop} : All2 R [] [] := ⟨rfl, fun i q c a e => by cases a⟩
theorem refAt {qs : List Addr} {i : Nat} {x : V} (h : (qs.map V.ref)[i]? = some x) : ∃ q, qs[i]? = some q ∧ x = .ref q ∧ i < qs.length := by
  rw [List.getElem?_map] at h
  cases e : qs[i]? with
  | none => rw [e] at h; cases h
  | some q =>
    rw [e] at h
    exact ⟨q, rfl, (Option.some.inj h).symm, (List.getElem?_eq_some_iff.mp e).1⟩
/-- a box and a list of one's own -/
structure BV (b u : Addr) (sa : Int) (H0 H : Hp) (xs : List V) : Prop where
  k : Kp2 b u H0 H
  bx : ∃ c n, H b = some (box c sa n)
  hu : H u = some (.lst xs)
  nub : u ≠ b
section
variable {b u p : Addr} {sa : Int} {H0 H H' : Hp} {xs ys : List V} {o : HO}
theorem BV.start {c n : Int} (hb : H b = some (box c sa n)) (hu : H u = some (.lst xs)) (n : u ≠ b) : BV b u sa H H xs := ⟨Kp2.refl, ⟨_, _, hb⟩, hu, n⟩
theorem BV.draw (h : BV b u sa H0 H xs) (k : KpB b sa H H') : BV b u sa H0 H' xs := by
  obtain ⟨k, c2, n2, hb2⟩ := k
  exact ⟨h.k.kp k, ⟨_, _, hb2⟩, k _ _ h.nub h.hu, h.nub⟩
theorem BV.same (h : BV b u sa H0 H xs) (S : Same H H') : BV b u sa H0 H' xs := by
  obtain ⟨c1, n1, hb1⟩ := h.bx
  exact ⟨fun a o' n1 n2 e => S _ _ (h.k a o' n1 n2 e), ⟨_, _, S _ _ hb1⟩, S _ _ h.hu, h.nub⟩
theorem BV.new (h : BV b u sa H0 H xs) (hp : H p = none) : BV b u sa H0 (upd H p o) xs := h.same fun _ _ e => Bar.lkNew hp e
theorem BV.put (h : BV b u sa H0 H xs) : BV b u sa H0 (upd H u (.lst ys)) ys := by
  obtain ⟨c1, n1, hb1⟩ := h.bx
  exact ⟨h.k.set, ⟨_, _, Bar.lkNe h.nub.symm hb1⟩, upd_same, h.nub⟩
theorem BV.fresh (h : BV b u sa H0 H xs) (hp : H p = none) : p ≠ b ∧ p ≠ u := by
  obtain ⟨c1, n1, hb1⟩ := h.bx
  exact ⟨(fun e => by rw [e, hb1] at hp; cases hp), (fun e => by rw [e, h.hu] at hp; cases hp)⟩
/-- seen from ahead of the list's making -/
theorem BV.kpb {H1 : Hp} (h : BV b u sa H0 H xs) (n : H1 u = none) (k : Kp b H1 H0) : KpB b sa H1 H := ⟨fun a o na e => h.k a o na (ne_of_none e n) (k a o na e), h.bx⟩
end
theorem cut_toV {xs : List V} {n : Int} (h : 0 ≤ n) : cutV xs none (some n) = xs.take n.toNat := by
  unfold cutV
  have e1 : HT.sIx xs.length 0 none = 0 := rfl
  have e2 : HT.sIx xs.length xs.length (some n) = min n.toNat xs.length := by
    show (if n < 0 then _ else _) = _
    rw [if_neg (by omega)]
  rw [e1, e2, List.drop_zero, Nat.sub_zero, ← List.take_eq_take_min]
theorem cut_fromV {xs : List V} {n : Int} (h : 0 ≤ n) : cutV xs (some n) none = xs.drop n.toNat := by
  unfold cutV
  have e1 : HT.sIx xs.length 0 (some n) = min n.toNat xs.length := by
    show (if n < 0 then _ else _) = _
    rw [if_neg (by omega)]
  have e2 : HT.sIx xs.length xs.length none = xs.length := rfl
  rw [e1, e2]
  by_cases l : n.toNat ≤ xs.length
  · rw [Nat.min_eq_left l]
    exact List.take_of_length_le (by rw [List.length_drop]; omega)
  · rw [Nat.min_eq_right (by omega), Nat.sub_self, List.take_zero, List.drop_eq_nil_of_le (by omega)]


/-! ### rows of clips -/
structure Rw where
  z : Str
  o : Option Int
  r : Int
def Rw.dc (w : Rw) : Dc := ⟨w.z, 3, 1, w.o, w.r, []⟩
structure WOk (w : Rw) : Prop where
  nm : nameB w.z = true
  r1 : 1 ≤ w.r
  r4 : w.r ≤ 4
  on : w.o = none → w.r = 1
  ol : ∀ l, w.o = some l → 1 ≤ l ∧ l ≤ 10 ^ 31
theorem WOk.d {w : Rw} (h : WOk w) : DOk w.dc := ⟨h.nm, by show (1 : Int) ≤ 3; decide, h.r1, h.r4, h.on, fun l e => ⟨(h.ol l e).1, (h.ol l e).2, fun x hx => by cases hx⟩, List.Pairwise.nil, (fun x hx => by cases hx), Nat.zero_le _⟩
/-- a text that may be told -/
structure TxU (z : Str) : Prop where
  len : z.length ≤ 100
  u : ∀ c ∈ z.cps.toList, c < 0x110000
theorem TxU.ok {z : Str} (h : TxU z) : TxOk z := ⟨h.len, fun c hc => Nat.lt_trans (h.u c hc) (by decide)⟩
theorem TxU.name {z : Str} (h : nameB z = true) : TxU z := ⟨by have := (name_len h).2; omega, fun c hc => Nat.lt_trans (sgn_small c (name_sgn h c hc)) (by decide)⟩
def RwAt (H : Hp) (t : Addr) (w : Rw) : Prop := H t = some (.tup [.str w.z, oV w.o, .int w.r])
theorem RwAt.same {H H' : Hp} {t : Addr} {w : Rw} (S : Same H H') (h : RwAt H t w) : RwAt H' t w := S _ _ h
theorem RwAt.kp {b t : Addr} {H H' : Hp} {w : Rw} {xs : List V} (k : Kp b H H') (hb : H b = some (.lst xs)) (h : RwAt H t w) : RwAt H' t w := k _ _ (ne_of h hb (by intro z; cases z)) h
theorem RwAt.kp2 {b u t : Addr} {H H' : Hp} {w : Rw} {xs ys : List V} (k : Kp2 b u H H') (hb : H b = some (.lst xs)) (hu : H u = some (.lst ys)) (h : RwAt H t w) : RwAt H' t w := k _ _ (ne_of h hb (by intro z; cases z)) (ne_of h hu (by intro z; cases z)) h
theorem RwAt.set {b t : Addr} {H : Hp} {w : Rw} {xs : List V} {o : HO} (hb : H b = some (.lst xs)) (h : RwAt H t w) : RwAt (upd H b o) t w := Bar.lkNe (ne_of h hb (by intro z; cases z)) h
def spRows : Sp := fun vs H Q _ => ∃ (b u : Addr) (c s n : Int) (us : List Str), vs = [.ref b, .ref u] ∧ H b = some (box c s n) ∧ H u = some (.lst (us.map V.str)) ∧ us.length ≤ 40 ∧
  ∀ (L : Addr) (ts : List Addr) (ws : List Rw) (H' : Hp), BU b u s H H' (us ++ ws.map Rw.z) → H L = none → L ≠ b → L ≠ u → H' L = some (.lst (ts.map V.ref)) → All2 (RwAt H') ts ws → ws.length = 5 → (∀ w ∈ ws, WOk w ∧ w.o ≠ none) → (ws.map Rw.z).Nodup → Q (.ref L) H'
theorem r12d_at {r : Int} (h0 : 0 ≤ r) (h1 : r < 4) : ∃ v : Int, atI [V.int 12, V.int 12, V.int 12, V.int (10 ^ Int.toNat 30)] r = some (.int v) ∧ 1 ≤ v ∧ v ≤ 10 ^ 30 := by
  have h : r = 0 ∨ r = 1 ∨ r = 2 ∨ r = 3 := by omega
  rcases h with h | h | h | h <;> (subst h; exact ⟨_, rfl, by decide, by decide⟩)
theorem r0120_at {r : Int} (h0 : 0 ≤ r) (h1 : r < 4) : ∃ v : Nat, atI [V.int 0, V.int 1, V.int 2, V.int 0] r = some (.int (v : Int)) ∧ v ≤ 2 := by
  have h : r = 0 ∨ r = 1 ∨ r = 2 ∨ r = 3 := by omega
  rcases h with h | h | h | h <;> subst h
  · exact ⟨0, rfl, by decide⟩
  · exact ⟨1, rfl, by decide⟩
  · exact ⟨2, rfl, by decide⟩
  · exact ⟨0, rfl, by decide⟩
/-- rows, some of them changed; a pair of places with the same row -/
def spCase : Sp := fun vs H Q _ => ∃ (b L : Addr) (c s n : Int) (z : Str) (ts : List Addr) (ws : List Rw), vs = [.ref b, .str z, .ref L] ∧ H b = some (box c s n) ∧ nameB z = true ∧ H L = some (.lst (ts.map V.ref)) ∧ All2 (RwAt H) ts ws ∧ ws.length = 5 ∧ (∀ w ∈ ws, WOk w) ∧
  ∀ (R M P : Addr) (y : Str) (g : Bool) (ts' : List Addr) (ws' : List Rw) (pr : List Int) (H' : Hp), KpB b s H H' → TxU y → nameB y = g → (g = true → y = z) → H' R = some (.lst [.str y, .bl g, .ref M, .ref P]) → H' M = some (.lst (ts'.map V.ref)) → H' P = some (.lst (pr.map V.int)) → All2 (RwAt H') ts' ws' → ws'.length ≤ 5 → (∀ w ∈ ws', WOk w) →
    (pr = [] ∨ ∃ i j : Nat, pr = [(i : Int), (j : Int)] ∧ i < ws'.length ∧ j < ws'.length ∧ ws'[i]? = ws'[j]?) → Q (.ref R) H'
section
variable {P : Program} {w : World} {K : PySem.W.Frag} {mg : Str → Option Value} {base : Heap}
theorem ok_rows {f : Addr} {fd : FuncData} (F : Fun K "_law_rows" "_law_rows" s_law_rows f fd) (T : Txt mg) (f_law_draw : Fn P w K mg base "_law_draw" P_law_draw [] 1 spDrawA) (f_law_name : Fn P w K mg base "_law_name" P_law_name [] 2 spName) : FnOk P w K mg base CX0 3 f fd P_law_rows spRows := by
  refine F.ok sc_law_rows (fun vs H Q E h => ?_) (fun cdv A outer s H vs Q E hr h => ?_)
  · obtain ⟨b, u, c, s, n, us, rfl, _⟩ := h
    rfl
  · obtain ⟨b, u, c, sa, n, us, rfl, hb, hu, lu, k⟩ := h
    have big30 : (10 : Int) ^ 30 ≤ big := by decide
    refine ⟨_, (pss_cons (ps_set (i := 2) sc_law_rows.nd rfl (Or.inl rfl) (pe_lst pa_nil))
    (pss_cons (ps_for PassesOwn.never rfl  (pi_range1 rfl T.b_range (pa_cons pe_int pa_nil)) (pg_name (i := 3) sc_law_rows.nd rfl (Or.inl rfl)) (pss_cons (ps_set (i := 4) sc_law_rows.nd rfl (Or.inl rfl) (pe_fn f_law_name (hr.mono (by omega)) rfl (pa_cons (pv 0) (pa_cons (pv 1) pa_nil))))
    (pss_cons (ps_set (i := 5) sc_law_rows.nd rfl (Or.inl rfl) (pe_op op_add pe_int (pe_fn f_law_draw (hr.mono (by omega)) rfl (pa_cons (pv 0) (pa_cons (pe_ix ix_tup (pe_tup (pa_cons pe_int (pa_cons pe_int (pa_cons pe_int (pa_cons (pe_op op_powW pe_int pe_int) pa_nil))))) (pe_fn f_law_draw (hr.mono (by omega)) rfl (pa_cons (pv 0) (pa_cons pe_int pa_nil))) (fun _ _ => rfl)) pa_nil)))))
    (pss_one (ps_expr (pe_bm PySem.F.plainAttrs_list PySem.F.slot_list_append PySem.F.type_list_append mt_append (pv 2) (pa_cons (pe_tup (pa_cons (pv 4) (pa_cons (pv 5) (pa_cons (pe_op op_add pe_int (pe_fn f_law_draw (hr.mono (by omega)) rfl (pa_cons (pv 0) (pa_cons pe_int pa_nil)))) pa_nil)))) pa_nil)))))))
    (pss_one (ps_ret (pv 2))))), ?_⟩
    refine Bar.rStart (σ := [some (.ref b), some (.ref u), none, none, none, none]) rfl ?_
    walk_at "rd"
    intro D hD
    have B0 := BU.start hb hu
    obtain ⟨_, nDb, nDu⟩ := B0.fresh hD
    walk_at "rd"
    refine Bar.forR 5 rfl (fun i σ H' => ∃ (ts : List Addr) (ws : List Rw) (x y q : Option V), BU b u sa H H' (us ++ ws.map Rw.z) ∧ H' D = some (.lst (ts.map V.ref)) ∧ All2 (RwAt H') ts ws ∧ ws.length = i ∧ (∀ w ∈ ws, WOk w ∧ w.o ≠ none) ∧ (ws.map Rw.z).Nodup ∧ σ = [some (.ref b), some (.ref u), some (.ref D), x, y, q]) (by decide) ⟨[], [], _, _, _, by rw [List.map_nil, List.append_nil]; exact B0.new hD, upd_same, All2.nil, rfl, (fun w hw => by cases hw), List.nodup_nil, rfl⟩ ?_ ?_
    · rintro i σ H1 hi ⟨ts, ws, x, y, q, B1, h1, hts, lw, okw, nd, rfl⟩
      obtain ⟨c1, n1, hb1⟩ := B1.bx
      walk_at "rd"
      refine ⟨b, u, c1, sa, n1, us ++ ws.map Rw.z, rfl, hb1, B1.hu, (by rw [List.length_append, List.length_map]; omega), fun z H2 nz nin K2 ⟨c2, n2, hb2⟩ hu2 => ?_⟩
      have B2 := B1.name K2 hb2 hu2
      have h2 := K2 _ _ nDb nDu h1
      have hts2 := hts.to fun _ _ e => RwAt.kp2 K2 hb1 B1.hu e
      walk_at "rd"
      intro tq htq
      have B3 := B2.new (o := .tup [.int 12, .int 12, .int 12, .int (10 ^ Int.toNat 30)]) htq
      obtain ⟨c3, n3, hb3⟩ := B3.bx
      have nqb : tq ≠ b := (B2.fresh htq).2.1
      walk_at "rd"
      refine ⟨b, c3, sa, n3, 4, rfl, hb3, by decide, by decide, fun r4 H4 l4 u4 k4 => ?_⟩
      have B4 := B3.draw k4
      obtain ⟨v, hv, v1, v2⟩ := r12d_at l4 u4
      obtain ⟨c4, n4, hb4⟩ := B4.bx
      have h4 := k4.1 _ _ nDb (Bar.lkNew htq h2)
      have hts4 := hts2.to fun _ _ e => RwAt.kp k4.1 hb3 (RwAt.same (fun _ _ e => Bar.lkNew htq e) e)
      refine Bar.rIxT_ (SqT.of (k4.1 _ _ nqb upd_same)) hv ?_
      clear B3 hts2 hb2 h2 hb3 htq
      walk_at "rd"
      refine ⟨b, c4, sa, n4, v, rfl, hb4, by omega, by omega, fun r5 H5 l5 u5 k5 => ?_⟩
      have B5 := B4.draw k5
      obtain ⟨c5, n5, hb5⟩ := B5.bx
      have h5 := k5.1 _ _ nDb h4
      have hts5 := hts4.to fun _ _ e => RwAt.kp k5.1 hb4 e
      walk_at "rd"
      refine ⟨b, c5, sa, n5, 4, rfl, hb5, by decide, by decide, fun r6 H6 l6 u6 k6 => ?_⟩
      have B6 := B5.draw k6
      have h6 := k6.1 _ _ nDb h5
      have hts6 := hts5.to fun _ _ e => RwAt.kp k6.1 hb5 e
      walk_at "rd"
      intro t ht
      have B7 := B6.new (o := .tup [.str z, .int (1 + r5), .int (1 + r6)]) ht
      walk_at "rd"
      refine Bar.rAppend_ (Bar.lkNew ht h6) (Bar.szLt (by rw [List.length_map, hts.1]; omega)) ?_
      walk_at "rd"
      have h7 := Bar.lkNew (o := .tup [.str z, .int (1 + r5), .int (1 + r6)]) ht h6
      refine ⟨ts ++ [t], ws ++ [⟨z, some (1 + r5), 1 + r6⟩], _, _, _, ?_, by rw [upd_same, List.map_append]; rfl, ?_, by rw [List.length_append, lw]; rfl, fun w hw => ?_, ?_, rfl⟩
      · rw [List.map_append, ← List.append_assoc]
        exact B7.set (B0.fresh hD).1 nDb nDu
      · exact ((hts6.to fun _ _ e => RwAt.same (fun _ _ e => Bar.lkNew ht e) e).push (show RwAt _ t ⟨z, some (1 + r5), 1 + r6⟩ from upd_same)).to fun _ _ e => RwAt.set h7 e
      · rcases List.mem_append.mp hw with q | q
        · exact okw w q
        · rw [List.mem_singleton.mp q]
          exact ⟨⟨nz, by show 1 ≤ 1 + r6; omega, by show 1 + r6 ≤ 4; omega, (fun e => by cases e), fun l e => by cases e; exact ⟨by omega, by omega⟩⟩, by intro e; cases e⟩
      · rw [List.map_append]
        refine List.nodup_append.mpr ⟨nd, by simp, fun a ha d hd e => ?_⟩
        rw [show d = z from List.mem_singleton.mp hd] at e
        rw [e] at ha
        exact nin (List.mem_append_right _ ha)
    · rintro σ H1 ⟨ts, ws, x, y, q, B1, h1, hts, lw, okw, nd, rfl⟩
      walk_at "rd"
      exact k D ts ws H1 B1 hD nDb nDu h1 hts lw okw nd
theorem ok_case {f : Addr} {fd : FuncData} (F : Fun K "_law_case" "_law_case" s_law_case f fd) (T : Txt mg) (f_law_draw : Fn P w K mg base "_law_draw" P_law_draw [] 1 spDrawA) (f_law_bad_name : Fn P w K mg base "_law_bad_name" P_law_bad_name [] 2 spBadName) : FnOk P w K mg base CX0 3 f fd P_law_case spCase := by
  refine F.ok sc_law_case (fun vs H Q E h => ?_) (fun cdv A outer s H vs Q E hr h => ?_)
  · obtain ⟨b, L, c, s, n, z, ts, ws, rfl, _⟩ := h
    rfl
  · obtain ⟨b, L, c, sa, n, z, ts, ws, rfl, hb, nz, hL, hts, lw, okw, k⟩ := h
    have nLb : L ≠ b := ne_of hL hb (by intro e; cases ts <;> cases HO.lst.inj e)
    refine ⟨_, (pss_cons (ps_set (i := 3) sc_law_case.nd rfl (Or.inl rfl) (pe_cmpR op_gt (pe_fn f_law_draw (hr.mono (by omega)) rfl (pa_cons (pv 0) (pa_cons pe_int pa_nil))) pe_int (nomark _)))
    (pss_mid (ps_if (pt_not (pt_val (pv 3))) (pss_one (ps_set (i := 1) sc_law_case.nd rfl (Or.inl rfl) (pe_fn f_law_bad_name (hr.mono (by omega)) rfl (pa_cons (pv 0) (pa_cons (pv 1) pa_nil))))) pss_nil)
    (pss_cons (ps_set (i := 4) sc_law_case.nd rfl (Or.inl rfl) (pe_slice sl_list (pv 2) po_none (po_some (pe_fn f_law_draw (hr.mono (by omega)) rfl (pa_cons (pv 0) (pa_cons pe_int pa_nil))))))
    (pss_cons (ps_set (i := 5) sc_law_case.nd rfl (Or.inl rfl) (pe_lst pa_nil))
    (pss_mid (ps_if (pt_cmpR op_gt (pe_callB c_len rfl T.b_len PySem.boot_len (pa_cons (pv 4) pa_nil)) pe_int (nomark _)) (pss_one (ps_for PassesOwn.never rfl  (pi_range1 rfl T.b_range (pa_cons (pe_ix ix_tup (pe_tup (pa_cons pe_int (pa_cons pe_int (pa_cons pe_int (pa_cons pe_int pa_nil))))) (pe_fn f_law_draw (hr.mono (by omega)) rfl (pa_cons (pv 0) (pa_cons pe_int pa_nil))) (fun _ _ => rfl)) pa_nil)) (pg_name (i := 6) sc_law_case.nd rfl (Or.inl rfl)) (pss_cons (ps_set (i := 7) sc_law_case.nd rfl (Or.inl rfl) (pe_fn f_law_draw (hr.mono (by omega)) rfl (pa_cons (pv 0) (pa_cons (pe_callB c_len rfl T.b_len PySem.boot_len (pa_cons (pv 4) pa_nil)) pa_nil))))
    (pss_one (ps_asg (pe_tup (pa_cons (pe_ix ix_tup (pe_ix ix_list (pv 4) (pv 7) (fun _ _ => rfl)) pe_int (fun _ _ => rfl)) (pa_cons pe_non (pa_cons pe_int pa_nil)))) (pg_sub (pv 4) (pv 7) set_list)))))) pss_nil)
    (pss_cons (ps_if (PW.pt (pw_and (pt_cmpR op_gt (pe_callB c_len rfl T.b_len PySem.boot_len (pa_cons (pv 4) pa_nil)) pe_int (nomark _)) (pw_and1 (pt_cmpR op_eq (pe_fn f_law_draw (hr.mono (by omega)) rfl (pa_cons (pv 0) (pa_cons pe_int pa_nil))) pe_int (nomark _))))) (pss_cons (ps_set (i := 8) sc_law_case.nd rfl (Or.inl rfl) (pe_fn f_law_draw (hr.mono (by omega)) rfl (pa_cons (pv 0) (pa_cons (pe_callB c_len rfl T.b_len PySem.boot_len (pa_cons (pv 4) pa_nil)) pa_nil))))
    (pss_cons (ps_set (i := 9) sc_law_case.nd rfl (Or.inl rfl) (pe_fn f_law_draw (hr.mono (by omega)) rfl (pa_cons (pv 0) (pa_cons (pe_callB c_len rfl T.b_len PySem.boot_len (pa_cons (pv 4) pa_nil)) pa_nil))))
    (pss_one (ps_if (pt_cmpR op_eq (pe_fn f_law_draw (hr.mono (by omega)) rfl (pa_cons (pv 0) (pa_cons pe_int pa_nil))) pe_int (nomark _)) (pss_cons (ps_set (i := 5) sc_law_case.nd rfl (Or.inl rfl) (pe_lst (pa_cons (pv 8) (pa_cons (pv 9) pa_nil))))
    (pss_one (ps_asg (pe_ix ix_list (pv 4) (pv 8) (fun _ _ => rfl)) (pg_sub (pv 4) (pv 9) set_list)))) (pss_one (ps_asg (pe_tup (pa_cons (pe_ix ix_tup (pe_ix ix_list (pv 4) (pv 8) (fun _ _ => rfl)) pe_int (fun _ _ => rfl)) (pa_cons (pe_ix ix_tup (pe_ix ix_list (pv 4) (pv 9) (fun _ _ => rfl)) pe_int (fun _ _ => rfl)) (pa_cons (pe_ix ix_tup (pe_ix ix_list (pv 4) (pv 9) (fun _ _ => rfl)) pe_int (fun _ _ => rfl)) pa_nil)))) (pg_sub (pv 4) (pv 9) set_list))))))) pss_nil)
    (pss_one (ps_ret (pe_lst (pa_cons (pv 1) (pa_cons (pv 3) (pa_cons (pv 4) (pa_cons (pv 5) pa_nil))))))))))))), ?_⟩
    refine Bar.rStart (σ := [some (.ref b), some (.str z), some (.ref L), none, none, none, none, none, none, none]) rfl ?_
    walk_at "rd"
    refine ⟨b, c, sa, n, 3, rfl, hb, by decide, by decide, fun r1 H1 l1 u1 k1 => ?_⟩
    walk_at "rd"
    refine ⟨fun σ H' => KpB b sa H H' ∧ ∃ (y : Str) (g : Bool), TxU y ∧ nameB y = g ∧ (g = true → y = z) ∧ σ = [some (.ref b), some (.str y), some (.ref L), some (.bl g), none, none, none, none, none, none], ?_, ?_⟩
    · obtain ⟨K1, c1, n1, hb1⟩ := k1
      walk_at "rd"
      refine ite2 (fun h => ?_) (fun h => ?_)
      · have g0 : decide (r1 > 0) = false := by
          cases q : decide (r1 > 0) with
          | false => rfl
          | true => rw [q] at h; cases h
        walk_at "rd"
        refine ⟨b, c1, sa, n1, z, rfl, hb1, nz, fun y H2 by' ⟨K2, c2, n2, hb2⟩ => ?_⟩
        walk_at "rd"
        exact ⟨⟨K1.trans K2, _, _, hb2⟩, y, _, ⟨by'.len, by'.small⟩, by rw [g0]; exact by'.no, (fun e => by rw [g0] at e; cases e), rfl⟩
      · have g0 : decide (r1 > 0) = true := by
          cases q : decide (r1 > 0) with
          | true => rfl
          | false => rw [q] at h; exact absurd rfl h
        walk_at "rd"
        exact ⟨⟨K1, _, _, hb1⟩, z, _, TxU.name nz, by rw [g0]; exact nz, fun _ => rfl, rfl⟩
    rintro σ H2 ⟨⟨K2, c2, n2, hb2⟩, y, g, oy, ny, yz, rfl⟩
    have hL2 := K2 _ _ nLb hL
    have ht2 := hts.to fun _ _ e => RwAt.kp K2 hb e
    clear k1 hb hL hts
    walk_at "rd"
    refine ⟨b, c2, sa, n2, 6, rfl, hb2, by decide, by decide, fun r3 H3 l3 u3 ⟨K3, c3, n3, hb3⟩ => ?_⟩
    have K03 := K2.trans K3
    have hL3 := K3 _ _ nLb hL2
    have ht3 := ht2.to fun _ _ e => RwAt.kp K3 hb2 e
    clear K2 K3 hb2 hL2 ht2
    walk_at "rd"
    refine Bar.rSlL_ (SqL.of hL3) fun M hM => ?_
    have ec : cutV (ts.map V.ref) none (some r3) = (ts.take r3.toNat).map V.ref := by
      have e := cut_toV (xs := ts.map V.ref) (n := r3) l3
      rw [e, ← List.map_take]
    rw [ec]
    have nMb : M ≠ b := fun e => by
      rw [e, hb3] at hM
      cases hM
    have S4 : Same H3 (upd H3 M (.lst ((ts.take r3.toNat).map V.ref))) := fun _ _ e => Bar.lkNew hM e
    have B4 : BV b M sa (upd H3 M (.lst ((ts.take r3.toNat).map V.ref))) (upd H3 M (.lst ((ts.take r3.toNat).map V.ref))) ((ts.take r3.toNat).map V.ref) := BV.start (S4 _ _ hb3) upd_same nMb
    have ht4 := (ht3.to fun _ _ e => RwAt.same S4 e).take r3.toNat
    have hM0 : H M = none := by
      cases e : H M with
      | none => rfl
      | some o =>
        rw [K03 _ _ nMb e] at hM
        cases hM
    have K04 : Kp b H (upd H3 M (.lst ((ts.take r3.toNat).map V.ref))) := K03.trans (Kp.of_same S4)
    have okt : ∀ w ∈ ws.take r3.toNat, WOk w := fun w hw => okw w (List.mem_of_mem_take hw)
    have lt : (ws.take r3.toNat).length ≤ 5 := by rw [List.length_take]; omega
    generalize (upd H3 M (.lst ((ts.take r3.toNat).map V.ref))) = H4 at B4 ht4 K04 ⊢
    generalize ts.take r3.toNat = ts at B4 ht4 ⊢
    generalize ws.take r3.toNat = ws at ht4 okt lt ⊢
    clear hL3 ht3 S4 K03 hM hb3 ec
    walk_at "rd"
    intro P0 hP
    have nP := B4.fresh hP
    have B5 := B4.new (o := .lst []) hP
    have ht5 := ht4.to fun _ _ e => RwAt.same (H' := upd H4 P0 (.lst [])) (fun _ _ e => Bar.lkNew hP e) e
    have hP5 : (upd H4 P0 (.lst [])) P0 = some (.lst []) := upd_same
    generalize (upd H4 P0 (.lst [])) = H5 at B5 ht5 hP5 ⊢
    have hP0 : H P0 = none := by
      cases e : H P0 with
      | none => rfl
      | some o =>
        rw [K04 _ _ nP.1 e] at hP
        cases hP
    walk_at "rd"
    refine ⟨fun σ H' => ∃ (ts : List Addr) (ws : List Rw) (x6 x7 : Option V), BV b M sa H4 H' (ts.map V.ref) ∧ H' P0 = some (.lst []) ∧ All2 (RwAt H') ts ws ∧ ws.length ≤ 5 ∧ (∀ w ∈ ws, WOk w) ∧ σ = [some (.ref b), some (.str y), some (.ref L), some (.bl g), some (.ref M), some (.ref P0), x6, x7, none, none], ?_, ?_⟩
    · have hM5 := B5.hu
      walk_at "rd"
      refine ite2 (fun h => ?_) (fun h => ?_)
      · have pos : 0 < ts.length := by
          have := of_decide_eq_true h
          rw [List.length_map] at this
          omega
        walk_at "rd"
        intro tq htq
        have B6 := B5.new (o := .tup [.int 0, .int 1, .int 2, .int 0]) htq
        obtain ⟨c6, n6, hb6⟩ := B6.bx
        have nq := B5.fresh htq
        walk_at "rd"
        refine ⟨b, c6, sa, n6, 4, rfl, hb6, by decide, by decide, fun r7 H7 l7 u7 k7 => ?_⟩
        have B7 := B6.draw k7
        obtain ⟨v, hv, v2⟩ := r0120_at l7 u7
        refine Bar.rIxT_ (SqT.of (k7.1 _ _ nq.1 upd_same)) hv ?_
        have hP7 := k7.1 _ _ nP.1 (Bar.lkNew htq hP5)
        have ht7 := ht5.to fun _ _ e => RwAt.kp k7.1 hb6 (RwAt.same (fun _ _ e => Bar.lkNew htq e) e)
        clear B6 hb6 htq k7 hv
        walk_at "rd"
        refine Bar.forR v (Int.toNat_natCast v) (fun i σ H' => ∃ (ts' : List Addr) (ws : List Rw) (x6 x7 : Option V), ts'.length = ts.length ∧ BV b M sa H4 H' (ts'.map V.ref) ∧ H' P0 = some (.lst []) ∧ All2 (RwAt H') ts' ws ∧ ws.length ≤ 5 ∧ (∀ w ∈ ws, WOk w) ∧ σ = [some (.ref b), some (.str y), some (.ref L), some (.bl g), some (.ref M), some (.ref P0), x6, x7, none, none]) (by omega) ⟨ts, ws, _, _, rfl, B7, hP7, ht7, lt, okt, rfl⟩ ?_ ?_
        · rintro i σ H8 hi ⟨ts', ws, x6, x7, lts, B8, hP8, ht8, lt, okt, rfl⟩
          obtain ⟨c8, n8, hb8⟩ := B8.bx
          have hM8 := B8.hu
          walk_at "rd"
          refine ⟨b, c8, sa, n8, _, rfl, hb8, by rw [List.length_map]; omega, by rw [List.length_map, ht8.1]; exact Int.le_trans (show _ ≤ 5 by omega) (by decide), fun r9 H9 l9 u9 k9 => ?_⟩
          rw [List.length_map] at u9
          obtain ⟨at', rfl⟩ : ∃ k : Nat, r9 = k := ⟨r9.toNat, by omega⟩
          have B9 := B8.draw k9
          have hP9 := k9.1 _ _ nP.1 hP8
          have ht9 := ht8.to fun _ _ e => RwAt.kp k9.1 hb8 e
          have hM9 := B9.hu
          obtain ⟨q, w0, hq, hw, e9⟩ := ht9.at (i := at') (by omega)
          have hqV : (ts'.map V.ref)[at']? = some (.ref q) := by rw [List.getElem?_map, hq]; rfl
          walk_at "rd"
          refine Bar.rIxL_ (SqL.of hM9) (atI_nat hqV) ?_
          walk_at "rd"
          refine Bar.rIxT_ (SqT.of e9) (atI_nat (j := 0) rfl) ?_
          walk_at "rd"
          intro t ht
          have B10 := B9.new (o := .tup [.str w0.z, .non, .int 1]) ht
          walk_at "rd"
          refine Bar.rSetL_ (j := at') B10.hu ?_ ?_
          · rw [List.length_map]
            unfold ixN
            rw [if_pos (by omega), if_pos (by omega)]
            rfl
          walk_at "rd"
          rw [show (ts'.map V.ref).set at' (.ref t) = (ts'.set at' t).map V.ref by rw [List.map_set]]
          have wm := okt w0 (List.mem_of_getElem? hw)
          refine ⟨ts'.set at' t, ws.set at' ⟨w0.z, none, 1⟩, _, _, by rw [List.length_set]; exact lts, B10.put, Bar.lkNe nP.2 (Bar.lkNew ht hP9), ?_, by rw [List.length_set]; exact lt, fun w hw' => ?_, rfl⟩
          · exact ((ht9.to fun _ _ e => RwAt.same (fun _ _ e => Bar.lkNew ht e) e).set (show RwAt _ t ⟨w0.z, none, 1⟩ from upd_same)).to fun _ _ e => RwAt.set B10.hu e
          · rcases List.mem_or_eq_of_mem_set hw' with q | q
            · exact okt w q
            · rw [q]
              exact ⟨wm.nm, by show (1 : Int) ≤ 1; decide, by show (1 : Int) ≤ 4; decide, fun _ => rfl, fun l e => by cases e⟩
        · rintro σ H8 ⟨ts', ws, x6, x7, lts, B8, hP8, ht8, lt, okt, rfl⟩
          walk_at "rd"
          exact ⟨ts', ws, _, _, B8, hP8, ht8, lt, okt, rfl⟩
      · walk_at "rd"
        exact ⟨ts, ws, _, _, B5, hP5, ht5, lt, okt, rfl⟩
    clear B5 hP5 ht5 ht4 B4 okt lt
    rintro σ H6 ⟨ts, ws, x6, x7, B6, hP6, ht6, lt, okt, rfl⟩
    have hM6 := B6.hu
    obtain ⟨c6, n6, hb6⟩ := B6.bx
    walk_at "rd"
    refine ite2 (fun h => ?_) (fun h => ?_)
    · have lt1 : 1 < ts.length := by
        have := of_decide_eq_true h
        rw [List.length_map] at this
        omega
      walk_at "rd"
      refine ⟨b, c6, sa, n6, 3, rfl, hb6, by decide, by decide, fun r7 H7 l7 u7 k7 => ?_⟩
      have B7 := B6.draw k7
      have hP7 := k7.1 _ _ nP.1 hP6
      have ht7 := ht6.to fun _ _ e => RwAt.kp k7.1 hb6 e
      obtain ⟨c7, n7, hb7⟩ := B7.bx
      have hM7 := B7.hu
      clear B6 hP6 ht6 hb6 hM6 k7
      walk_at "rd"
      refine ite2 (fun h2 => ?_) (fun h2 => ?_)
      · walk_at "rd"
        refine ⟨b, c7, sa, n7, _, rfl, hb7, by rw [List.length_map]; omega, by rw [List.length_map, ht7.1]; exact Int.le_trans (show _ ≤ 5 by omega) (by decide), fun r8 H8 l8 u8 k8 => ?_⟩
        rw [List.length_map] at u8
        obtain ⟨i, rfl⟩ : ∃ k : Nat, r8 = k := ⟨r8.toNat, by omega⟩
        have B8 := B7.draw k8
        have hP8 := k8.1 _ _ nP.1 hP7
        have ht8 := ht7.to fun _ _ e => RwAt.kp k8.1 hb7 e
        obtain ⟨c8, n8, hb8⟩ := B8.bx
        have hM8 := B8.hu
        clear B7 hP7 ht7 hb7 hM7 k8
        walk_at "rd"
        refine ⟨b, c8, sa, n8, _, rfl, hb8, by rw [List.length_map]; omega, by rw [List.length_map, ht8.1]; exact Int.le_trans (show _ ≤ 5 by omega) (by decide), fun r9 H9 l9 u9 k9 => ?_⟩
        rw [List.length_map] at u9
        obtain ⟨j, rfl⟩ : ∃ k : Nat, r9 = k := ⟨r9.toNat, by omega⟩
        have B9 := B8.draw k9
        have hP9 := k9.1 _ _ nP.1 hP8
        have ht9 := ht8.to fun _ _ e => RwAt.kp k9.1 hb8 e
        obtain ⟨c9, n9, hb9⟩ := B9.bx
        clear B8 hP8 ht8 hb8 hM8 k9
        walk_at "rd"
        refine ⟨b, c9, sa, n9, 2, rfl, hb9, by decide, by decide, fun r10 H10 l10 u10 k10 => ?_⟩
        have B10 := B9.draw k10
        have hP10 := k10.1 _ _ nP.1 hP9
        have ht10 := ht9.to fun _ _ e => RwAt.kp k10.1 hb9 e
        have hM10 := B10.hu
        clear B9 hP9 ht9 hb9 k10
        obtain ⟨q, w1, hq, hw1, e1⟩ := ht10.at (i := i) (by omega)
        obtain ⟨q2, w2, hq2, hw2, e2⟩ := ht10.at (i := j) (by omega)
        have hqV : (ts.map V.ref)[i]? = some (.ref q) := by rw [List.getElem?_map, hq]; rfl
        have hq2V : (ts.map V.ref)[j]? = some (.ref q2) := by rw [List.getElem?_map, hq2]; rfl
        have wm1 := okt w1 (List.mem_of_getElem? hw1)
        have wm2 := okt w2 (List.mem_of_getElem? hw2)
        have hj : ixN (ts.map V.ref).length ((j : Nat) : Int) = some j := by
          rw [List.length_map]
          unfold ixN
          rw [if_pos (by omega), if_pos (by omega)]
          rfl
        have lts := ht10.1
        walk_at "rd"
        refine ite2 (fun h3 => ?_) (fun h3 => ?_)
        · walk_at "rd"
          intro P1 hP1
          have nP1 := B10.fresh hP1
          have B11 := B10.new (o := .lst [.int (i : Int), .int (j : Int)]) hP1
          walk_at "rd"
          refine Bar.rIxL_ (SqL.of B11.hu) (atI_nat hqV) ?_
          walk_at "rd"
          refine Bar.rSetL_ (j := j) B11.hu hj ?_
          walk_at "rd"
          rw [show (ts.map V.ref).set j (.ref q) = (ts.set j q).map V.ref by rw [List.map_set]]
          have B12 := B11.put (ys := (ts.set j q).map V.ref)
          intro R hR
          have B13 := B12.new (o := .lst [.str y, .bl g, .ref M, .ref P1]) hR
          have ht13 := ((ht10.to fun _ _ e => RwAt.same (fun _ _ e => Bar.lkNew hP1 e) e).set (i := j) (show RwAt _ q w1 from Bar.lkNew hP1 e1)).to fun _ _ e => RwAt.same (fun _ _ e => Bar.lkNew (o := .lst [.str y, .bl g, .ref M, .ref P1]) hR e) (RwAt.set (o := .lst ((ts.set j q).map V.ref)) B11.hu e)
          refine k R M P1 y g _ _ [(i : Int), (j : Int)] _ (B13.kpb hM0 K04) oy ny yz upd_same B13.hu (Bar.lkNew hR (Bar.lkNe nP1.2 upd_same)) ht13 (by rw [List.length_set]; exact lt) (fun w hw => ?_) (.inr ⟨i, j, rfl, by rw [List.length_set]; omega, by rw [List.length_set]; omega, ?_⟩)
          · rcases List.mem_or_eq_of_mem_set hw with q | q
            · exact okt w q
            · rw [q]
              exact wm1
          · by_cases ij : j = i
            · rw [ij]
            · rw [List.getElem?_set_ne ij, List.getElem?_set_self (by omega)]
              exact hw1
        · walk_at "rd"
          refine Bar.rIxL_ (SqL.of hM10) (atI_nat hqV) ?_
          walk_at "rd"
          refine Bar.rIxT_ (SqT.of e1) (atI_nat (j := 0) rfl) ?_
          walk_at "rd"
          refine Bar.rIxL_ (SqL.of hM10) (atI_nat hq2V) ?_
          walk_at "rd"
          refine Bar.rIxT_ (SqT.of e2) (atI_nat (j := 1) rfl) ?_
          walk_at "rd"
          refine Bar.rIxL_ (SqL.of hM10) (atI_nat hq2V) ?_
          walk_at "rd"
          refine Bar.rIxT_ (SqT.of e2) (atI_nat (j := 2) rfl) ?_
          walk_at "rd"
          intro t ht
          have B11 := B10.new (o := .tup [.str w1.z, oV w2.o, .int w2.r]) ht
          walk_at "rd"
          refine Bar.rSetL_ (j := j) B11.hu hj ?_
          walk_at "rd"
          rw [show (ts.map V.ref).set j (.ref t) = (ts.set j t).map V.ref by rw [List.map_set]]
          have B12 := B11.put (ys := (ts.set j t).map V.ref)
          intro R hR
          have B13 := B12.new (o := .lst [.str y, .bl g, .ref M, .ref P0]) hR
          have ht13 := ((ht10.to fun _ _ e => RwAt.same (fun _ _ e => Bar.lkNew ht e) e).set (i := j) (show RwAt _ t ⟨w1.z, w2.o, w2.r⟩ from upd_same)).to fun _ _ e => RwAt.same (fun _ _ e => Bar.lkNew (o := .lst [.str y, .bl g, .ref M, .ref P0]) hR e) (RwAt.set (o := .lst ((ts.set j t).map V.ref)) B11.hu e)
          refine k R M P0 y g _ _ [] _ (B13.kpb hM0 K04) oy ny yz upd_same B13.hu (Bar.lkNew hR (Bar.lkNe nP.2 (Bar.lkNew ht hP10))) ht13 (by rw [List.length_set]; exact lt) (fun w hw => ?_) (.inl rfl)
          rcases List.mem_or_eq_of_mem_set hw with q | q
          · exact okt w q
          · rw [q]
            exact ⟨wm1.nm, wm2.r1, wm2.r4, wm2.on, wm2.ol⟩
      · walk_at "rd"
        intro R hR
        have B13 := B7.new (o := .lst [.str y, .bl g, .ref M, .ref P0]) hR
        exact k R M P0 y g _ _ [] _ (B13.kpb hM0 K04) oy ny yz upd_same B13.hu (Bar.lkNew hR hP7) (ht7.to fun _ _ e => RwAt.same (fun _ _ e => Bar.lkNew hR e) e) lt okt (.inl rfl)
    · walk_at "rd"
      intro R hR
      have B13 := B6.new (o := .lst [.str y, .bl g, .ref M, .ref P0]) hR
      exact k R M P0 y g _ _ [] _ (B13.kpb hM0 K04) oy ny yz upd_same B13.hu (Bar.lkNew hR hP6) (ht6.to fun _ _ e => RwAt.same (fun _ _ e => Bar.lkNew hR e) e) lt okt (.inl rfl)
end

end Lw
namespace Lw
open PySem L2 Bar

/-! ### _law_same -/
def flat : V → Prop
  | .non => True
  | .bl _ => True
  | .int _ => True
  | .str _ => True
  | _ => False
def SameAt (K : PySem.W.Frag) (H : Hp) : Nat → V → V → Prop
  | 0, _, _ => False
  | n + 1, v, u => (v = u ∧ flat v) ∨ (∃ a b : Addr, v = .ref a ∧ u = .ref b ∧ KEmp K a ∧ H b = some (.tup [])) ∨ ∃ (a b : Addr) (xs ys : List V), v = .ref a ∧ u = .ref b ∧ ((H a = some (.lst xs) ∧ H b = some (.lst ys)) ∨ (H a = some (.tup xs) ∧ H b = some (.tup ys))) ∧
    xs.length ≤ 1000 ∧ xs.length = ys.length ∧ ∀ (i : Nat) (x y : V), xs[i]? = some x → ys[i]? = some y → SameAt K H n x y
def spSame (K : PySem.W.Frag) (n : Nat) : Sp := fun vs H Q _ => ∃ v u, vs = [v, u] ∧ SameAt K H n v u ∧ Q (.bl true) H
def spInt : Sp := fun vs H Q _ => ∃ i : Int, vs = [.int i] ∧ Q (.bl true) H
instance {i : Int} {H : Hp} {Q : VK} {E : XK} : Bar.Rd (spInt ([.int i] ++ []) H Q E) (Q (.bl true) H) := ⟨fun h => ⟨i, rfl, h⟩⟩
theorem same_int {K : PySem.W.Frag} {n : Nat} {i : Int} {H : Hp} {Q : VK} {E : XK} (h : Q (.bl true) H) : spSame K (n + 1) [.int i, .int i] H Q E := ⟨_, _, rfl, .inl ⟨rfl, trivial⟩, h⟩
theorem same_intE {K : PySem.W.Frag} {n : Nat} {i j : Int} {H : Hp} {Q : VK} {E : XK} (e : i = j) (h : Q (.bl true) H) : spSame K (n + 1) [.int i, .int j] H Q E := by
  subst e
  exact same_int h
theorem same_bl {K : PySem.W.Frag} {n : Nat} {i : Bool} {H : Hp} {Q : VK} {E : XK} (h : Q (.bl true) H) : spSame K (n + 1) [.bl i, .bl i] H Q E := ⟨_, _, rfl, .inl ⟨rfl, trivial⟩, h⟩
section
variable {P : Program} {w : World} {K : PySem.W.Frag} {mg : Str → Option Value} {base : Heap}
theorem ok_int {f : Addr} {fd : FuncData} (F : Fun K "_law_int" "_law_int" s_law_int f fd) (T : Txt mg) : FnOk P w K mg base CX0 1 f fd P_law_int spInt := by
  refine F.ok sc_law_int (fun vs H Q E h => ?_) (fun cdv A outer s H vs Q E hr h => ?_)
  · obtain ⟨i, rfl, _⟩ := h
    rfl
  · obtain ⟨i, rfl, k⟩ := h
    refine ⟨_, (pss_one (ps_ret (pe_and (pe_callB call_isi rfl T.b_isinstance (by decide +kernel) (pa_cons (pv 0) (pa_cons (pe_bltn (v := .ty "int") (u := .type "int") rfl T.b_int (by decide +kernel) rfl) pa_nil))) (pe_one (pe_not (pe_callB call_isi rfl T.b_isinstance (by decide +kernel) (pa_cons (pv 0) (pa_cons (pe_bltn (v := .ty "bool") (u := .type "bool") rfl T.b_bool (by decide +kernel) rfl) pa_nil)))))))), ?_⟩
    refine Bar.rStart (σ := [some (.int i)]) rfl ?_
    walk_at "rd"
    exact k
theorem fn_same {f : Addr} {fd : FuncData} (F : Fun K "_law_same" "_law_same" s_law_same f fd) (T : Txt mg) (gf : mg "_law_same" = some (.ref f)) (bf : Binds K fd P_law_same [])
    (f_law_int : Fn P w K mg base "_law_int" P_law_int [] 1 spInt) : ∀ n, Fn P w K mg base "_law_same" P_law_same [] (n + 1) (spSame K n) := by
  intro n
  induction n with
  | zero =>
    refine ⟨f, fd, [], gf, F.kp, bf, .nil, fn_false ?_⟩
    rintro vs H Q E ⟨v, u, _, h, _⟩
    exact h
  | succ n f_law_same =>
    refine ⟨f, fd, [], gf, F.kp, bf, .nil, F.ok sc_law_same (fun vs H Q E h => ?_) (fun cdv A outer s H vs Q E hr h => ?_)⟩
    · obtain ⟨v, u, rfl, _⟩ := h
      rfl
    · obtain ⟨v, u, rfl, h, k⟩ := h
      have hr1 : Room 1 (A.deeper (PyProof.Rows.envOfC "_law_same" (defScope s_law_same) s.heap.objs.size f cdv)) := hr.mono (by omega)
      have hr2 : Room (n + 1) (A.deeper (PyProof.Rows.envOfC "_law_same" (defScope s_law_same) s.heap.objs.size f cdv)) := hr
      refine ⟨_, (pss_cons (ps_if (pt_cmpR o_isN (pv 1) pe_non (nomark _)) (pss_one (ps_ret (pe_cmpR o_isN (pv 0) pe_non (nomark _)))) pss_nil)
    (pss_cons (ps_if (pt_val (pe_callB call_isi rfl T.b_isinstance (by decide +kernel) (pa_cons (pv 1) (pa_cons (pe_bltn (v := .ty "bool") (u := .type "bool") rfl T.b_bool (by decide +kernel) rfl) pa_nil)))) (pss_one (ps_ret (pe_and (pe_callB call_isi rfl T.b_isinstance (by decide +kernel) (pa_cons (pv 0) (pa_cons (pe_bltn (v := .ty "bool") (u := .type "bool") rfl T.b_bool (by decide +kernel) rfl) pa_nil))) (pe_one (pe_cmpR op_eq (pv 0) (pv 1) (nomark _)))))) pss_nil)
    (pss_cons (ps_if (pt_val (pe_callB call_isi rfl T.b_isinstance (by decide +kernel) (pa_cons (pv 1) (pa_cons (pe_bltn (v := .ty "int") (u := .type "int") rfl T.b_int (by decide +kernel) rfl) pa_nil)))) (pss_one (ps_ret (pe_and (pe_fn f_law_int (hr.mono (by omega)) rfl (pa_cons (pv 0) pa_nil)) (pe_one (pe_cmpR op_eq (pv 0) (pv 1) (nomark _)))))) pss_nil)
    (pss_cons (ps_if (pt_val (pe_callB call_isi rfl T.b_isinstance (by decide +kernel) (pa_cons (pv 1) (pa_cons (pe_bltn (v := .ty "str") (u := .type "str") rfl T.b_str (by decide +kernel) rfl) pa_nil)))) (pss_one (ps_ret (pe_and (pe_callB call_isi rfl T.b_isinstance (by decide +kernel) (pa_cons (pv 0) (pa_cons (pe_bltn (v := .ty "str") (u := .type "str") rfl T.b_str (by decide +kernel) rfl) pa_nil))) (pe_one (pe_cmpR op_eq (pv 0) (pv 1) (nomark _)))))) pss_nil)
    (pss_cons (ps_if (PW.pt (pw_or (pt_cmpR op_ne (pe_callB call_isi rfl T.b_isinstance (by decide +kernel) (pa_cons (pv 1) (pa_cons (pe_bltn (v := .ty "list") (u := .type "list") rfl T.b_list (by decide +kernel) rfl) pa_nil))) (pe_callB call_isi rfl T.b_isinstance (by decide +kernel) (pa_cons (pv 0) (pa_cons (pe_bltn (v := .ty "list") (u := .type "list") rfl T.b_list (by decide +kernel) rfl) pa_nil))) (nomark _)) (pw_or1 (pt_cmpR op_ne (pe_callB call_isi rfl T.b_isinstance (by decide +kernel) (pa_cons (pv 1) (pa_cons (pe_bltn (v := .ty "tuple") (u := .type "tuple") rfl T.b_tuple (by decide +kernel) rfl) pa_nil))) (pe_callB call_isi rfl T.b_isinstance (by decide +kernel) (pa_cons (pv 0) (pa_cons (pe_bltn (v := .ty "tuple") (u := .type "tuple") rfl T.b_tuple (by decide +kernel) rfl) pa_nil))) (nomark _))))) (pss_one (ps_ret pe_bl)) pss_nil)
    (pss_cons (ps_if (pt_cmpR op_ne (pe_callB c_len rfl T.b_len PySem.boot_len (pa_cons (pv 0) pa_nil)) (pe_callB c_len rfl T.b_len PySem.boot_len (pa_cons (pv 1) pa_nil)) (nomark _)) (pss_one (ps_ret pe_bl)) pss_nil)
    (pss_cons (ps_for PassesOwn.never rfl  (pi_range1 rfl T.b_range (pa_cons (pe_callB c_len rfl T.b_len PySem.boot_len (pa_cons (pv 1) pa_nil)) pa_nil)) (pg_name (i := 2) sc_law_same.nd rfl (Or.inl rfl)) (pss_one (ps_if (pt_not (pt_val (pe_fn f_law_same (hr.mono (by omega)) rfl (pa_cons (pe_ix ix_seq (pv 0) (pv 2) (fun _ _ => rfl)) (pa_cons (pe_ix ix_seq (pv 1) (pv 2) (fun _ _ => rfl)) pa_nil))))) (pss_one (ps_ret pe_bl)) pss_nil)))
    (pss_one (ps_ret pe_bl))))))))), ?_⟩
      refine Bar.rStart (σ := [some v, some u, none]) rfl ?_
      rcases h with ⟨rfl, hf⟩ | ⟨a, b, rfl, rfl, he, hb⟩ | ⟨a, b, xs, ys, rfl, rfl, hab, hx, hxy, hall⟩
      · cases v with
        | non =>
          walk_at "rd"
          exact k
        | bl z =>
          walk_at "rd"
          rw [beq_self_eq_true]
          exact k
        | int z =>
          walk_at "rd"
          rw [decide_eq_true rfl]
          exact k
        | str z =>
          walk_at "rd"
          exact k
        | byt z => exact hf.elim
        | flt z => exact hf.elim
        | ref z => exact hf.elim
        | ty z => exact hf.elim
      · have hs : SqT K H a [] := he.sq
        obtain ⟨eo, _, _, eo1, eo2, _, _⟩ := he
        have iL : ∀ {Q : VK}, Q (.bl false) H → rIsi K [.ref a, .ty "list"] H Q := fun q => isiTy (.kTuple eo1 eo2) rfl q
        have iT : ∀ {Q : VK}, Q (.bl true) H → rIsi K [.ref a, .ty "tuple"] H Q := fun q => isiTy (.kTuple eo1 eo2) rfl q
        walk_at "rd"
        refine iL ?_
        walk_at "rd"
        refine iT ?_
        walk_at "rd"
        rw [decide_eq_true rfl]
        walk_at "rd"
        refine Bar.forR 0 (by simp) (fun _ σ H' => H' = H ∧ ∃ x, σ = [some (.ref a), some (.ref b), x]) (by decide) ⟨rfl, _, rfl⟩ (fun i σ H' hi _ => absurd hi (Nat.not_lt_zero _)) ?_
        rintro σ H' ⟨rfl, x, rfl⟩
        walk_at "rd"
        exact k
      · have hloop : ∀ x : Option V, x = none → True := fun _ _ => trivial
        rcases hab with ⟨ha, hb⟩ | ⟨ha, hb⟩
        · walk_at "rd"
          rw [hxy, decide_eq_true rfl]
          walk_at "rd"
          refine Bar.forR ys.length (by simp) (fun _ σ H' => H' = H ∧ ∃ x, σ = [some (.ref a), some (.ref b), x]) (by omega) ⟨rfl, _, rfl⟩ ?_ ?_
          · rintro i σ H' hi ⟨e, x, rfl⟩
            subst e
            obtain ⟨y, hy⟩ : ∃ y, ys[i]? = some y := ⟨_, List.getElem?_eq_getElem hi⟩
            obtain ⟨x', hx'⟩ : ∃ y, xs[i]? = some y := ⟨_, List.getElem?_eq_getElem (by omega)⟩
            walk_at "rd"
            refine Bar.rIxSL ha (atI_nat hx') ?_
            walk_at "rd"
            refine Bar.rIxSL hb (atI_nat hy) ?_
            walk_at "rd"
            refine ⟨x', y, rfl, hall i _ _ hx' hy, ?_⟩
            walk_at "rd"
            exact ⟨rfl, _, rfl⟩
          · rintro σ H' ⟨rfl, x, rfl⟩
            walk_at "rd"
            exact k
        · walk_at "rd"
          rw [hxy, decide_eq_true rfl]
          walk_at "rd"
          refine Bar.forR ys.length (by simp) (fun _ σ H' => H' = H ∧ ∃ x, σ = [some (.ref a), some (.ref b), x]) (by omega) ⟨rfl, _, rfl⟩ ?_ ?_
          · rintro i σ H' hi ⟨e, x, rfl⟩
            subst e
            obtain ⟨y, hy⟩ : ∃ y, ys[i]? = some y := ⟨_, List.getElem?_eq_getElem hi⟩
            obtain ⟨x', hx'⟩ : ∃ y, xs[i]? = some y := ⟨_, List.getElem?_eq_getElem (by omega)⟩
            walk_at "rd"
            refine Bar.rIxST ha (atI_nat hx') ?_
            walk_at "rd"
            refine Bar.rIxST hb (atI_nat hy) ?_
            walk_at "rd"
            refine ⟨x', y, rfl, hall i _ _ hx' hy, ?_⟩
            walk_at "rd"
            exact ⟨rfl, _, rfl⟩
          · rintro σ H' ⟨rfl, x, rfl⟩
            walk_at "rd"
            exact k
end


/-! ### grids -/
abbrev gf (st o : Int) : List (Str × V) := [("step", .int st), ("offset", .int o)]
def GridAt (C : Addr) (H : Hp) (g : Addr) (st o : Int) : Prop := ∃ dx, H g = some (.ins C dx (gf st o))
structure GTxt (K : PySem.W.Frag) (C : Addr) : Prop where
  cl : Cls K C
  nS : NoAttr K C "step"
  nO : NoAttr K C "offset"
theorem put_step (st : Int) : putF ("step" : Str) (.int st) [] = ([("step", V.int st)] : List (Str × V)) := rfl
theorem put_off (st o : Int) : putF ("offset" : Str) (.int o) ([("step", V.int st)] : List (Str × V)) = gf st o := by
  show (if ("step" : Str) = "offset" then _ else (("step" : Str), V.int st) :: putF "offset" (V.int o) []) = _
  rw [if_neg (show ¬ (("step" : Str) = "offset") by decide +kernel)]
  rfl
theorem gf_step (st o : Int) : (gf st o).lookup ("step" : Str) = some (.int st) := by
  rw [← put_off, lookup_putF, if_neg (show ¬ (("step" : Str) = "offset") by decide +kernel), ← put_step, lookup_putF, if_pos rfl]
theorem gf_off (st o : Int) : (gf st o).lookup ("offset" : Str) = some (.int o) := by
  rw [← put_off, lookup_putF, if_pos rfl]
/-- a new grid -/
def spInit (C : Addr) : Sp := fun vs H Q _ => ∃ (p dx : Addr) (st o : Int), vs = [.ref p, .int st, .int o] ∧ H p = some (.ins C dx []) ∧ 1 ≤ st ∧ ∀ H', Kp p H H' → H' p = some (.ins C dx (gf st (o % st))) → Q .non H'
def spIn (C : Addr) : Sp := fun vs H Q _ => ∃ (g : Addr) (st o x : Int), vs = [.ref g, .int x] ∧ GridAt C H g st o ∧ 1 ≤ st ∧ Q (.bl (decide (x % st = o))) H
section
variable {P : Program} {w : World} {K : PySem.W.Frag} {mg : Str → Option Value} {base : Heap} {C : Addr}
theorem mkG {H : Hp} {R : Addr → Hp → Prop} {E : XK} {st o : Int} (s1 : 1 ≤ st) (h : ∀ x H2, H x = none → Same H H2 → GridAt C H2 x st (o % st) → R x H2) :
    ∀ x dx, H x = none → H dx = none → dx ≠ x → spInit C [.ref x, .int st, .int o] (upd (upd H dx (.own x)) x (.ins C dx [])) (fun v H2 => v = .non ∧ R x H2) E := by
  intro x dx hx hdx ne
  refine ⟨x, dx, st, o, rfl, upd_same, s1, fun H' k hp => ⟨rfl, h x H' hx (fun b u e => ?_) ⟨dx, hp⟩⟩⟩
  have nb : b ≠ x := ne_of_none e hx
  refine k b u nb ?_
  rw [upd_ne nb]
  exact Bar.lkNew hdx e
theorem GridAt.same {H H' : Hp} {g : Addr} {st o : Int} (k : Same H H') (h : GridAt C H g st o) : GridAt C H' g st o := by
  obtain ⟨dx, h⟩ := h
  exact ⟨dx, k _ _ h⟩
theorem GridAt.kp {b : Addr} {xs : List V} {H H' : Hp} {g : Addr} {st o : Int} (k : Kp b H H') (hb : H b = some (.lst xs)) (h : GridAt C H g st o) : GridAt C H' g st o := by
  obtain ⟨dx, h⟩ := h
  exact ⟨dx, k _ _ (ne_of h hb (by intro z; cases z)) h⟩
theorem GridAt.kp2 {b l : Addr} {xs : List V} {H H' : Hp} {g : Addr} {st o : Int} (k : Kp2 b l H H') (hb : H b = some (.lst xs)) (hl : H l = none) (h : GridAt C H g st o) : GridAt C H' g st o := by
  obtain ⟨dx, h⟩ := h
  exact ⟨dx, k _ _ (ne_of h hb (by intro z; cases z)) (ne_of_none h hl) h⟩
theorem rIn_ {H : Hp} {g : Addr} {st o x : Int} {R : Bool → Prop} (h : GridAt C H g st o) (s1 : 1 ≤ st) (r : R (decide (x % st = o))) {Q : VK} (e : ∀ b, R b → Q (.bl b) H) : rOwnIn C (spIn C) (.int x) (.ref g) H Q := by
  obtain ⟨dx, hg⟩ := h
  exact ⟨g, dx, _, rfl, hg, g, st, o, x, rfl, ⟨dx, hg⟩, s1, _, rfl, e _ r⟩
theorem rInG {H : Hp} {g : Addr} {st o x : Int} {Q : VK} (h : GridAt C H g st o) (s1 : 1 ≤ st) (r : Q (.bl (decide (x % st = o))) H) : rOwnIn C (spIn C) (.int x) (.ref g) H Q := by
  obtain ⟨dx, hg⟩ := h
  exact ⟨g, dx, _, rfl, hg, g, st, o, x, rfl, ⟨dx, hg⟩, s1, _, rfl, r⟩
theorem in_iff (u b a : Int) : decide (u % a = b % a) = decide ((u - b) % a = 0) := decide_eq_decide.mpr Int.emod_eq_emod_iff_emod_sub_eq_zero
theorem in_ne (u b a : Int) : (!(decide (u % a = b % a) == decide ((u - b) % a = 0))) = false := by
  rw [in_iff]
  simp
theorem GridAt.new {H : Hp} {g p : Addr} {u : HO} {st o : Int} (hp : H p = none) (h : GridAt C H g st o) : GridAt C (upd H p u) g st o := by
  obtain ⟨dx, h⟩ := h
  exact ⟨dx, Bar.lkNew hp h⟩
theorem ok_init {f : Addr} {fd : FuncData} {dvs : List V} (F : FunD K "__init__" "Grid.__init__" (defArgs s_Grid___init__) (defBody s_Grid___init__) (defScope s_Grid___init__) dvs [] f fd) (G : GTxt K C) : FnOk P w K mg base CX0 1 f fd P_Grid___init__ (spInit C) := by
  refine F.ok sc_Grid___init__ (fun vs H Q E h => ?_) (fun cdv A outer s H vs Q E hr h => ?_)
  · obtain ⟨p, dx, st, o, rfl, _⟩ := h
    rfl
  · obtain ⟨p, dx, st, o, rfl, hp, s1, k⟩ := h
    refine ⟨_, PSs.nox (pss_cons (ps_if (pt_cmpR op_lt (pv 1) pe_int (nomark _)) (pss_one ps_never) pss_nil)
    (pss_cons (ps_fld (pv 0) (pv 1) rfl)
    (pss_one (ps_fld (pv 0) (pe_op op_mod (pv 2) (pv 1)) rfl)))), ?_⟩
    refine Bar.rStart (σ := [some (.ref p), some (.int st), some (.int o)]) rfl ?_
    walk_at "rd"
    refine ite2 (fun h => absurd (of_decide_eq_true h) (by omega)) (fun h => ?_)
    walk_at "rd"
    refine ⟨p, C, dx, _, rfl, hp, G.cl, G.nS, (by show 0 < 1000; decide), ?_⟩
    rw [put_step]
    walk_at "rd"
    refine ⟨p, C, dx, _, rfl, upd_same, G.cl, G.nO, (by show 1 < 1000; decide), ?_⟩
    rw [put_off]
    walk_at "rd"
    refine k _ (fun a o' n e => ?_) upd_same
    rw [upd_ne n, upd_ne n]
    exact e
end

/-! ### makings -/
/-- the program's track at x -/
def TkAt (K : PySem.W.Frag) (CC CT : Addr) (H : Hp) (x : Addr) (z : Str) (cs : List Dc) : Prop := ∃ dx t qs pl, H x = some (.ins CT dx (tkf z t (total cs) pl)) ∧ H t = some (.tup (qs.map V.ref)) ∧ All2 (CpAt K CC H) qs cs ∧ H pl = some (.tup ((places 0 cs).map V.int))
theorem TkAt.same {K : PySem.W.Frag} {CC CT x : Addr} {H H' : Hp} {z : Str} {cs : List Dc} (S : Same H H') (h : TkAt K CC CT H x z cs) : TkAt K CC CT H' x z cs := by
  obtain ⟨dx, t, qs, pl, a, b, c, d⟩ := h
  exact ⟨dx, t, qs, pl, S _ _ a, S _ _ b, c.to fun _ _ q => q.same S, S _ _ d⟩
theorem TupAt.kpl {K : PySem.W.Frag} {H H' : Hp} {t b : Addr} {ns : List Int} {xs : List V} (k : Kp b H H') (hb : H b = some (.lst xs)) (h : TupAt K H t ns) : TupAt K H' t ns := h.kp k hb fun _ z => by cases z
theorem CpAt.kpl {K : PySem.W.Frag} {C q b : Addr} {H H' : Hp} {xs : List V} {c : Dc} (k : Kp b H H') (hb : H b = some (.lst xs)) (h : CpAt K C H q c) : CpAt K C H' q c := by
  obtain ⟨dx, g, t, a1, a2⟩ := h
  exact ⟨dx, g, t, k _ _ (ne_of a1 hb (by intro z; cases z)) a1, a2.kpl k hb⟩
theorem TkAt.kpl {K : PySem.W.Frag} {CC CT x b : Addr} {H H' : Hp} {z : Str} {cs : List Dc} {xs : List V} (k : Kp b H H') (hb : H b = some (.lst xs)) (h : TkAt K CC CT H x z cs) : TkAt K CC CT H' x z cs := by
  obtain ⟨dx, t, qs, pl, a, b', c, d⟩ := h
  exact ⟨dx, t, qs, pl, k _ _ (ne_of a hb (by intro z; cases z)) a, k _ _ (ne_of b' hb (by intro z; cases z)) b', c.to fun _ _ q => q.kpl k hb, k _ _ (ne_of d hb (by intro z; cases z)) d⟩
abbrev spClipM (K : PySem.W.Frag) (C CBN CN : Addr) : Sp := fun vs H Q _ => spClipX K C CBN CN vs H Q E0
abbrev gC (et : Addr) : List V → List V → List V := fun vs zs => vs ++ zs ++ [.ref et]
abbrev gD : List V → List V → List V := fun vs zs => vs ++ zs
theorem freshS {H : Hp} {x dx C : Addr} (hx : H x = none) (hdx : H dx = none) : Same H (upd (upd H dx (.own x)) x (.ins C dx [])) := fun _ _ e => Bar.lkNe (ne_of_none e hx) (Bar.lkNew hdx e)
theorem free_back {H H' : Hp} {d : Addr} (S : Same H H') (h : H' d = none) : H d = none := by
  cases e : H d with
  | none => rfl
  | some o =>
    rw [S _ _ e] at h
    cases h
theorem mkTrackX {K : PySem.W.Frag} {CC CT : Addr} {A : EA} {H : Hp} {x dx : Addr} {z : Str} {qs : List Addr} {cs : List Dc} {Q : VK} {E : XK} (hx : H x = none) (hdx : H dx = none) (oz : TxOk z) (hc : All2 (CpAt K CC H) qs cs) (l9 : cs.length ≤ 9) (okc : ∀ c ∈ cs, DOk c)
    (k : trackF z cs = none → ∀ H', Same H H' → TkAt K CC CT H' x z cs → Q .non H') (ke : ∀ e, trackF z cs = some e → ∀ d H', H d = none → Same H H' → H' d = some (.xd e.fs) → E (.ref (e.cls A)) (some d) H') : spRest (spTrackX K CC CT A) (.ref x :: .str z :: qs.map V.ref) (upd (upd H dx (.own x)) x (.ins CT dx [])) Q E := by
  have S0 : Same H (upd (upd H dx (.own x)) x (.ins CT dx [])) := freshS hx hdx
  refine ⟨[.ref x, .str z], qs.map V.ref, rfl, rfl, szLe (by rw [List.length_map, hc.1]; omega), fun t ht => ?_⟩
  have S1 : Same H (upd (upd (upd H dx (.own x)) x (.ins CT dx [])) t (.tup (qs.map V.ref))) := fun _ _ e => Bar.lkNew ht (S0 _ _ e)
  have hc1 := hc.to (R' := CpAt K CC (upd (upd (upd H dx (.own x)) x (.ins CT dx [])) t (.tup (qs.map V.ref)))) fun _ _ q => q.same S1
  have hx1 : (upd (upd (upd H dx (.own x)) x (.ins CT dx [])) t (.tup (qs.map V.ref))) x = some (.ins CT dx []) := Bar.lkNew ht upd_same
  refine ⟨x, dx, t, z, qs, cs, rfl, hx1, oz, upd_same, hc1, l9, okc, fun et pl H' K1 e1 e2 => ?_, fun e er d H' hd S eh => ke e er d H' (free_back S1 hd) (fun _ _ y => S _ _ (S1 _ _ y)) eh⟩
  have S2 : Same H H' := fun a o e => K1 a o (ne_of_none e hx) (S1 _ _ e)
  have ntx : t ≠ x := fun e => by
    rw [e, upd_same] at ht
    cases ht
  exact k et H' S2 ⟨dx, t, qs, pl, e1, K1 _ _ ntx upd_same, hc.to fun _ _ q => q.same S2, e2⟩


/-! ### clips made, tracks tried -/
theorem WOk.fine {w : Rw} (h : WOk w) : fault w.z w.o w.r [] = none := by
  have r1 := h.r1
  have r4 := h.r4
  cases e : w.o with
  | none =>
    have e1 := h.on e
    rw [fault_none h.nm, if_neg (by omega)]
    rfl
  | some l =>
    obtain ⟨l1, _⟩ := h.ol l e
    rw [fault_some h.nm, if_neg (by omega), if_neg (by omega)]
    rfl
theorem mkClipW {K : PySem.W.Frag} {C CBN CN : Addr} {H : Hp} {x dx g et : Addr} {w : Rw} {Q : VK} {E : XK} (hx : H x = none) (hdx : H dx = none) (ok : WOk w) (he : KEmp K et)
    (k : ∀ H', Same H H' → CpAt K C H' x w.dc → Q .non H') : spClipX K C CBN CN [.ref x, .str w.z, .ref g, oV w.o, .int w.r, .ref et] (upd (upd H dx (.own x)) x (.ins C dx [])) Q E :=
  ⟨x, dx, w.z, g, w.o, w.r, et, [], rfl, upd_same, (by have := (name_len ok.nm).2; omega), name_small ok.nm, .inr (.inr ⟨rfl, he⟩), .inl ⟨ok.fine, fun t' H' K1 e1 e2 => k H' (fun a b e => K1 a b (ne_of_none e hx) (freshS hx hdx _ _ e)) ⟨dx, g, t', e1, e2⟩⟩⟩
def PrOk (ws : List Rw) (pr : List Int) : Prop := pr = [] ∨ ∃ i j : Nat, pr = [(i : Int), (j : Int)] ∧ i < ws.length ∧ j < ws.length ∧ ws[i]? = ws[j]?
def spClips (K : PySem.W.Frag) (CC : Addr) : Sp := fun vs H Q _ => ∃ (M P : Addr) (ts : List Addr) (ws : List Rw) (pr : List Int), vs = [.ref M, .ref P] ∧ H M = some (.lst (ts.map V.ref)) ∧ H P = some (.lst (pr.map V.int)) ∧ All2 (RwAt H) ts ws ∧ ws.length ≤ 5 ∧ (∀ w ∈ ws, WOk w) ∧ PrOk ws pr ∧
  ∀ (D : Addr) (qs : List Addr) H', Same H H' → H' D = some (.lst (qs.map V.ref)) → All2 (CpAt K CC H') qs (ws.map Rw.dc) → Q (.ref D) H'
def spTrackOfX (K : PySem.W.Frag) (CC CT : Addr) (A : EA) : Sp := fun vs H Q E => ∃ (D : Addr) (z : Str) (qs : List Addr) (cs : List Dc), vs = [.str z, .ref D] ∧ H D = some (.lst (qs.map V.ref)) ∧ All2 (CpAt K CC H) qs cs ∧ cs.length ≤ 5 ∧ (∀ c ∈ cs, DOk c) ∧ TxOk z ∧
  (trackF z cs = none → ∀ x H', Same H H' → TkAt K CC CT H' x z cs → Q (.ref x) H') ∧ (∀ e, trackF z cs = some e → ∀ d H', H d = none → Same H H' → H' d = some (.xd e.fs) → E (.ref (e.cls A)) (some d) H')
def KFlt.told : KFlt → List V
  | .name z => [.str "name", .str z]
  | .none z => [.str "none", .str z]
  | .many => [.str "many", .str "clips", .int 3]
  | .empty z => [.str "empty", .str z]
  | .twice z => [.str "twice", .str z]
def dueV : Option KFlt → List V
  | Option.none => [.str "let"]
  | some e => e.told
/-- what a try tells -/
def TldAt (K : PySem.W.Frag) (CC CT : Addr) (H : Hp) (R : Addr) (z : Str) (cs : List Dc) : Prop := ∃ (T : Addr) (tr : V), H R = some (.lst [.ref T, tr]) ∧
  ((trackF z cs = none ∧ H T = some (.lst [.str "let"]) ∧ ∃ x, tr = .ref x ∧ TkAt K CC CT H x z cs) ∨ ∃ e, trackF z cs = some e ∧ H T = some (.lst (e.told ++ [.bl true, .bl true, .bl false, .bl false])) ∧ tr = .non)
def spTold (K : PySem.W.Frag) (CC CT : Addr) : Sp := fun vs H Q _ => ∃ (D : Addr) (z : Str) (qs : List Addr) (cs : List Dc), vs = [.str z, .ref D] ∧ H D = some (.lst (qs.map V.ref)) ∧ All2 (CpAt K CC H) qs cs ∧ cs.length ≤ 5 ∧ (∀ c ∈ cs, DOk c) ∧ TxOk z ∧ ∀ R H', Same H H' → TldAt K CC CT H' R z cs → Q (.ref R) H'
def spDue : Sp := fun vs H Q _ => ∃ (M : Addr) (y : Str) (g : Bool) (ts : List Addr) (ws : List Rw), vs = [.str y, .bl g, .ref M] ∧ nameB y = g ∧ H M = some (.lst (ts.map V.ref)) ∧ All2 (RwAt H) ts ws ∧ ws.length ≤ 5 ∧ ∀ D H', Same H H' → H' D = some (.lst (dueV (trackF y (ws.map Rw.dc)))) → Q (.ref D) H'
structure K5 (K : PySem.W.Frag) (A B1 B2 CB : Addr) : Prop where
  b : PySem.W.kitOne K (.ref A) (.ref CB) = some true
  v : PySem.W.kitOne K (.ref A) (.type "ValueError") = some true
  n1 : PySem.W.kitOne K (.ref A) (.ref B1) = some false
  n2 : PySem.W.kitOne K (.ref A) (.ref B2) = some false
theorem first_at : ∀ {us : List Str} {i : Nat} {z : Str}, us[i]? = some z → ∃ j, j ≤ i ∧ us[j]? = some z ∧ ∀ m, m < j → us[m]? ≠ some z
  | [], i, z, h => by cases h
  | a :: r, 0, z, h => ⟨0, Nat.le_refl _, h, fun m hm => absurd hm (Nat.not_lt_zero _)⟩
  | a :: r, i + 1, z, h => by
    by_cases e : a = z
    · exact ⟨0, Nat.zero_le _, by rw [e]; rfl, fun m hm => absurd hm (Nat.not_lt_zero _)⟩
    · obtain ⟨j, h1, h2, h3⟩ := first_at (us := r) (i := i) (z := z) h
      refine ⟨j + 1, by omega, h2, fun m hm => ?_⟩
      cases m with
      | zero =>
        intro q
        exact e (Option.some.inj q)
      | succ m => exact h3 m (by omega)
theorem void_eq : ∀ ws : List Rw, voidC (ws.map Rw.dc) = ((ws.filter fun w => w.o.isNone).map Rw.z).head?
  | [] => rfl
  | w :: r => by
    unfold voidC
    rw [List.map_cons]
    cases e : w.o with
    | none =>
      rw [List.find?_cons_of_pos (by show w.o.isNone = true; rw [e]; rfl), List.filter_cons_of_pos (by rw [e]; rfl)]
      rfl
    | some l =>
      rw [List.find?_cons_of_neg (by show ¬ w.o.isNone = true; rw [e]; intro z; cases z), List.filter_cons_of_neg (by rw [e]; intro z; cases z)]
      exact void_eq r
section
variable {P : Program} {w : World} {K : PySem.W.Frag} {mg : Str → Option Value} {base : Heap}
theorem ok_clips {f C_Grid C_Clip CBN CN et : Addr} {fd : FuncData} (F : Fun K "_law_clips" "_law_clips" s_law_clips f fd) (T : Txt mg) (he : KEmp K et) (mk_Grid2 : Made P w K mg base "Grid" C_Grid P_Grid___init__ [] 1 (spInit C_Grid))
    (mkk_Clip_grid_length_rounds : MadeK P w K mg base CX0 "Clip" C_Clip P_Clip___init__ ["grid", "length", "rounds"] 1 (gC et) 5 (spClipM K C_Clip CBN CN)) : FnOk P w K mg base CX0 7 f fd P_law_clips (spClips K C_Clip) := by
  refine F.ok sc_law_clips (fun vs H Q E h => ?_) (fun cdv A outer s H vs Q E hr h => ?_)
  · obtain ⟨M, P', ts, ws, pr, rfl, _⟩ := h
    rfl
  · obtain ⟨M, P', ts, ws, pr, rfl, hM, hP, hts, lw, okw, pk, k⟩ := h
    refine ⟨_, (pss_cons (ps_set (i := 2) sc_law_clips.nd rfl (Or.inl rfl) (pe_lst pa_nil))
    (pss_cons (ps_for PassesOwn.never rfl  (pi_list (pv 0)) (pg_name (i := 3) sc_law_clips.nd rfl (Or.inl rfl)) (pss_one (ps_expr (pe_bm PySem.F.plainAttrs_list PySem.F.slot_list_append PySem.F.type_list_append mt_append (pv 2) (pa_cons (pe_mkK mkk_Clip_grid_length_rounds (hr.mono (by omega)) rfl (pa_cons (pe_ix ix_tup (pv 3) pe_int (fun _ _ => rfl)) pa_nil) (pk_cons (pe_mk mk_Grid2 (hr.mono (by omega)) rfl (pa_cons pe_int (pa_cons pe_int pa_nil))) (pk_cons (pe_ix ix_tup (pv 3) pe_int (fun _ _ => rfl)) (pk_cons (pe_ix ix_tup (pv 3) pe_int (fun _ _ => rfl)) pk_nil)))) pa_nil)))))
    (pss_cons (ps_if (pt_cmpR op_gt (pe_callB c_len rfl T.b_len PySem.boot_len (pa_cons (pv 1) pa_nil)) pe_int (nomark _)) (pss_cons (ps_set (i := 4) sc_law_clips.nd rfl (Or.inl rfl) (pe_ix ix_list (pv 2) (pe_ix ix_list (pv 1) pe_int (fun _ _ => rfl)) (fun _ _ => rfl)))
    (pss_one (ps_asg (pv 4) (pg_sub (pv 2) (pe_ix ix_list (pv 1) pe_int (fun _ _ => rfl)) set_list)))) pss_nil)
    (pss_one (ps_ret (pv 2)))))), ?_⟩
    refine Bar.rStart (σ := [some (.ref M), some (.ref P'), none, none, none]) rfl ?_
    walk_at "rd"
    intro D hD
    walk_at "rd"
    refine Bar.forL (xs := ts.map V.ref) (fun i σ H' => Same H H' ∧ ∃ (us : List Addr) (u : Option V), H' D = some (.lst (us.map V.ref)) ∧ All2 (CpAt K C_Clip H') us ((ws.take i).map Rw.dc) ∧ σ = [some (.ref M), some (.ref P'), some (.ref D), u, none]) (SqL.of (Bar.lkNew hD hM)) ⟨fun _ _ e => Bar.lkNew hD e, [], _, upd_same, All2.nil, rfl⟩ (fun i σ H2 _ ⟨S, _⟩ => SqL.of (S _ _ hM)) ?_ ?_
    · rintro i v σ H1 hv ⟨S1, us, u, hw, hus, rfl⟩
      obtain ⟨t, ht, rfl, hi⟩ := refAt hv
      obtain ⟨t', c, ht', hc, dc⟩ := hts.at hi
      rw [ht] at ht'
      cases ht'
      have oc := okw c (List.mem_of_getElem? hc)
      have tk : (ws.take (i + 1)).map Rw.dc = (ws.take i).map Rw.dc ++ [c.dc] := by rw [List.take_add_one, hc, List.map_append]; rfl
      have ul : us.length < 10 := by rw [hus.1, List.length_map, List.length_take]; omega
      have ht1 := RwAt.same S1 dc
      walk_at "rd"
      refine Bar.rIxT_ (SqT.of ht1) (atI_nat (j := 0) rfl) ?_
      walk_at "rd"
      refine mkG (by decide) fun g H2 hg S2 G2 => ?_
      have ht2 := RwAt.same S2 ht1
      walk_at "rd"
      refine Bar.rIxT_ (SqT.of ht2) (atI_nat (j := 1) rfl) ?_
      walk_at "rd"
      refine Bar.rIxT_ (SqT.of ht2) (atI_nat (j := 2) rfl) ?_
      walk_at "rd"
      refine ⟨rfl, rfl, fun x dx hx hdx _ => mkClipW hx hdx oc he fun H4 S4 cp => ⟨rfl, ?_⟩⟩
      have S14 : Same H1 H4 := fun _ _ e => S4 _ _ (S2 _ _ e)
      have hw4 := S14 _ _ hw
      walk_at "rd"
      refine Bar.rAppend_ hw4 (Bar.szLt (by rw [List.length_map]; omega)) ?_
      walk_at "rd"
      refine ⟨fun a o e => Bar.lkNe (ne_of_none e hD) (S14 _ _ (S1 _ _ e)), us ++ [x], _, by rw [upd_same, List.map_append]; rfl, ?_, rfl⟩
      rw [tk]
      exact ((hus.to fun _ _ q => q.same S14).push cp).to fun _ _ q => q.kpl Kp.upd hw4
    · rintro σ H1 ⟨S1, us, u, hw, hus, rfl⟩
      rw [List.length_map, hts.1, List.take_length] at hus
      have hP1 := S1 _ _ hP
      walk_at "rd"
      refine ite2 (fun h => ?_) (fun h => ?_)
      · rcases pk with rfl | ⟨i, j, rfl, hi, hj, eij⟩
        · exact absurd (of_decide_eq_true h) (by decide)
        · have lu : us.length = ws.length := by rw [hus.1, List.length_map]
          obtain ⟨q, c, hq, hc, cp⟩ := hus.at (i := i) (by omega)
          have hqV : (us.map V.ref)[i]? = some (.ref q) := by rw [List.getElem?_map, hq]; rfl
          walk_at "rd"
          refine Bar.rIxL_ (SqL.of hw) (atI_nat hqV) ?_
          walk_at "rd"
          refine Bar.rSetL_ (j := j) hw ?_ ?_
          · rw [List.length_map]
            unfold ixN
            rw [if_pos (by omega), if_pos (by omega)]
            rfl
          walk_at "rd"
          have e1 : (ws.map Rw.dc).set j c = ws.map Rw.dc := by
            refine List.ext_getElem? fun m => ?_
            rw [List.getElem?_set]
            by_cases mj : j = m
            · rw [if_pos mj, ← mj, if_pos (by rw [List.length_map]; exact hj), ← hc, List.getElem?_map, List.getElem?_map, eij]
            · rw [if_neg mj]
          have h5 := (hus.set (i := j) cp).to fun _ _ w' => CpAt.kpl (Kp.upd (o := .lst ((us.map V.ref).set j (.ref q)))) hw w'
          rw [e1] at h5
          exact k D (us.set j q) _ (fun a o e => Bar.lkNe (ne_of_none e hD) (S1 _ _ e)) (by rw [upd_same, List.map_set]) h5
      · walk_at "rd"
        exact k D us _ S1 hw hus
theorem ok_trackOf {f C_Clip C_Track : Addr} {A : EA} {fd : FuncData} (F : Fun K "_law_track_of" "_law_track_of" s_law_track_of f fd) (T : Txt mg) (mkrx_Track : MadeRX P w K mg base "Track" C_Track 5 (spRest (spTrackX K C_Clip C_Track A))) : FnOk P w K mg base (L2.CX P w) 7 f fd P_law_track_of (spTrackOfX K C_Clip C_Track A) := by
  refine F.okX sc_law_track_of (fun vs H Q E h => ?_) (fun cdv A' outer s H vs Q E hr h => ?_)
  · obtain ⟨D, z, qs, cs, rfl, _⟩ := h
    rfl
  · obtain ⟨D, z, qs, cs, rfl, hD, hcs, l5, okc, oz, k, ke⟩ := h
    have lq := hcs.1
    refine ⟨_, (pss_cons (ps_if (pt_cmpR op_eq (pe_callB c_len rfl T.b_len PySem.boot_len (pa_cons (pv 1) pa_nil)) pe_int (nomark _)) (pss_one (ps_ret (pe_mkRX mkrx_Track (takes_of rfl rfl rfl rfl) (hr.mono (by omega)) rfl (pa_cons (pv 0) pa_nil)))) pss_nil)
    (pss_cons (ps_if (pt_cmpR op_eq (pe_callB c_len rfl T.b_len PySem.boot_len (pa_cons (pv 1) pa_nil)) pe_int (nomark _)) (pss_one (ps_ret (pe_mkRX mkrx_Track (takes_of rfl rfl rfl rfl) (hr.mono (by omega)) rfl (pa_cons (pv 0) (pa_cons (pe_ix ix_list (pv 1) pe_int (fun _ _ => rfl)) pa_nil))))) pss_nil)
    (pss_cons (ps_if (pt_cmpR op_eq (pe_callB c_len rfl T.b_len PySem.boot_len (pa_cons (pv 1) pa_nil)) pe_int (nomark _)) (pss_one (ps_ret (pe_mkRX mkrx_Track (takes_of rfl rfl rfl rfl) (hr.mono (by omega)) rfl (pa_cons (pv 0) (pa_cons (pe_ix ix_list (pv 1) pe_int (fun _ _ => rfl)) (pa_cons (pe_ix ix_list (pv 1) pe_int (fun _ _ => rfl)) pa_nil)))))) pss_nil)
    (pss_cons (ps_if (pt_cmpR op_eq (pe_callB c_len rfl T.b_len PySem.boot_len (pa_cons (pv 1) pa_nil)) pe_int (nomark _)) (pss_one (ps_ret (pe_mkRX mkrx_Track (takes_of rfl rfl rfl rfl) (hr.mono (by omega)) rfl (pa_cons (pv 0) (pa_cons (pe_ix ix_list (pv 1) pe_int (fun _ _ => rfl)) (pa_cons (pe_ix ix_list (pv 1) pe_int (fun _ _ => rfl)) (pa_cons (pe_ix ix_list (pv 1) pe_int (fun _ _ => rfl)) pa_nil))))))) pss_nil)
    (pss_cons (ps_if (pt_cmpR op_eq (pe_callB c_len rfl T.b_len PySem.boot_len (pa_cons (pv 1) pa_nil)) pe_int (nomark _)) (pss_one (ps_ret (pe_mkRX mkrx_Track (takes_of rfl rfl rfl rfl) (hr.mono (by omega)) rfl (pa_cons (pv 0) (pa_cons (pe_ix ix_list (pv 1) pe_int (fun _ _ => rfl)) (pa_cons (pe_ix ix_list (pv 1) pe_int (fun _ _ => rfl)) (pa_cons (pe_ix ix_list (pv 1) pe_int (fun _ _ => rfl)) (pa_cons (pe_ix ix_list (pv 1) pe_int (fun _ _ => rfl)) pa_nil)))))))) pss_nil)
    (pss_one (ps_ret (pe_mkRX mkrx_Track (takes_of rfl rfl rfl rfl) (hr.mono (by omega)) rfl (pa_cons (pv 0) (pa_cons (pe_ix ix_list (pv 1) pe_int (fun _ _ => rfl)) (pa_cons (pe_ix ix_list (pv 1) pe_int (fun _ _ => rfl)) (pa_cons (pe_ix ix_list (pv 1) pe_int (fun _ _ => rfl)) (pa_cons (pe_ix ix_list (pv 1) pe_int (fun _ _ => rfl)) (pa_cons (pe_ix ix_list (pv 1) pe_int (fun _ _ => rfl)) pa_nil)))))))))))))), ?_⟩
    refine Bar.rStart (σ := [some (.str z), some (.ref D)]) rfl ?_
    walk_at "rd"
    have go : ∀ (x dx : Addr), H x = none → H dx = none → dx ≠ x → spRest (spTrackX K C_Clip C_Track A) (.ref x :: .str z :: qs.map V.ref) (upd (upd H dx (.own x)) x (.ins C_Track dx [])) (fun v H2 => v = .non ∧ Q (.ref x) H2) E := fun x dx hx hdx _ =>
      mkTrackX hx hdx oz hcs (by omega) okc (fun et H' S tk => ⟨rfl, k et x H' S tk⟩) fun e er d H' hd S eh => ke e er d H' hd S eh
    clear k ke
    match qs, hD, hcs, lq, go with
    | [], hD, hcs, lq, go =>
      refine Bar.iteBT rfl ?_
      walk_at "rd"
      exact fun x dx hx hdx ne => go x dx hx hdx ne
    | [a1], hD, hcs, lq, go =>
      refine Bar.iteBF rfl ?_
      walk_at "rd"
      refine Bar.iteBT rfl ?_
      walk_at "rd"
      exact fun x dx hx hdx ne => go x dx hx hdx ne
    | [a1, a2], hD, hcs, lq, go =>
      refine Bar.iteBF rfl ?_
      walk_at "rd"
      refine Bar.iteBF rfl ?_
      walk_at "rd"
      refine Bar.iteBT rfl ?_
      walk_at "rd"
      exact fun x dx hx hdx ne => go x dx hx hdx ne
    | [a1, a2, a3], hD, hcs, lq, go =>
      refine Bar.iteBF rfl ?_
      walk_at "rd"
      refine Bar.iteBF rfl ?_
      walk_at "rd"
      refine Bar.iteBF rfl ?_
      walk_at "rd"
      refine Bar.iteBT rfl ?_
      walk_at "rd"
      exact fun x dx hx hdx ne => go x dx hx hdx ne
    | [a1, a2, a3, a4], hD, hcs, lq, go =>
      refine Bar.iteBF rfl ?_
      walk_at "rd"
      refine Bar.iteBF rfl ?_
      walk_at "rd"
      refine Bar.iteBF rfl ?_
      walk_at "rd"
      refine Bar.iteBF rfl ?_
      walk_at "rd"
      refine Bar.iteBT rfl ?_
      walk_at "rd"
      exact fun x dx hx hdx ne => go x dx hx hdx ne
    | [a1, a2, a3, a4, a5], hD, hcs, lq, go =>
      refine Bar.iteBF rfl ?_
      walk_at "rd"
      refine Bar.iteBF rfl ?_
      walk_at "rd"
      refine Bar.iteBF rfl ?_
      walk_at "rd"
      refine Bar.iteBF rfl ?_
      walk_at "rd"
      refine Bar.iteBF rfl ?_
      walk_at "rd"
      exact fun x dx hx hdx ne => go x dx hx hdx ne
    | a1 :: a2 :: a3 :: a4 :: a5 :: a6 :: r, hD, hcs, lq, go => exact absurd lq (by show ¬ (r.length + 6 = _); omega)
end

end Lw
namespace Lw
open PySem L2 Bar
section
variable {P : Program} {w : World} {K : PySem.W.Frag} {mg : Str → Option Value} {base : Heap}
theorem ok_told {f CC CT C_BadName C_NoClips C_TooMany C_EmptyClip C_Twice C_BarclipsError : Addr} {fd : FuncData} (F : Fun K "_law_told" "_law_told" s_law_told f fd) (T : Txt mg)
    (fx_law_track_of : FnX P w K mg base "_law_track_of" P_law_track_of [] 7 (spTrackOfX K CC CT ⟨C_BadName, C_NoClips, C_TooMany, C_EmptyClip, C_Twice⟩)) (eb : EBase K mg "BarclipsError" C_BarclipsError)
    (ee_BadName : ETxt K mg "BadName" C_BadName) (ee_NoClips : ETxt K mg "NoClips" C_NoClips) (ee_TooMany : ETxt K mg "TooMany" C_TooMany) (ee_EmptyClip : ETxt K mg "EmptyClip" C_EmptyClip) (ee_Twice : ETxt K mg "Twice" C_Twice)
    (no_BadName_name : PySem.W.findIn K (.ref C_BadName) "name" = some none) (no_NoClips_name : PySem.W.findIn K (.ref C_NoClips) "name" = some none) (no_TooMany_kind : PySem.W.findIn K (.ref C_TooMany) "kind" = some none) (no_TooMany_most : PySem.W.findIn K (.ref C_TooMany) "most" = some none) (no_EmptyClip_name : PySem.W.findIn K (.ref C_EmptyClip) "name" = some none) (no_Twice_name : PySem.W.findIn K (.ref C_Twice) "name" = some none) (be_ValueError : mg "ValueError" = none)
    (kB : K5 K C_BadName C_NoClips C_Twice C_BarclipsError) (kN : K5 K C_NoClips C_BadName C_TooMany C_BarclipsError) (kM : K5 K C_TooMany C_NoClips C_Twice C_BarclipsError) (kE : K5 K C_EmptyClip C_NoClips C_Twice C_BarclipsError) (kT : K5 K C_Twice C_BadName C_EmptyClip C_BarclipsError)
    (pNB : PySem.W.exmOne K (.ref C_NoClips) (.ref C_BadName) = some false) (pMB : PySem.W.exmOne K (.ref C_TooMany) (.ref C_BadName) = some false) (pMN : PySem.W.exmOne K (.ref C_TooMany) (.ref C_NoClips) = some false) (pEB : PySem.W.exmOne K (.ref C_EmptyClip) (.ref C_BadName) = some false) (pEN : PySem.W.exmOne K (.ref C_EmptyClip) (.ref C_NoClips) = some false) (pEM : PySem.W.exmOne K (.ref C_EmptyClip) (.ref C_TooMany) = some false) (pTB : PySem.W.exmOne K (.ref C_Twice) (.ref C_BadName) = some false) (pTN : PySem.W.exmOne K (.ref C_Twice) (.ref C_NoClips) = some false) (pTM : PySem.W.exmOne K (.ref C_Twice) (.ref C_TooMany) = some false) (pTE : PySem.W.exmOne K (.ref C_Twice) (.ref C_EmptyClip) = some false) : FnOk P w K mg base CX0 8 f fd P_law_told (spTold K CC CT) := by
  refine F.ok sc_law_told (fun vs H Q E h => ?_) (fun cdv A outer s H vs Q E hr h => ?_)
  · obtain ⟨D, z, qs, cs, rfl, _⟩ := h
    rfl
  · obtain ⟨D, z, qs, cs, rfl, hD, hcs, l5, okc, oz, k⟩ := h
    refine ⟨_, (pss_cons (ps_set (i := 2) sc_law_told.nd rfl (Or.inl rfl) (pe_lst (pa_cons pe_str pa_nil)))
    (pss_cons (ps_set (i := 3) sc_law_told.nd rfl (Or.inl rfl) pe_non)
    (pss_cons (ps_try_all (i := 4) rfl rfl sc_law_told.nd rfl rfl takes0 (fun W pn xe tk _ => (pss_one (ps_set (i := 3) sc_law_told.nd rfl (Or.inl rfl) (pe_fnX fx_law_track_of tk (hr.mono (by omega)) rfl (pa_cons (pv 0) (pa_cons (pv 1) pa_nil))))))
    (Clauses.cons ⟨rfl, by decide, .inl ee_BadName.g⟩ (fun a oe cls d pn hz hf => (pss_cons (ps_set (i := 2) sc_law_told.nd rfl (Or.inl rfl) (pe_lst (pa_cons pe_str (pa_cons (pe_xf ee_BadName.is.x no_BadName_name hz hf (pv 4)) (pa_cons (pe_callB (call_isX ee_BadName.is hz hf) rfl T.b_isinstance (by decide +kernel) (pa_cons (pv 4) (pa_cons (pe_glob (v := .ref C_BarclipsError) rfl eb.g rfl) pa_nil))) (pa_cons (pe_callB (call_isX ee_BadName.is hz hf) rfl T.b_isinstance (by decide +kernel) (pa_cons (pv 4) (pa_cons (pe_bltn (v := .ty "ValueError") (u := .type "ValueError") rfl be_ValueError (by decide +kernel) rfl) pa_nil))) (pa_cons (pe_callB (call_isX ee_BadName.is hz hf) rfl T.b_isinstance (by decide +kernel) (pa_cons (pv 4) (pa_cons (pe_glob (v := .ref C_NoClips) rfl ee_NoClips.g rfl) pa_nil))) pa_nil)))))))
    (pss_one (ps_set (i := 2) sc_law_told.nd rfl (Or.inl rfl) (pe_op op_cat (pv 2) (pe_lst (pa_cons (pe_callB (call_isX ee_BadName.is hz hf) rfl T.b_isinstance (by decide +kernel) (pa_cons (pv 4) (pa_cons (pe_glob (v := .ref C_Twice) rfl ee_Twice.g rfl) pa_nil))) pa_nil)))))))
    (Clauses.cons ⟨rfl, by decide, .inl ee_NoClips.g⟩ (fun a oe cls d pn hz hf => (pss_cons (ps_set (i := 2) sc_law_told.nd rfl (Or.inl rfl) (pe_lst (pa_cons pe_str (pa_cons (pe_xf ee_NoClips.is.x no_NoClips_name hz hf (pv 4)) (pa_cons (pe_callB (call_isX ee_NoClips.is hz hf) rfl T.b_isinstance (by decide +kernel) (pa_cons (pv 4) (pa_cons (pe_glob (v := .ref C_BarclipsError) rfl eb.g rfl) pa_nil))) (pa_cons (pe_callB (call_isX ee_NoClips.is hz hf) rfl T.b_isinstance (by decide +kernel) (pa_cons (pv 4) (pa_cons (pe_bltn (v := .ty "ValueError") (u := .type "ValueError") rfl be_ValueError (by decide +kernel) rfl) pa_nil))) (pa_cons (pe_callB (call_isX ee_NoClips.is hz hf) rfl T.b_isinstance (by decide +kernel) (pa_cons (pv 4) (pa_cons (pe_glob (v := .ref C_BadName) rfl ee_BadName.g rfl) pa_nil))) pa_nil)))))))
    (pss_one (ps_set (i := 2) sc_law_told.nd rfl (Or.inl rfl) (pe_op op_cat (pv 2) (pe_lst (pa_cons (pe_callB (call_isX ee_NoClips.is hz hf) rfl T.b_isinstance (by decide +kernel) (pa_cons (pv 4) (pa_cons (pe_glob (v := .ref C_TooMany) rfl ee_TooMany.g rfl) pa_nil))) pa_nil)))))))
    (Clauses.cons ⟨rfl, by decide, .inl ee_TooMany.g⟩ (fun a oe cls d pn hz hf => (pss_cons (ps_set (i := 2) sc_law_told.nd rfl (Or.inl rfl) (pe_lst (pa_cons pe_str (pa_cons (pe_xf ee_TooMany.is.x no_TooMany_kind hz hf (pv 4)) (pa_cons (pe_xf ee_TooMany.is.x no_TooMany_most hz hf (pv 4)) (pa_cons (pe_callB (call_isX ee_TooMany.is hz hf) rfl T.b_isinstance (by decide +kernel) (pa_cons (pv 4) (pa_cons (pe_glob (v := .ref C_BarclipsError) rfl eb.g rfl) pa_nil))) (pa_cons (pe_callB (call_isX ee_TooMany.is hz hf) rfl T.b_isinstance (by decide +kernel) (pa_cons (pv 4) (pa_cons (pe_bltn (v := .ty "ValueError") (u := .type "ValueError") rfl be_ValueError (by decide +kernel) rfl) pa_nil))) pa_nil)))))))
    (pss_one (ps_set (i := 2) sc_law_told.nd rfl (Or.inl rfl) (pe_op op_cat (pv 2) (pe_lst (pa_cons (pe_callB (call_isX ee_TooMany.is hz hf) rfl T.b_isinstance (by decide +kernel) (pa_cons (pv 4) (pa_cons (pe_glob (v := .ref C_NoClips) rfl ee_NoClips.g rfl) pa_nil))) (pa_cons (pe_callB (call_isX ee_TooMany.is hz hf) rfl T.b_isinstance (by decide +kernel) (pa_cons (pv 4) (pa_cons (pe_glob (v := .ref C_Twice) rfl ee_Twice.g rfl) pa_nil))) pa_nil))))))))
    (Clauses.cons ⟨rfl, by decide, .inl ee_EmptyClip.g⟩ (fun a oe cls d pn hz hf => (pss_cons (ps_set (i := 2) sc_law_told.nd rfl (Or.inl rfl) (pe_lst (pa_cons pe_str (pa_cons (pe_xf ee_EmptyClip.is.x no_EmptyClip_name hz hf (pv 4)) (pa_cons (pe_callB (call_isX ee_EmptyClip.is hz hf) rfl T.b_isinstance (by decide +kernel) (pa_cons (pv 4) (pa_cons (pe_glob (v := .ref C_BarclipsError) rfl eb.g rfl) pa_nil))) (pa_cons (pe_callB (call_isX ee_EmptyClip.is hz hf) rfl T.b_isinstance (by decide +kernel) (pa_cons (pv 4) (pa_cons (pe_bltn (v := .ty "ValueError") (u := .type "ValueError") rfl be_ValueError (by decide +kernel) rfl) pa_nil))) (pa_cons (pe_callB (call_isX ee_EmptyClip.is hz hf) rfl T.b_isinstance (by decide +kernel) (pa_cons (pv 4) (pa_cons (pe_glob (v := .ref C_NoClips) rfl ee_NoClips.g rfl) pa_nil))) pa_nil)))))))
    (pss_one (ps_set (i := 2) sc_law_told.nd rfl (Or.inl rfl) (pe_op op_cat (pv 2) (pe_lst (pa_cons (pe_callB (call_isX ee_EmptyClip.is hz hf) rfl T.b_isinstance (by decide +kernel) (pa_cons (pv 4) (pa_cons (pe_glob (v := .ref C_Twice) rfl ee_Twice.g rfl) pa_nil))) pa_nil)))))))
    (Clauses.cons ⟨rfl, by decide, .inl ee_Twice.g⟩ (fun a oe cls d pn hz hf => (pss_cons (ps_set (i := 2) sc_law_told.nd rfl (Or.inl rfl) (pe_lst (pa_cons pe_str (pa_cons (pe_xf ee_Twice.is.x no_Twice_name hz hf (pv 4)) (pa_cons (pe_callB (call_isX ee_Twice.is hz hf) rfl T.b_isinstance (by decide +kernel) (pa_cons (pv 4) (pa_cons (pe_glob (v := .ref C_BarclipsError) rfl eb.g rfl) pa_nil))) (pa_cons (pe_callB (call_isX ee_Twice.is hz hf) rfl T.b_isinstance (by decide +kernel) (pa_cons (pv 4) (pa_cons (pe_bltn (v := .ty "ValueError") (u := .type "ValueError") rfl be_ValueError (by decide +kernel) rfl) pa_nil))) (pa_cons (pe_callB (call_isX ee_Twice.is hz hf) rfl T.b_isinstance (by decide +kernel) (pa_cons (pv 4) (pa_cons (pe_glob (v := .ref C_BadName) rfl ee_BadName.g rfl) pa_nil))) pa_nil)))))))
    (pss_one (ps_set (i := 2) sc_law_told.nd rfl (Or.inl rfl) (pe_op op_cat (pv 2) (pe_lst (pa_cons (pe_callB (call_isX ee_Twice.is hz hf) rfl T.b_isinstance (by decide +kernel) (pa_cons (pv 4) (pa_cons (pe_glob (v := .ref C_EmptyClip) rfl ee_EmptyClip.g rfl) pa_nil))) pa_nil)))))))
    Clauses.nil))))))
    (pss_one (ps_ret (pe_lst (pa_cons (pv 2) (pa_cons (pv 3) pa_nil)))))))), ?_⟩
    refine Bar.rStart (σ := [some (.str z), some (.ref D), none, none, none]) rfl ?_
    walk_at "rd"
    intro l0 hl0
    have SL : Same H (upd H l0 (.lst [.str "let"])) := fun _ _ e => Bar.lkNew hl0 e
    have h0 : (upd H l0 (.lst [.str "let"])) l0 = some (.lst [.str "let"]) := upd_same
    have hD0 := SL _ _ hD
    have hc0 := hcs.to (R' := CpAt K CC (upd H l0 (.lst [.str "let"]))) fun _ _ q => q.same SL
    generalize (upd H l0 (.lst [.str "let"])) = H0 at SL h0 hD0 hc0 ⊢
    walk_at "rd"
    refine ⟨D, z, qs, cs, rfl, hD0, hc0, l5, okc, oz, fun et x H1 S1 tk => ?_, fun e et d H4 hd S4 hy => ?_⟩
    · walk_at "rd"
      intro R hR
      exact k R _ (fun b v e => Bar.lkNew hR (S1 _ _ (SL b v e))) ⟨l0, .ref x, upd_same, .inl ⟨et, Bar.lkNew hR (S1 _ _ h0), x, rfl, tk.same fun _ _ e => Bar.lkNew hR e⟩⟩
    · walk_at "rd"
      cases e with
      | name y =>
        have hy : H4 d = some (.xd [("name", .str y)]) := hy
        refine rTake ee_BadName.te fun q hq => ?_
        simp only [List.set_cons_succ, List.set_cons_zero]
        walk_at "rd"
        refine rXf hy lk_hd ?_
        walk_at "rd"
        refine rIsXC hy kB.b ?_
        walk_at "rd"
        refine rIsXT hy kB.v ?_
        walk_at "rd"
        refine rIsXC hy kB.n1 ?_
        walk_at "rd"
        intro t1 ht1
        walk_at "rd"
        have hy1 := Bar.lkNew (o := .lst [.str "name", .str y, .bl true, .bl true, .bl false]) ht1 hy
        refine rIsXC hy1 kB.n2 ?_
        walk_at "rd"
        intro t2 ht2
        walk_at "rd"
        refine Bar.rCat_ (Bar.lkNew ht2 upd_same) upd_same (szLe (by show 6 ≤ 1000; decide)) fun t3 ht3 => ?_
        walk_at "rd"
        simp only [List.set_cons_succ, List.set_cons_zero]
        walk_at "rd"
        intro R hR
        exact k R _ (fun b v e => Bar.lkNew hR (Bar.lkNew ht3 (Bar.lkNew ht2 (Bar.lkNew ht1 (S4 _ _ (SL b v e)))))) ⟨t3, .non, upd_same, .inr ⟨_, et, Bar.lkNew hR upd_same, rfl⟩⟩
      | none y =>
        have hy : H4 d = some (.xd [("name", .str y)]) := hy
        refine rPass pNB ?_
        walk_at "rd"
        refine rTake ee_NoClips.te fun q hq => ?_
        simp only [List.set_cons_succ, List.set_cons_zero]
        walk_at "rd"
        refine rXf hy lk_hd ?_
        walk_at "rd"
        refine rIsXC hy kN.b ?_
        walk_at "rd"
        refine rIsXT hy kN.v ?_
        walk_at "rd"
        refine rIsXC hy kN.n1 ?_
        walk_at "rd"
        intro t1 ht1
        walk_at "rd"
        have hy1 := Bar.lkNew (o := .lst [.str "none", .str y, .bl true, .bl true, .bl false]) ht1 hy
        refine rIsXC hy1 kN.n2 ?_
        walk_at "rd"
        intro t2 ht2
        walk_at "rd"
        refine Bar.rCat_ (Bar.lkNew ht2 upd_same) upd_same (szLe (by show 6 ≤ 1000; decide)) fun t3 ht3 => ?_
        walk_at "rd"
        simp only [List.set_cons_succ, List.set_cons_zero]
        walk_at "rd"
        intro R hR
        exact k R _ (fun b v e => Bar.lkNew hR (Bar.lkNew ht3 (Bar.lkNew ht2 (Bar.lkNew ht1 (S4 _ _ (SL b v e)))))) ⟨t3, .non, upd_same, .inr ⟨_, et, Bar.lkNew hR upd_same, rfl⟩⟩
      | many =>
        have hy : H4 d = some (.xd [("most", .int 3), ("kind", .str "clips")]) := hy
        refine rPass pMB ?_
        walk_at "rd"
        refine rPass pMN ?_
        walk_at "rd"
        refine rTake ee_TooMany.te fun q hq => ?_
        simp only [List.set_cons_succ, List.set_cons_zero]
        walk_at "rd"
        refine rXf hy (lk_tl (by decide +kernel) lk_hd) ?_
        walk_at "rd"
        refine rXf hy lk_hd ?_
        walk_at "rd"
        refine rIsXC hy kM.b ?_
        walk_at "rd"
        refine rIsXT hy kM.v ?_
        walk_at "rd"
        intro t1 ht1
        walk_at "rd"
        have hy1 := Bar.lkNew (o := .lst [.str "many", .str "clips", .int 3, .bl true, .bl true]) ht1 hy
        refine rIsXC hy1 kM.n1 ?_
        walk_at "rd"
        refine rIsXC hy1 kM.n2 ?_
        walk_at "rd"
        intro t2 ht2
        walk_at "rd"
        refine Bar.rCat_ (Bar.lkNew ht2 upd_same) upd_same (szLe (by show 7 ≤ 1000; decide)) fun t3 ht3 => ?_
        walk_at "rd"
        simp only [List.set_cons_succ, List.set_cons_zero]
        walk_at "rd"
        intro R hR
        exact k R _ (fun b v e => Bar.lkNew hR (Bar.lkNew ht3 (Bar.lkNew ht2 (Bar.lkNew ht1 (S4 _ _ (SL b v e)))))) ⟨t3, .non, upd_same, .inr ⟨_, et, Bar.lkNew hR upd_same, rfl⟩⟩
      | empty y =>
        have hy : H4 d = some (.xd [("name", .str y)]) := hy
        refine rPass pEB ?_
        walk_at "rd"
        refine rPass pEN ?_
        walk_at "rd"
        refine rPass pEM ?_
        walk_at "rd"
        refine rTake ee_EmptyClip.te fun q hq => ?_
        simp only [List.set_cons_succ, List.set_cons_zero]
        walk_at "rd"
        refine rXf hy lk_hd ?_
        walk_at "rd"
        refine rIsXC hy kE.b ?_
        walk_at "rd"
        refine rIsXT hy kE.v ?_
        walk_at "rd"
        refine rIsXC hy kE.n1 ?_
        walk_at "rd"
        intro t1 ht1
        walk_at "rd"
        have hy1 := Bar.lkNew (o := .lst [.str "empty", .str y, .bl true, .bl true, .bl false]) ht1 hy
        refine rIsXC hy1 kE.n2 ?_
        walk_at "rd"
        intro t2 ht2
        walk_at "rd"
        refine Bar.rCat_ (Bar.lkNew ht2 upd_same) upd_same (szLe (by show 6 ≤ 1000; decide)) fun t3 ht3 => ?_
        walk_at "rd"
        simp only [List.set_cons_succ, List.set_cons_zero]
        walk_at "rd"
        intro R hR
        exact k R _ (fun b v e => Bar.lkNew hR (Bar.lkNew ht3 (Bar.lkNew ht2 (Bar.lkNew ht1 (S4 _ _ (SL b v e)))))) ⟨t3, .non, upd_same, .inr ⟨_, et, Bar.lkNew hR upd_same, rfl⟩⟩
      | twice y =>
        have hy : H4 d = some (.xd [("name", .str y)]) := hy
        refine rPass pTB ?_
        walk_at "rd"
        refine rPass pTN ?_
        walk_at "rd"
        refine rPass pTM ?_
        walk_at "rd"
        refine rPass pTE ?_
        walk_at "rd"
        refine rTake ee_Twice.te fun q hq => ?_
        simp only [List.set_cons_succ, List.set_cons_zero]
        walk_at "rd"
        refine rXf hy lk_hd ?_
        walk_at "rd"
        refine rIsXC hy kT.b ?_
        walk_at "rd"
        refine rIsXT hy kT.v ?_
        walk_at "rd"
        refine rIsXC hy kT.n1 ?_
        walk_at "rd"
        intro t1 ht1
        walk_at "rd"
        have hy1 := Bar.lkNew (o := .lst [.str "twice", .str y, .bl true, .bl true, .bl false]) ht1 hy
        refine rIsXC hy1 kT.n2 ?_
        walk_at "rd"
        intro t2 ht2
        walk_at "rd"
        refine Bar.rCat_ (Bar.lkNew ht2 upd_same) upd_same (szLe (by show 6 ≤ 1000; decide)) fun t3 ht3 => ?_
        walk_at "rd"
        simp only [List.set_cons_succ, List.set_cons_zero]
        walk_at "rd"
        intro R hR
        exact k R _ (fun b v e => Bar.lkNew hR (Bar.lkNew ht3 (Bar.lkNew ht2 (Bar.lkNew ht1 (S4 _ _ (SL b v e)))))) ⟨t3, .non, upd_same, .inr ⟨_, et, Bar.lkNew hR upd_same, rfl⟩⟩
end

end Lw
namespace Lw
open PySem L2 Bar
section
variable {P : Program} {w : World} {K : PySem.W.Frag} {mg : Str → Option Value} {base : Heap}
theorem ok_due {f : Addr} {fd : FuncData} (F : Fun K "_law_due" "_law_due" s_law_due f fd) (T : Txt mg) : FnOk P w K mg base CX0 1 f fd P_law_due spDue := by
  refine F.ok sc_law_due (fun vs H Q E h => ?_) (fun cdv A outer s H vs Q E hr h => ?_)
  · obtain ⟨M, y, g, ts, ws, rfl, _⟩ := h
    rfl
  · obtain ⟨M, y, g, ts, ws, rfl, ny, hM, hts, l5, k⟩ := h
    have lq := hts.1
    have lc : (ws.map Rw.dc).length = ws.length := List.length_map _
    refine ⟨_, (pss_cons (ps_if (pt_not (pt_val (pv 1))) (pss_one (ps_ret (pe_lst (pa_cons pe_str (pa_cons (pv 0) pa_nil))))) pss_nil)
    (pss_cons (ps_if (pt_cmpR op_eq (pe_callB c_len rfl T.b_len PySem.boot_len (pa_cons (pv 2) pa_nil)) pe_int (nomark _)) (pss_one (ps_ret (pe_lst (pa_cons pe_str (pa_cons (pv 0) pa_nil))))) pss_nil)
    (pss_cons (ps_if (pt_cmpR op_gt (pe_callB c_len rfl T.b_len PySem.boot_len (pa_cons (pv 2) pa_nil)) pe_int (nomark _)) (pss_one (ps_ret (pe_lst (pa_cons pe_str (pa_cons pe_str (pa_cons pe_int pa_nil)))))) pss_nil)
    (pss_cons (ps_setLc (i := 3) (own := [("_law_c", 6)]) (g := gName 6) rfl sc_law_due.nd rfl rfl (sw_true rfl rfl rfl (by decide +kernel)) (pi_list (pv 2)) (blkOk_by (own := [("_law_c", 6)]) (N := N_law_due) (sc := defScope s_law_due) (by decide +kernel)) (fun _ _ _ _ _ => pg_name (i := 6) sc_law_due.nd rfl (Or.inl rfl)) (fun _ _ _ _ _ => (pts_one (pt_cmpR o_isN (pe_ix (r := rIxT K) ix_tup (pv 6) pe_int (fun _ _ => rfl)) pe_non (nomark _)))) (fun _ _ _ _ _ => (pe_ix (r := rIxT K) ix_tup (pv 6) pe_int (fun _ _ => rfl))))
    (pss_mid (ps_if (PW.pt (pw_and (pt_cmpR op_gt (pe_callB c_len rfl T.b_len PySem.boot_len (pa_cons (pv 3) pa_nil)) pe_int (nomark _)) (pw_and1 (pt_cmpR op_gt (pe_callB c_len rfl T.b_len PySem.boot_len (pa_cons (pv 2) pa_nil)) pe_int (nomark _))))) (pss_one (ps_ret (pe_lst (pa_cons pe_str (pa_cons (pe_ix ix_list (pv 3) pe_int (fun _ _ => rfl)) pa_nil))))) pss_nil)
    (pss_cons (ps_setLc (i := 4) (own := [("_law_c", 6)]) (g := gName 6) rfl sc_law_due.nd rfl rfl (sw_true rfl rfl rfl (by decide +kernel)) (pi_list (pv 2)) (blkOk_by (own := [("_law_c", 6)]) (N := N_law_due) (sc := defScope s_law_due) (by decide +kernel)) (fun _ _ _ _ _ => pg_name (i := 6) sc_law_due.nd rfl (Or.inl rfl)) (fun _ _ _ _ _ => pts_nil) (fun _ _ _ _ _ => (pe_ix (r := rIxT K) ix_tup (pv 6) pe_int (fun _ _ => rfl))))
    (pss_cons (ps_for PassesOwn.never rfl  (pi_range1 rfl T.b_range (pa_cons (pe_callB c_len rfl T.b_len PySem.boot_len (pa_cons (pv 4) pa_nil)) pa_nil)) (pg_name (i := 5) sc_law_due.nd rfl (Or.inl rfl)) (pss_one (ps_if (pt_cmpR op_lt (pe_bm PySem.F.plainAttrs_list PySem.F.slot_list_index PySem.F.type_list_index mt_index (pv 4) (pa_cons (pe_ix ix_list (pv 4) (pv 5) (fun _ _ => rfl)) pa_nil)) (pv 5) (nomark _)) (pss_one (ps_ret (pe_lst (pa_cons pe_str (pa_cons (pe_ix ix_list (pv 4) (pv 5) (fun _ _ => rfl)) pa_nil))))) pss_nil)))
    (pss_one (ps_ret (pe_lst (pa_cons pe_str pa_nil))))))))))), ?_⟩
    refine Bar.rStart (σ := [some (.str y), some (.bl g), some (.ref M), none, none, none, none]) rfl ?_
    walk_at "rd"
    cases g with
    | false =>
      have et : trackF y (ws.map Rw.dc) = some (.name y) := if_pos ny
      walk_at "rd"
      intro D hD
      exact k D _ (fun _ _ e => Bar.lkNew hD e) (by rw [upd_same, et]; rfl)
    | true =>
    have et : trackF y (ws.map Rw.dc) = ringF y (ws.map Rw.dc) := if_neg (by rw [ny]; decide)
    rw [et] at k
    walk_at "rd"
    refine ite2 (fun h => ?_) (fun h => ?_)
    · have e0 : ws.length = 0 := by
        have := of_decide_eq_true h
        rw [List.length_map] at this
        omega
      have er : ringF y (ws.map Rw.dc) = some (.none y) := if_pos (by omega)
      walk_at "rd"
      intro D hD
      exact k D _ (fun _ _ e => Bar.lkNew hD e) (by rw [upd_same, er]; rfl)
    have n0 : 0 < ws.length := by
      rcases Nat.eq_zero_or_pos ws.length with e | e
      · exact absurd (decide_eq_true (by rw [List.length_map, lq, e]; rfl)) h
      · exact e
    walk_at "rd"
    refine ite2 (fun h => ?_) (fun h => ?_)
    · have e3 : 3 < ws.length := by
        have := of_decide_eq_true h
        rw [List.length_map] at this
        omega
      have er : ringF y (ws.map Rw.dc) = some .many := by
        unfold ringF
        rw [if_neg (by omega), if_pos (by omega)]
      walk_at "rd"
      intro D hD
      exact k D _ (fun _ _ e => Bar.lkNew hD e) (by rw [upd_same, er]; rfl)
    have l3 : ws.length ≤ 3 := by
      by_cases q : ws.length ≤ 3
      · exact q
      · exact absurd (decide_eq_true (by rw [List.length_map, lq]; omega)) h
    have er := ring_pos (z := y) (cs := ws.map Rw.dc) (by omega) (by omega)
    rw [void_eq] at er
    walk_at "rd"
    refine Bar.lcL (τ := [some (.str y), some (.bl true), some (.ref M), none, none, none, none]) rfl (SqL.of hM) fun D hD => ⟨fun i H' => Same H H' ∧ H' D = some (.lst ((((ws.take i).filter fun w => w.o.isNone).map Rw.z).map V.str)), ⟨fun _ _ e => Bar.lkNew hD e, upd_same⟩, fun i H' _ ⟨S, _⟩ => SqL.of (S _ _ hM), ?_, ?_⟩
    · rintro i x H2 hx ⟨S2, hd⟩
      obtain ⟨t, ht, rfl, hi⟩ := refAt hx
      obtain ⟨t', c, ht', hc, dc⟩ := hts.at hi
      rw [ht] at ht'
      cases ht'
      have ht2 := RwAt.same S2 dc
      have tk : ws.take (i + 1) = ws.take i ++ [c] := by rw [List.take_add_one, hc]; rfl
      walk_at "rd"
      refine ⟨rfl, ?_⟩
      walk_at "rd"
      refine Bar.rIxT_ (SqT.of ht2) (atI_nat (j := 1) rfl) ?_
      have len : ((ws.take i).filter fun w => w.o.isNone).length ≤ 5 := Nat.le_trans (List.length_filter_le ..) (by rw [List.length_take]; omega)
      obtain ⟨cz, o, r⟩ := c
      cases o with
      | none =>
        walk_at "rd"
        refine Bar.rIxT_ (SqT.of ht2) (atI_nat (j := 0) rfl) ?_
        refine ⟨_, hd, Bar.szLt (by rw [List.length_map, List.length_map]; omega), fun a' o' e => ?_, ?_⟩
        · rw [upd_ne (ne_of_none e hD)]
          exact S2 _ _ e
        · rw [upd_same, tk, List.filter_append, List.map_append, List.map_append]
          rfl
      | some l =>
        walk_at "rd"
        refine ⟨S2, ?_⟩
        rw [tk, List.filter_append, List.map_append, List.map_append]
        show _ = some (HO.lst (_ ++ []))
        rw [List.append_nil]
        exact hd
    rintro H2 ⟨S2, hd⟩
    rw [List.length_map, lq, List.take_length] at hd
    have hM2 := S2 _ _ hM
    have ht2 := hts.to fun _ _ e => RwAt.same S2 e
    have eV : ((ws.filter fun w => w.o.isNone).map Rw.z).length ≤ 5 := by rw [List.length_map]; exact Nat.le_trans (List.length_filter_le ..) l5
    generalize hv : (ws.filter fun w => w.o.isNone).map Rw.z = vz at hd er eV
    walk_at "rd"
    refine ⟨fun σ H' => Same H H' ∧ ringF y (ws.map Rw.dc) = (twi [] ((ws.map Rw.dc).map Dc.z)).map .twice ∧ σ = [some (.str y), some (.bl true), some (.ref M), some (.ref D), none, none, none], ?_, ?_⟩
    · walk_at "rd"
      refine ite2 (fun h => ?_) (fun h => ?_)
      · have p : 0 < vz.length := by
          have := of_decide_eq_true h
          rw [List.length_map] at this
          omega
        obtain ⟨v0, vr, ev⟩ : ∃ a l, vz = a :: l := List.exists_cons_of_length_pos p
        subst ev
        walk_at "rd"
        refine ite2 (fun h2 => ?_) (fun h2 => ?_)
        · have l1 : 1 < ws.length := by
            have := of_decide_eq_true h2
            rw [List.length_map] at this
            omega
          rw [if_pos (by omega)] at er
          have er : ringF y (ws.map Rw.dc) = some (.empty v0) := er
          walk_at "rd"
          refine Bar.rIxL_ (SqL.of hd) (atI_nat (j := 0) rfl) ?_
          walk_at "rd"
          intro R hR
          exact k R _ (fun _ _ e => Bar.lkNew hR (S2 _ _ e)) (by rw [upd_same, er]; rfl)
        · have l1 : ¬ 1 < ws.length := fun q => h2 (decide_eq_true (by rw [List.length_map, lq]; omega))
          rw [if_neg (by omega)] at er
          walk_at "rd"
          exact ⟨S2, er, rfl⟩
      · have ev : vz = [] := by
          cases vz with
          | nil => rfl
          | cons a r => exact absurd (decide_eq_true (by rw [List.length_map, List.length_cons]; omega)) h
        subst ev
        have e2 : (if 1 < (ws.map Rw.dc).length then ([] : List Str).head? else Option.none) = none := by split <;> rfl
        rw [e2] at er
        walk_at "rd"
        exact ⟨S2, er, rfl⟩
    clear hd er S2 hM2 ht2 hD
    rintro σ H2 ⟨S2, er, rfl⟩
    rw [er] at k
    have hM2 := S2 _ _ hM
    have ht2 := hts.to fun _ _ e => RwAt.same S2 e
    have en : (ws.map Rw.dc).map Dc.z = ws.map Rw.z := by rw [List.map_map]; rfl
    rw [en] at k
    walk_at "rd"
    refine Bar.lcL (τ := [some (.str y), some (.bl true), some (.ref M), some (.ref D), none, none, none]) rfl (SqL.of hM2) fun N hN => ⟨fun i H' => Same H2 H' ∧ H' N = some (.lst (((ws.take i).map Rw.z).map V.str)), ⟨fun _ _ e => Bar.lkNew hN e, upd_same⟩, fun i H' _ ⟨S, _⟩ => SqL.of (S _ _ hM2), ?_, ?_⟩
    · rintro i x H3 hx ⟨S3, hd⟩
      obtain ⟨t, ht, rfl, hi⟩ := refAt hx
      obtain ⟨t', c, ht', hc, dc⟩ := ht2.at hi
      rw [ht] at ht'
      cases ht'
      have ht3 := RwAt.same S3 dc
      walk_at "rd"
      refine ⟨rfl, ?_⟩
      walk_at "rd"
      refine Bar.rIxT_ (SqT.of ht3) (atI_nat (j := 0) rfl) ?_
      refine ⟨_, hd, Bar.szLt (by rw [List.length_map, List.length_map, List.length_take]; omega), fun a' o' e => ?_, ?_⟩
      · rw [upd_ne (ne_of_none e hN)]
        exact S3 _ _ e
      · rw [upd_same, List.take_add_one, hc, List.map_append, List.map_append]
        rfl
    rintro H3 ⟨S3, ha⟩
    rw [List.length_map, lq, List.take_length] at ha
    have S03 : Same H H3 := fun _ _ e => S3 _ _ (S2 _ _ e)
    have lu : (ws.map Rw.z).length ≤ 5 := by rw [List.length_map]; exact l5
    generalize ws.map Rw.z = us at ha k lu
    walk_at "rd"
    refine Bar.forR us.length (by simp) (fun i σ H' => H' = H3 ∧ twi (us.take i) (us.drop i) = twi [] us ∧ ∃ x, σ = [some (.str y), some (.bl true), some (.ref M), some (.ref D), some (.ref N), x, none]) (by rw [List.length_map]; omega) ⟨rfl, rfl, _, rfl⟩ ?_ ?_
    · rintro i σ H' hi ⟨rfl, e, x, rfl⟩
      obtain ⟨z, hz⟩ : ∃ z, us[i]? = some z := ⟨_, List.getElem?_eq_getElem hi⟩
      have hzV : (us.map V.str)[i]? = some (.str z) := by rw [List.getElem?_map, hz]; rfl
      obtain ⟨j, ji, hj, hm⟩ := first_at hz
      have dz : us.drop i = z :: us.drop (i + 1) := by
        rw [List.drop_eq_getElem_cons hi]
        congr 1
        exact Option.some.inj ((List.getElem?_eq_getElem hi).symm.trans hz)
      have e : (if z ∈ us.take i then some z else twi (us.take i ++ [z]) (us.drop (i + 1))) = twi [] us := by
        rw [← e, dz]
        rfl
      walk_at "rd"
      refine Bar.rIxL_ (SqL.of ha) (atI_nat hzV) ?_
      walk_at "rd"
      refine ⟨N, _, _, j, .str z, rfl, rfl, SqL.of ha, rfl, flat_strs us, by rw [List.getElem?_map, hj]; rfl, beq_self_eq_true z, fun m z' hmj hz' => ?_, ?_⟩
      · rw [List.getElem?_map] at hz'
        cases q : us[m]? with
        | none => rw [q] at hz'; cases hz'
        | some y =>
          rw [q] at hz'
          cases hz'
          show (y == z) = false
          exact beq_eq_false_iff_ne.mpr fun q2 => hm m hmj (by rw [q, q2])
      walk_at "rd"
      refine ite2 (fun h => ?_) (fun h => ?_)
      · have lt : j < i := by have := of_decide_eq_true h; omega
        have mem : z ∈ us.take i := List.mem_of_getElem? (i := j) (by rw [List.getElem?_take, if_pos lt]; exact hj)
        rw [if_pos mem] at e
        walk_at "rd"
        refine Bar.rIxL_ (SqL.of ha) (atI_nat hzV) ?_
        rw [← e] at k
        walk_at "rd"
        intro R hR
        exact k R _ (fun _ _ e => Bar.lkNew hR (S03 _ _ e)) upd_same
      · have nlt : ¬ j < i := fun q => h (decide_eq_true (by omega))
        have nmem : z ∉ us.take i := fun q => by
          obtain ⟨m, hm2, e2⟩ := List.mem_iff_getElem.mp q
          have hm3 : m < i := by
            rw [List.length_take] at hm2
            omega
          refine hm m (by omega) ?_
          rw [List.getElem_take] at e2
          rw [List.getElem?_eq_getElem (by omega), e2]
        rw [if_neg nmem] at e
        walk_at "rd"
        refine ⟨rfl, ?_, _, rfl⟩
        rw [List.take_add_one, hz]
        exact e
    · rintro σ H' ⟨rfl, e, x, rfl⟩
      rw [List.drop_length] at e
      have e0 : twi [] us = none := e.symm
      rw [e0] at k
      walk_at "rd"
      intro R hR
      exact k R _ (fun _ _ e => Bar.lkNew hR (S03 _ _ e)) upd_same
end

end Lw
namespace Lw
open PySem L2 Bar

/-! ### the clip of a name -/
def findC : List Dc → Str → Option Dc
  | [], _ => none
  | c :: r, y => if c.z = y then some c else findC r y
abbrev ErrN (C : Addr) (f : Str) (v : V) (H : Hp) (E : XK) : Prop := ∀ d H', H d = none → Same H H' → H' d = some (.xd [(f, v)]) → E (.ref C) (some d) H'
structure TkA (K : PySem.W.Frag) (CC CT : Addr) (H : Hp) (x dx t pl : Addr) (z : Str) (qs : List Addr) (cs : List Dc) : Prop where
  x : H x = some (.ins CT dx (tkf z t (total cs) pl))
  t : H t = some (.tup (qs.map V.ref))
  c : All2 (CpAt K CC H) qs cs
def spClipOfX (K : PySem.W.Frag) (CC CT CU : Addr) : Sp := fun vs H Q E => ∃ (x dx t pl : Addr) (z y : Str) (qs : List Addr) (cs : List Dc), vs = [.ref x, .str y] ∧ TkA K CC CT H x dx t pl z qs cs ∧ TxOk y ∧
  (∀ q c, findC cs y = some c → CpAt K CC H q c → Q (.ref q) H) ∧ (findC cs y = none → ErrN CU "name" (.str y) H E)
theorem findC_mem : ∀ {cs : List Dc} {c : Dc}, (cs.map Dc.z).Nodup → c ∈ cs → findC cs c.z = some c
  | d :: r, c, nd, h => by
    rw [List.map_cons] at nd
    obtain ⟨n1, n2⟩ := List.nodup_cons.mp nd
    rw [findC]
    rcases List.mem_cons.mp h with e | h
    · rw [e, if_pos rfl]
    · have : ¬ d.z = c.z := fun q => n1 (by rw [q]; exact List.mem_map.mpr ⟨c, h, rfl⟩)
      rw [if_neg this]
      exact findC_mem n2 h
section
variable {P : Program} {w : World} {K : PySem.W.Frag} {mg : Str → Option Value} {base : Heap}
theorem ok_clipOfX {f CC CT CU : Addr} {fd : FuncData} (F : Fun K "clip_of" "Track.clip_of" s_Track_clip_of f fd) (G : CTxt K CC) (GT : TTxt K CT) (er_Unknown : Err P w K mg base "Unknown" CU P_Unknown___init__ 1 (spErr1 CU "name" okText)) : FnOk P w K mg base (L2.CX P w) 3 f fd P_Track_clip_of (spClipOfX K CC CT CU) := by
  refine F.okX sc_Track_clip_of (fun vs H Q E h => ?_) (fun cdv A outer s H vs Q E hr h => ?_)
  · obtain ⟨x, dx, t, pl, z, y, qs, cs, rfl, _⟩ := h
    rfl
  · obtain ⟨x, dx, t, pl, z, y, qs, cs, rfl, ⟨hx, ht, hc⟩, oy, k1, k2⟩ := h
    refine ⟨_, (pss_cons (ps_for PassesOwn.leaving rfl  (pi_tup (pe_fld (pv 0) rfl)) (pg_name (i := 2) sc_Track_clip_of.nd rfl (Or.inl rfl)) (pss_one (ps_if (pt_cmpR op_eq (pe_fld (pv 2) rfl) (pv 1) (nomark _)) (pss_one (ps_ret (pv 2))) pss_nil)))
    (pss_one (ps_raise rfl (takes_of rfl rfl rfl rfl) (pmk_err er_Unknown (hr.mono (by omega)) rfl (pa_cons (pv 1) pa_nil))))), ?_⟩
    refine Bar.rStart (σ := [some (.ref x), some (.str y), none]) rfl ?_
    walk_at "rd"
    refine Bar.rFldV hx GT.cl GT.n2 rfl ?_
    walk_at "rd"
    refine Bar.forT (xs := qs.map V.ref) (fun i σ H' => H' = H ∧ findC (cs.drop i) y = findC cs y ∧ ∃ (u : Option V), σ = [some (.ref x), some (.str y), u]) (SqT.of ht) ⟨rfl, rfl, _, rfl⟩ (fun i σ H2 _ ⟨e, _⟩ => by rw [e]; exact SqT.of ht) ?_ ?_
    · rintro i v σ H1 hv ⟨rfl, es, u, rfl⟩
      obtain ⟨q, hq, rfl, hi⟩ := refAt hv
      obtain ⟨q', c, hq', hcc, cp⟩ := hc.at hi
      rw [hq] at hq'
      cases hq'
      have hi' : i < cs.length := by rw [← hc.1]; exact hi
      have de : cs.drop i = c :: cs.drop (i + 1) := by
        rw [List.drop_eq_getElem_cons hi']
        congr 1
        exact Option.some.inj ((List.getElem?_eq_getElem hi').symm.trans hcc)
      rw [de, findC] at es
      obtain ⟨dq, g, tt, eq, et⟩ := id cp
      walk_at "rd"
      refine Bar.rFldV eq G.cl G.n1 rfl ?_
      walk_at "rd"
      rw [dStr]
      refine ite2 (fun h => ?_) (fun h => ?_)
      · rw [if_pos (of_decide_eq_true h)] at es
        walk_at "rd"
        exact k1 q c es.symm cp
      · rw [if_neg fun q => h (decide_eq_true q)] at es
        walk_at "rd"
        exact ⟨rfl, es, _, rfl⟩
    · rintro σ H1 ⟨rfl, es, u, rfl⟩
      rw [List.length_map, hc.1, List.drop_length] at es
      walk_at "rd"
      exact rErr1 ⟨y, rfl, oy.len, oy.small⟩ fun d H' hd S e => k2 es.symm d H' hd S e
end

/-! ### the iteration of a track -/
section
variable {P : Program} {w : World} {K : PySem.W.Frag} {mg : Str → Option Value} {base : Heap}
theorem ok_iter {f CT : Addr} {fd : FuncData} (F : Fun K "__iter__" "Track.__iter__" s_Track___iter__ f fd) (GT : TTxt K CT) (b_iter : mg "iter" = none) : FnS P w K mg base 1 f fd P_Track___iter__ (spIterF K CT "clips") := by
  refine ok_iterF F sc_Track___iter__ GT.cl GT.n2 fun cdv A outer s H E => ⟨_, fun {σ H Q a dx fs t xs} e ha hl hs q => ?_, pss_one (ps_ret (pe_callB call_iterT rfl b_iter (by decide +kernel) (pa_cons (pe_fld (pv 0) rfl) pa_nil)))⟩
  have e : σ = [some (.ref a)] := e
  subst e
  walk_at "rd"
  refine Bar.rFldV ha GT.cl GT.n2 hl ?_
  exact ⟨t, xs, rfl, hs, q⟩
end

structure TIsi (K : PySem.W.Frag) (C : Addr) : Prop where
  cl : Cls K C
  ha : PySem.W.findIn K (.ref C) "__class__" = some (some (.builtin "object.__class__"))
  hn : PySem.W.specialIn K (.builtin "object.__class__") "__get__" = some (some (.builtin "getset_descriptor.__get__"))
  htk : PySem.W.takesIn K (.builtin "object.__class__") = some true
  hm : PySem.W.mroIn K C (.type "object") = some true
theorem isiO {K : PySem.W.Frag} {C q dx : Addr} {fs : List (Str × V)} {H : Hp} {Q : VK} (I : TIsi K C) (h : H q = some (.ins C dx fs)) (k : Q (.bl true) H) : rIsi K [.ref q, .ref C] H Q := by
  refine ⟨.ref q, .ref C, _, _, true, rfl, .own C, .base (.ins h I.cl I.ha I.hn I.htk I.hm), ?_, k⟩
  unfold PySem.W.kitOne
  rw [if_pos (beq_self_eq_true _)]

theorem opt_sameV {K : PySem.W.Frag} {H : Hp} {n : Nat} (o : Option Int) : SameAt K H (n + 1) (oV o) (oV o) := by
  cases o with
  | none => exact .inl ⟨rfl, trivial⟩
  | some l => exact .inl ⟨rfl, trivial⟩


/-! ### the ring that is due, the law -/
def spRingDue (K : PySem.W.Frag) (CC CT : Addr) : Sp := fun vs H Q _ => ∃ (x M O : Addr) (z : Str) (ts : List Addr) (ws : List Rw) (us : List Str), vs = [.ref x, .str z, .ref M, .ref O] ∧ TkAt K CC CT H x z (ws.map Rw.dc) ∧ ROk (ws.map Rw.dc) ∧ H M = some (.lst (ts.map V.ref)) ∧ All2 (RwAt H) ts ws ∧ H O = some (.lst (us.map V.str)) ∧ us.length ≤ 10 ∧ ∀ H', Same H H' → Q (.bl true) H'
/-- rows told as lists -/
def LsAt (H : Hp) (q : Addr) (w : Rw) : Prop := H q = some (.lst [.str w.z, oV w.o, .int w.r])
theorem LsAt.same {H H' : Hp} {q : Addr} {w : Rw} (S : Same H H') (h : LsAt H q w) : LsAt H' q w := S _ _ h
theorem rw_same {K : PySem.W.Frag} {H : Hp} {n : Nat} {a b : Addr} {w : Rw} (ha : LsAt H a w) (hb : LsAt H b w) : SameAt K H (n + 2) (.ref a) (.ref b) := by
  refine .inr (.inr ⟨a, b, _, _, rfl, rfl, .inl ⟨ha, hb⟩, by show 3 ≤ 1000; decide, rfl, fun i x y hx hy => ?_⟩)
  match i, hx, hy with
  | 0, hx, hy => cases hx; cases hy; exact .inl ⟨rfl, trivial⟩
  | 1, hx, hy => cases hx; cases hy; exact opt_sameV w.o
  | 2, hx, hy => cases hx; cases hy; exact .inl ⟨rfl, trivial⟩
  | i + 3, hx, _ => cases hx
theorem rows_same {K : PySem.W.Frag} {H : Hp} {n : Nat} {a b : Addr} {ps qs : List Addr} {ws : List Rw} (ha : H a = some (.lst (ps.map V.ref))) (hb : H b = some (.lst (qs.map V.ref))) (h1 : All2 (LsAt H) ps ws) (h2 : All2 (LsAt H) qs ws) (l : ws.length ≤ 5) : SameAt K H (n + 3) (.ref a) (.ref b) := by
  refine .inr (.inr ⟨a, b, _, _, rfl, rfl, .inl ⟨ha, hb⟩, by rw [List.length_map, h1.1]; omega, by rw [List.length_map, List.length_map, h1.1, h2.1], fun i x y hx hy => ?_⟩)
  obtain ⟨p, hp, rfl, hi⟩ := refAt hx
  obtain ⟨q, hq, rfl, hj⟩ := refAt hy
  obtain ⟨p', w1, hp', hw1, e1⟩ := h1.at hi
  obtain ⟨q', w2, hq', hw2, e2⟩ := h2.at hj
  rw [hp] at hp'
  rw [hq] at hq'
  rw [hw1] at hw2
  cases hp'
  cases hq'
  cases hw2
  exact rw_same e1 e2
theorem sameFl {K : PySem.W.Frag} {H : Hp} {a b : Addr} {n : Nat} {xs : List V} (ha : H a = some (.lst xs)) (hb : H b = some (.lst xs)) (l : xs.length ≤ 1000) (f : ∀ x ∈ xs, flat x) : SameAt K H (n + 2) (.ref a) (.ref b) := by
  refine .inr (.inr ⟨a, b, _, _, rfl, rfl, .inl ⟨ha, hb⟩, l, rfl, fun i x y hx hy => ?_⟩)
  cases hx.symm.trans hy
  exact .inl ⟨rfl, f _ (List.mem_of_getElem? hx)⟩
theorem flS {us : List Str} : ∀ x ∈ us.map V.str, flat x := fun x hx => by
  obtain ⟨u, _, rfl⟩ := List.mem_map.mp hx
  trivial
section
variable {P : Program} {w : World} {K : PySem.W.Frag} {mg : Str → Option Value} {base : Heap}
theorem ok_ringDue {f C_Clip C_Track CU : Addr} {fd : FuncData} (F : Fun K "_law_ring_due" "_law_ring_due" s_law_ring_due f fd) (T : Txt mg) (G : CTxt K C_Clip) (GT : TTxt K C_Track) (g_Clip : mg "Clip" = some (.ref C_Clip)) (g_Track : mg "Track" = some (.ref C_Track)) (IC : TIsi K C_Clip) (IT : TIsi K C_Track)
    (f_law_same : Fn P w K mg base "_law_same" P_law_same [] 5 (spSame K 4)) (it_Track : ItOwn P w K mg base C_Track "clips" 1) (o_Track : Opr P w K mg base C_Track "__contains__" P_Track___contains__ 1 (spTrackIn K C_Clip C_Track))
    (m_Track_clip_of : Mth P w K mg base C_Track "clip_of" P_Track_clip_of [] 3 (fun vs H Q _ => spClipOfX K C_Clip C_Track CU vs H Q E0)) : FnOk P w K mg base CX0 6 f fd P_law_ring_due (spRingDue K C_Clip C_Track) := by
  refine F.ok sc_law_ring_due (fun vs H Q E h => ?_) (fun cdv A outer s H vs Q E hr h => ?_)
  · obtain ⟨x, M, O, z, ts, ws, us, rfl, _⟩ := h
    rfl
  · obtain ⟨x, M, O, z, ts, ws, us, rfl, ⟨dx, t, qs, pl, hx, ht, hcs, hpl⟩, ok, hM, hts, hO, lO, k⟩ := h
    have l3 := ok.l3
    have lw : ws.length ≤ 3 := by rw [List.length_map] at l3; exact l3
    have lq := hcs.1
    have lt := hts.1
    rw [List.length_map] at lq
    refine ⟨_, (pss_cons (ps_if (PW.pt (pw_or (pt_not (pt_val (pe_callB call_isi rfl T.b_isinstance (by decide +kernel) (pa_cons (pv 0) (pa_cons (pe_glob (v := .ref C_Track) rfl g_Track rfl) pa_nil))))) (pw_or (pt_not (pt_val (pe_fn f_law_same (hr.mono (by omega)) rfl (pa_cons (pe_fld (pv 0) rfl) (pa_cons (pv 1) pa_nil))))) (pw_or1 (pt_not (pt_val (pe_callB call_isi rfl T.b_isinstance (by decide +kernel) (pa_cons (pe_fld (pv 0) rfl) (pa_cons (pe_bltn (v := .ty "tuple") (u := .type "tuple") rfl T.b_tuple (by decide +kernel) rfl) pa_nil))))))))) (pss_one (ps_ret pe_bl)) pss_nil)
    (pss_cons (ps_setLc (i := 5) (own := [("_law_c", 4)]) (g := gName 4) rfl sc_law_ring_due.nd rfl rfl (sw_true rfl rfl rfl (by decide +kernel)) (pi_list (pv 2)) (blkOk_by (own := [("_law_c", 4)]) (N := N_law_ring_due) (sc := defScope s_law_ring_due) (by decide +kernel)) (fun _ _ _ _ _ => pg_name (i := 4) sc_law_ring_due.nd rfl (Or.inl rfl)) (fun _ _ _ _ _ => pts_nil) (fun _ _ _ _ _ => (pe_ix (r := rIxT K) ix_tup (pv 4) pe_int (fun _ _ => rfl))))
    (pss_cons (ps_for PassesOwn.never rfl  (pi_range1 rfl T.b_range (pa_cons pe_int pa_nil)) (pg_name (i := 6) sc_law_ring_due.nd rfl (Or.inl rfl)) (pss_one (ps_if (pt_not (pt_val (pe_fn f_law_same (hr.mono (by omega)) rfl (pa_cons (pe_lc (own := [("_law_clip", 7)]) (g := gName 7) rfl sc_law_ring_due.nd (pi_own it_Track (hr.mono (by omega)) (pv 0)) (blkOk_by (own := [("_law_clip", 7)]) (N := N_law_ring_due) (sc := defScope s_law_ring_due) (by decide +kernel)) (fun _ _ _ _ _ => pg_name (i := 7) sc_law_ring_due.nd rfl (Or.inl rfl)) (fun _ _ _ _ _ => pts_nil) (fun _ _ _ _ _ => (pe_fldK (K := K) (pv 7) rfl rfl))) (pa_cons (pv 5) pa_nil))))) (pss_one (ps_ret pe_bl)) pss_nil)))
    (pss_cons (ps_setLc (i := 8) (own := [("_law_clip", 7)]) (g := gName 7) rfl sc_law_ring_due.nd rfl rfl (sw_true rfl rfl rfl (by decide +kernel)) (pi_tup (pe_fld (pv 0) rfl)) (blkOk_by (own := [("_law_clip", 7)]) (N := N_law_ring_due) (sc := defScope s_law_ring_due) (by decide +kernel)) (fun _ _ _ _ _ => pg_name (i := 7) sc_law_ring_due.nd rfl (Or.inl rfl)) (fun _ _ _ _ _ => pts_nil) (fun _ _ _ _ _ => (pe_lst (pa_cons (pe_fldK (K := K) (pv 7) rfl rfl) (pa_cons (pe_fldK (K := K) (pv 7) rfl rfl) (pa_cons (pe_fldK (K := K) (pv 7) rfl rfl) pa_nil))))))
    (pss_cons (ps_if (pt_not (pt_val (pe_fn f_law_same (hr.mono (by omega)) rfl (pa_cons (pv 8) (pa_cons (pe_lc (own := [("_law_c", 4)]) (g := gName 4) rfl sc_law_ring_due.nd (pi_list (pv 2)) (blkOk_by (own := [("_law_c", 4)]) (N := N_law_ring_due) (sc := defScope s_law_ring_due) (by decide +kernel)) (fun _ _ _ _ _ => pg_name (i := 4) sc_law_ring_due.nd rfl (Or.inl rfl)) (fun _ _ _ _ _ => pts_nil) (fun _ _ _ _ _ => (pe_lst (pa_cons (pe_ix (r := rIxT K) ix_tup (pv 4) pe_int (fun _ _ => rfl)) (pa_cons (pe_ix (r := rIxT K) ix_tup (pv 4) pe_int (fun _ _ => rfl)) (pa_cons (pe_ix (r := rIxT K) ix_tup (pv 4) pe_int (fun _ _ => rfl)) pa_nil)))))) pa_nil))))) (pss_one (ps_ret pe_bl)) pss_nil)
    (pss_cons (ps_for PassesOwn.never rfl  (pi_list (pv 2)) (pg_name (i := 4) sc_law_ring_due.nd rfl (Or.inl rfl)) (pss_cons (ps_set (i := 7) sc_law_ring_due.nd rfl (Or.inl rfl) (pe_mth m_Track_clip_of (pv 0) (hr.mono (by omega)) (pa_cons (pe_ix ix_tup (pv 4) pe_int (fun _ _ => rfl)) pa_nil)))
    (pss_one (ps_if (PW.pt (pw_or (pt_not (pt_val (pe_callB call_isi rfl T.b_isinstance (by decide +kernel) (pa_cons (pv 7) (pa_cons (pe_glob (v := .ref C_Clip) rfl g_Clip rfl) pa_nil))))) (pw_or1 (pt_not (pt_val (pe_fn f_law_same (hr.mono (by omega)) rfl (pa_cons (pe_lst (pa_cons (pe_fld (pv 7) rfl) (pa_cons (pe_fld (pv 7) rfl) (pa_cons (pe_fld (pv 7) rfl) pa_nil)))) (pa_cons (pe_lst (pa_cons (pe_ix ix_tup (pv 4) pe_int (fun _ _ => rfl)) (pa_cons (pe_ix ix_tup (pv 4) pe_int (fun _ _ => rfl)) (pa_cons (pe_ix ix_tup (pv 4) pe_int (fun _ _ => rfl)) pa_nil)))) pa_nil)))))))) (pss_one (ps_ret pe_bl)) pss_nil))))
    (pss_cons (ps_for PassesOwn.never rfl  (pi_list (pe_op op_cat (pv 5) (pv 3))) (pg_name (i := 9) sc_law_ring_due.nd rfl (Or.inl rfl)) (pss_one (ps_if (pt_cmpR op_ne (pe_cmpR (op_in o_Track (hr.mono (by omega))) (pv 9) (pv 0) (by rfl)) (pe_cmpR op_in_seq (pv 9) (pv 5) (by rfl)) (nomark _)) (pss_one (ps_ret pe_bl)) pss_nil)))
    (pss_one (ps_ret pe_bl))))))))), ?_⟩
    refine Bar.rStart (σ := [some (.ref x), some (.str z), some (.ref M), some (.ref O), none, none, none, none, none, none]) rfl ?_
    walk_at "rd"
    refine isiO IT hx ?_
    walk_at "rd"
    refine Bar.rFldV hx GT.cl GT.n1 rfl ?_
    walk_at "rd"
    refine ⟨_, _, rfl, .inl ⟨rfl, trivial⟩, ?_⟩
    walk_at "rd"
    refine Bar.rFldV hx GT.cl GT.n2 rfl ?_
    walk_at "rd"
    refine Bar.lcL (τ := [some (.ref x), some (.str z), some (.ref M), some (.ref O), none, none, none, none, none, none]) rfl (SqL.of hM) fun N hN => ⟨fun i H' => Same H H' ∧ H' N = some (.lst (((ws.take i).map Rw.z).map V.str)), ⟨fun _ _ e => Bar.lkNew hN e, upd_same⟩, fun i H' _ ⟨S, _⟩ => SqL.of (S _ _ hM), ?_, ?_⟩
    · rintro i v H3 hv ⟨S3, hd⟩
      obtain ⟨t1, ht1, rfl, hi⟩ := refAt hv
      obtain ⟨t', c, ht', hc, dc⟩ := hts.at hi
      rw [ht1] at ht'
      cases ht'
      have ht3 := RwAt.same S3 dc
      walk_at "rd"
      refine ⟨rfl, ?_⟩
      walk_at "rd"
      refine Bar.rIxT_ (SqT.of ht3) (atI_nat (j := 0) rfl) ?_
      refine ⟨_, hd, Bar.szLt (by rw [List.length_map, List.length_map, List.length_take]; omega), fun a' o' e => ?_, ?_⟩
      · rw [upd_ne (ne_of_none e hN)]
        exact S3 _ _ e
      · rw [upd_same, List.take_add_one, hc, List.map_append, List.map_append]
        rfl
    rintro H1 ⟨S1, hN1⟩
    rw [List.length_map, lt, List.take_length] at hN1
    have lN : (ws.map Rw.z).length ≤ 3 := by rw [List.length_map]; exact lw
    walk_at "rd"
    refine Bar.forR 2 rfl (fun i σ H' => Same H1 H' ∧ ∃ v, σ = [some (.ref x), some (.str z), some (.ref M), some (.ref O), none, some (.ref N), v, none, none, none]) (by decide) ⟨fun _ _ e => e, _, rfl⟩ ?_ ?_
    · rintro j σ H2 hj ⟨S2, v, rfl⟩
      have S02 : Same H H2 := fun _ _ e => S2 _ _ (S1 _ _ e)
      have hc2 := hcs.to fun _ _ q => q.same S02
      have ht2 := S02 _ _ ht
      walk_at "rd"
      refine Bar.lcO (τ := [some (.ref x), some (.str z), some (.ref M), some (.ref O), none, some (.ref N), some (.int (j : Int)), none, none, none]) rfl (S02 _ _ hx) rfl (SqT.of ht2) fun D hD => ⟨fun i H' => Same H2 H' ∧ H' D = some (.lst (((ws.take i).map Rw.z).map V.str)), ⟨fun _ _ e => Bar.lkNew hD e, upd_same⟩, fun i H' _ ⟨S, _⟩ => SqT.of (S _ _ ht2), ?_, ?_⟩
      · rintro i v H3 hv ⟨S3, hd⟩
        obtain ⟨q, hq, rfl, hi⟩ := refAt hv
        obtain ⟨q', c, hq', hc, cp⟩ := hc2.at hi
        rw [hq] at hq'
        cases hq'
        obtain ⟨w0, hw0, rfl⟩ := Option.map_eq_some_iff.mp (by rw [List.getElem?_map] at hc; exact hc)
        obtain ⟨dq, g, tt, eq, et⟩ := cp.same S3
        walk_at "rd"
        refine ⟨rfl, ?_⟩
        walk_at "rd"
        refine Bar.rFldV eq G.cl G.n1 rfl ?_
        refine ⟨_, hd, Bar.szLt (by rw [List.length_map, List.length_map, List.length_take]; omega), fun a' o' e => ?_, ?_⟩
        · rw [upd_ne (ne_of_none e hD)]
          exact S3 _ _ e
        · rw [upd_same, List.take_add_one, hw0, List.map_append, List.map_append]
          rfl
      rintro H3 ⟨S3, hd⟩
      rw [List.length_map, lq, List.take_length] at hd
      have hN3 := S3 _ _ (S2 _ _ hN1)
      walk_at "rd"
      refine ⟨_, _, rfl, sameFl hd hN3 (by rw [List.length_map]; omega) flS, ?_⟩
      walk_at "rd"
      exact ⟨fun _ _ e => S3 _ _ (S2 _ _ e), _, rfl⟩
    rintro σ H2 ⟨S2, v, rfl⟩
    have S02 : Same H H2 := fun _ _ e => S2 _ _ (S1 _ _ e)
    have hx2 := S02 _ _ hx
    have ht2 := S02 _ _ ht
    have hc2 := hcs.to fun _ _ q => q.same S02
    have hN2 := S2 _ _ hN1
    clear S1 S2 hN hN1
    walk_at "rd"
    refine Bar.rFldV hx2 GT.cl GT.n2 rfl ?_
    walk_at "rd"
    refine Bar.lcT (τ := [some (.ref x), some (.str z), some (.ref M), some (.ref O), none, some (.ref N), v, none, none, none]) rfl (SqT.of ht2) fun D hD => ⟨fun i H' => Same H2 H' ∧ ∃ ps, H' D = some (.lst (ps.map V.ref)) ∧ All2 (LsAt H') ps (ws.take i) ∧ D ∉ ps, ⟨fun _ _ e => Bar.lkNew hD e, [], upd_same, All2.nil, by simp⟩, fun i H' _ ⟨S, _⟩ => SqT.of (S _ _ ht2), ?_, ?_⟩
    · rintro i v H3 hv ⟨S3, ps, hd, hps, nD⟩
      obtain ⟨q, hq, rfl, hi⟩ := refAt hv
      obtain ⟨q', c, hq', hc, cp⟩ := hc2.at hi
      rw [hq] at hq'
      cases hq'
      obtain ⟨w0, hw0, rfl⟩ := Option.map_eq_some_iff.mp (by rw [List.getElem?_map] at hc; exact hc)
      obtain ⟨dq, g, tt, eq, et⟩ := cp.same S3
      have pl5 : ps.length ≤ 5 := by rw [hps.1, List.length_take]; omega
      walk_at "rd"
      refine ⟨rfl, ?_⟩
      walk_at "rd"
      refine Bar.rFldV eq G.cl G.n1 rfl ?_
      walk_at "rd"
      refine Bar.rFldV eq G.cl G.n3 rfl ?_
      walk_at "rd"
      refine Bar.rFldV eq G.cl G.n4 rfl ?_
      walk_at "rd"
      intro p hp
      have npD : p ≠ D := fun e => by
        rw [e, hd] at hp
        cases hp
      have hd2 := Bar.lkNew (o := .lst [.str w0.z, oV w0.o, .int w0.r]) hp hd
      refine ⟨_, hd2, Bar.szLt (by rw [List.length_map]; omega), fun a' o' e => ?_, ps ++ [p], by rw [upd_same, List.map_append]; rfl, ?_, ?_⟩
      · rw [upd_ne (ne_of_none e hD)]
        exact Bar.lkNew hp (S3 _ _ e)
      · rw [List.take_add_one, hw0]
        refine All2.push ⟨hps.1, fun i' a c h1 h2 => ?_⟩ (show LsAt _ p w0 from Bar.lkNe npD upd_same)
        exact Bar.lkNe (fun e => nD (by rw [← e]; exact List.mem_of_getElem? h1)) (Bar.lkNew hp (hps.2 i' a c h1 h2))
      · intro h
        rcases List.mem_append.mp h with h | h
        · exact nD h
        · exact npD (List.mem_singleton.mp h).symm
    rintro H3 ⟨S3, ps, hd, hps, _⟩
    rw [List.length_map, lq, List.take_length] at hps
    have S03 : Same H H3 := fun _ _ e => S3 _ _ (S02 _ _ e)
    have hM3 := S03 _ _ hM
    have ht3 := hts.to fun _ _ e => RwAt.same S03 e
    have hN3 := S3 _ _ hN2
    walk_at "rd"
    refine Bar.lcL (τ := [some (.ref x), some (.str z), some (.ref M), some (.ref O), none, some (.ref N), v, none, some (.ref D), none]) rfl (SqL.of hM3) fun D2 hD2 => ⟨fun i H' => Same H3 H' ∧ ∃ ps, H' D2 = some (.lst (ps.map V.ref)) ∧ All2 (LsAt H') ps (ws.take i) ∧ D2 ∉ ps, ⟨fun _ _ e => Bar.lkNew hD2 e, [], upd_same, All2.nil, by simp⟩, fun i H' _ ⟨S, _⟩ => SqL.of (S _ _ hM3), ?_, ?_⟩
    · rintro i v H4 hv ⟨S4, ps, hd, hps, nD⟩
      obtain ⟨t1, ht1, rfl, hi⟩ := refAt hv
      obtain ⟨t', w0, ht', hw0, dc⟩ := ht3.at hi
      rw [ht1] at ht'
      cases ht'
      have ht4 := RwAt.same S4 dc
      have pl5 : ps.length ≤ 5 := by rw [hps.1, List.length_take]; omega
      walk_at "rd"
      refine ⟨rfl, ?_⟩
      walk_at "rd"
      refine Bar.rIxT_ (SqT.of ht4) (atI_nat (j := 0) rfl) ?_
      walk_at "rd"
      refine Bar.rIxT_ (SqT.of ht4) (atI_nat (j := 1) rfl) ?_
      walk_at "rd"
      refine Bar.rIxT_ (SqT.of ht4) (atI_nat (j := 2) rfl) ?_
      walk_at "rd"
      intro p hp
      have npD : p ≠ D2 := fun e => by
        rw [e, hd] at hp
        cases hp
      have hd2 := Bar.lkNew (o := .lst [.str w0.z, oV w0.o, .int w0.r]) hp hd
      refine ⟨_, hd2, Bar.szLt (by rw [List.length_map]; omega), fun a' o' e => ?_, ps ++ [p], by rw [upd_same, List.map_append]; rfl, ?_, ?_⟩
      · rw [upd_ne (ne_of_none e hD2)]
        exact Bar.lkNew hp (S4 _ _ e)
      · rw [List.take_add_one, hw0]
        refine All2.push ⟨hps.1, fun i' a c h1 h2 => ?_⟩ (show LsAt _ p w0 from Bar.lkNe npD upd_same)
        exact Bar.lkNe (fun e => nD (by rw [← e]; exact List.mem_of_getElem? h1)) (Bar.lkNew hp (hps.2 i' a c h1 h2))
      · intro h
        rcases List.mem_append.mp h with h | h
        · exact nD h
        · exact npD (List.mem_singleton.mp h).symm
    rintro H4 ⟨S4, ps2, hd4, hps2, _⟩
    rw [List.length_map, lt, List.take_length] at hps2
    have S04 : Same H H4 := fun _ _ e => S4 _ _ (S03 _ _ e)
    walk_at "rd"
    refine ⟨_, _, rfl, rows_same (S4 _ _ hd) hd4 (hps.to fun _ _ e => LsAt.same S4 e) hps2 (by omega), ?_⟩
    have hM4 := S04 _ _ hM
    have hN4 := S4 _ _ hN3
    clear hd hps hd4 hps2 hD hD2 S3 S4 hM3 ht3 hN3 hN2 hx2 ht2 hc2 S02 S03
    walk_at "rd"
    refine Bar.forL (xs := ts.map V.ref) (fun i σ H' => Same H4 H' ∧ ∃ u v', σ = [some (.ref x), some (.str z), some (.ref M), some (.ref O), u, some (.ref N), v, v', some (.ref D), none]) (SqL.of hM4) ⟨fun _ _ e => e, _, _, rfl⟩ (fun i σ H' _ ⟨S, _⟩ => SqL.of (S _ _ hM4)) ?_ ?_
    · rintro i w' σ H5 hv ⟨S5, u, v', rfl⟩
      obtain ⟨t1, ht1, rfl, hi⟩ := refAt hv
      obtain ⟨t', w0, ht', hw0, dc⟩ := hts.at hi
      rw [ht1] at ht'
      cases ht'
      have S05 : Same H H5 := fun _ _ e => S5 _ _ (S04 _ _ e)
      have ht5 := RwAt.same S05 dc
      have cm : w0.dc ∈ ws.map Rw.dc := List.mem_map.mpr ⟨w0, List.mem_of_getElem? hw0, rfl⟩
      have fc := findC_mem ok.nd cm
      have oz : TxOk w0.z := txName (ok.ok _ cm).nm
      have hx5 := S05 _ _ hx
      have ta : TkA K C_Clip C_Track H5 x dx t pl z qs (ws.map Rw.dc) := ⟨hx5, S05 _ _ ht, hcs.to fun _ _ q => q.same S05⟩
      walk_at "rd"
      refine ⟨x, dx, _, rfl, hx5, rfl, ?_⟩
      walk_at "rd"
      refine Bar.rIxT_ (SqT.of ht5) (atI_nat (j := 0) rfl) ?_
      walk_at "rd"
      refine ⟨x, dx, t, pl, z, w0.z, qs, _, rfl, ta, oz, (fun q c' e' cp => ?_), fun e' => by rw [show findC (ws.map Rw.dc) w0.z = some w0.dc from fc] at e'; cases e'⟩
      rw [show findC (ws.map Rw.dc) w0.z = some w0.dc from fc] at e'
      cases e'
      obtain ⟨dq, g, tq, eq, et⟩ := cp
      walk_at "rd"
      refine isiO IC eq ?_
      walk_at "rd"
      refine Bar.rFldV eq G.cl G.n1 rfl ?_
      walk_at "rd"
      refine Bar.rFldV eq G.cl G.n3 rfl ?_
      walk_at "rd"
      refine Bar.rFldV eq G.cl G.n4 rfl ?_
      walk_at "rd"
      intro a ha
      have ht6 : (upd H5 a (.lst [.str w0.dc.z, oV w0.dc.o, .int w0.dc.r])) t1 = some (.tup [.str w0.z, oV w0.o, .int w0.r]) := Bar.lkNew ha ht5
      walk_at "rd"
      intro b hb
      walk_at "rd"
      refine ⟨_, _, rfl, rw_same (w := w0) (Bar.lkNew hb upd_same) upd_same, ?_⟩
      walk_at "rd"
      exact ⟨fun _ _ e => Bar.lkNew hb (Bar.lkNew ha (S5 _ _ e)), _, _, rfl⟩
    rintro σ H5 ⟨S5, u, v', rfl⟩
    have S05 : Same H H5 := fun _ _ e => S5 _ _ (S04 _ _ e)
    have hN5 := S5 _ _ hN4
    have hO5 := S05 _ _ hO
    walk_at "rd"
    refine Bar.rCat_ hN5 hO5 (szLe (by simp only [List.length_map] at lN ⊢; omega)) fun W hW => ?_
    rw [← List.map_append]
    have S6 : Same H5 (upd H5 W (.lst ((ws.map Rw.z ++ us).map V.str))) := fun _ _ e => Bar.lkNew hW e
    have hW6 : (upd H5 W (.lst ((ws.map Rw.z ++ us).map V.str))) W = some (.lst ((ws.map Rw.z ++ us).map V.str)) := upd_same
    generalize (upd H5 W (.lst ((ws.map Rw.z ++ us).map V.str))) = H6 at S6 hW6 ⊢
    walk_at "rd"
    refine Bar.forL (xs := (ws.map Rw.z ++ us).map V.str) (fun i σ H' => Same H6 H' ∧ ∃ v2, σ = [some (.ref x), some (.str z), some (.ref M), some (.ref O), u, some (.ref N), v, v', some (.ref D), v2]) (SqL.of hW6) ⟨fun _ _ e => e, _, rfl⟩ (fun i σ H' _ ⟨S, _⟩ => SqL.of (S _ _ hW6)) ?_ ?_
    · rintro i w' σ H7 hv ⟨S7, v2, rfl⟩
      obtain ⟨y, hy, rfl⟩ : ∃ y, y ∈ ws.map Rw.z ++ us ∧ w' = .str y := by
        rw [List.getElem?_map] at hv
        cases e : (ws.map Rw.z ++ us)[i]? with
        | none => rw [e] at hv; cases hv
        | some y =>
          rw [e] at hv
          exact ⟨y, List.mem_of_getElem? e, (Option.some.inj hv).symm⟩
      have S07 : Same H H7 := fun _ _ e => S7 _ _ (S6 _ _ (S05 _ _ e))
      have hN7 := S7 _ _ (S6 _ _ hN5)
      walk_at "rd"
      refine ⟨x, dx, _, rfl, S07 _ _ hx, x, dx, t, pl, z, y, _, qs, _, rfl, S07 _ _ hx, S07 _ _ ht, hcs.to fun _ _ q => q.same S07, (by rw [List.length_map]; omega), fun H8 S8 => ⟨_, rfl, ?_⟩⟩
      have en : (ws.map Rw.dc).map Dc.z = ws.map Rw.z := by rw [List.map_map]; rfl
      rw [en]
      walk_at "rd"
      refine ⟨N, _, rfl, .inl (SqL.of (S8 _ _ hN7)), rfl, flat_strs _, ?_⟩
      rw [in_str]
      walk_at "rd"
      rw [if_neg Bool.false_ne_true, beq_self_eq_true]
      walk_at "rd"
      exact ⟨fun _ _ e => S8 _ _ (S7 _ _ e), _, rfl⟩
    · rintro σ H7 ⟨S7, v2, rfl⟩
      walk_at "rd"
      exact k _ fun _ _ e => S7 _ _ (S6 _ _ (S05 _ _ e))
end

end Lw
namespace Lw
open PySem L2 Bar
/-! ### the law -/
def spLaw (K : PySem.W.Frag) : Sp := fun vs H Q _ => ∃ (a : Addr) (ns : List Int), vs = [.ref a] ∧ SqL K H a (ns.map V.int) ∧ ns.length ≤ 63 ∧ ∀ H', Q (.bl true) H'
theorem txu_ok {z : Str} (h : ∀ c ∈ z.cps.toList, c < 0x110000) : PyData.strOk z = true := by
  unfold PyData.strOk
  rw [← Array.all_toList]
  exact List.all_eq_true.mpr fun c hc => decide_eq_true (h c hc)
theorem shp1 {z : Str} (h : PyData.strOk z = true) : SeqAt.shaped (.list [.str z]) = true := by
  show ((PyData.strOk z && true) && true) = true
  rw [h]
  rfl
theorem shp2 {z y : Str} (h : PyData.strOk z = true) (h2 : PyData.strOk y = true) : SeqAt.shaped (.list [.str z, .str y]) = true := by
  show ((PyData.strOk z && (PyData.strOk y && true)) && true) = true
  rw [h, h2]
  rfl
theorem due_eq {K : PySem.W.Frag} {H : Hp} {D E : Addr} {o : Option KFlt} {Q : VK} (hD : H D = some (.lst (dueV o))) (hE : H E = some (.lst [.str "let"])) (hz : ∀ z, V.str z ∈ dueV o → PyData.strOk z = true) (h : Q (.bl o.isNone) H) : rEqD K (.ref D) (.ref E) H Q := by
  have dE : Dp K H (.ref E) (.list [.str "let"]) := .lst (SqL.of hE) (.cons (.str _) .nil)
  have sE : SeqAt.shaped (.list [.str "let"]) = true := shp1 (by decide +kernel)
  cases o with
  | none => exact ⟨_, _, .lst (SqL.of hD) (.cons (.str _) .nil), dE, sE, sE, h⟩
  | some e =>
    cases e with
    | name z => exact ⟨_, _, .lst (SqL.of hD) (.cons (.str _) (.cons (.str _) .nil)), dE, shp2 (by decide +kernel) (hz z (.tail _ (.head _))), sE, h⟩
    | none z => exact ⟨_, _, .lst (SqL.of hD) (.cons (.str _) (.cons (.str _) .nil)), dE, shp2 (by decide +kernel) (hz z (.tail _ (.head _))), sE, h⟩
    | many => exact ⟨_, _, .lst (SqL.of hD) (.cons (.str _) (.cons (.str _) (.cons (.int _) .nil))), dE, by decide +kernel, sE, h⟩
    | empty z => exact ⟨_, _, .lst (SqL.of hD) (.cons (.str _) (.cons (.str _) .nil)), dE, shp2 (by decide +kernel) (hz z (.tail _ (.head _))), sE, h⟩
    | twice z => exact ⟨_, _, .lst (SqL.of hD) (.cons (.str _) (.cons (.str _) .nil)), dE, shp2 (by decide +kernel) (hz z (.tail _ (.head _))), sE, h⟩
theorem let_ok : PyData.strOk "let" = true ∧ PyData.strOk "name" = true ∧ PyData.strOk "none" = true ∧ PyData.strOk "many" = true ∧ PyData.strOk "empty" = true ∧ PyData.strOk "twice" = true ∧ PyData.strOk "clips" = true := by decide +kernel
/-- the texts in what is due -/
theorem due_txt {y : Str} {cs : List Dc} (oy : PyData.strOk y = true) (oc : ∀ c ∈ cs, PyData.strOk c.z = true) : ∀ z, V.str z ∈ dueV (trackF y cs) → PyData.strOk z = true := by
  intro z hz
  obtain ⟨o1, o2, o3, o4, o5, o6, o7⟩ := let_ok
  cases e : trackF y cs with
  | none =>
    rw [e] at hz
    have := List.mem_singleton.mp hz
    cases this
    exact o1
  | some fl =>
    rw [e] at hz
    cases fl with
    | name u =>
      unfold trackF at e
      split at e
      · cases e
        simp only [dueV, KFlt.told, List.mem_cons, List.not_mem_nil, or_false, V.str.injEq] at hz
        rcases hz with rfl | rfl
        · exact o2
        · exact oy
      · unfold ringF at e
        split at e
        · cases e
        · split at e
          · cases e
          · split at e
            · cases e
            · cases q : twi [] (cs.map Dc.z) <;> (rw [q] at e; cases e)
    | none u =>
      unfold trackF at e
      split at e
      · cases e
      · unfold ringF at e
        split at e
        · cases e
          simp only [dueV, KFlt.told, List.mem_cons, List.not_mem_nil, or_false, V.str.injEq] at hz
          rcases hz with rfl | rfl
          · exact o3
          · exact oy
        · split at e
          · cases e
          · split at e
            · cases e
            · cases q : twi [] (cs.map Dc.z) <;> (rw [q] at e; cases e)
    | many =>
      simp only [dueV, KFlt.told, List.mem_cons, List.not_mem_nil, or_false, V.str.injEq, reduceCtorEq] at hz
      rcases hz with rfl | rfl
      · exact o4
      · exact o7
    | empty u =>
      unfold trackF at e
      split at e
      · cases e
      · unfold ringF at e
        split at e
        · cases e
        · split at e
          · cases e
          · split at e
            · rename_i v hv
              cases e
              simp only [dueV, KFlt.told, List.mem_cons, List.not_mem_nil, or_false, V.str.injEq] at hz
              rcases hz with rfl | rfl
              · exact o5
              · split at hv
                · unfold voidC at hv
                  obtain ⟨c, hc, rfl⟩ := Option.map_eq_some_iff.mp hv
                  exact oc c (List.mem_of_find?_eq_some hc)
                · cases hv
            · cases q : twi [] (cs.map Dc.z) <;> (rw [q] at e; cases e)
    | twice u =>
      unfold trackF at e
      split at e
      · cases e
      · unfold ringF at e
        split at e
        · cases e
        · split at e
          · cases e
          · split at e
            · cases e
            · cases q : twi [] (cs.map Dc.z) with
              | none => rw [q] at e; cases e
              | some v =>
                rw [q] at e
                cases e
                simp only [dueV, KFlt.told, List.mem_cons, List.not_mem_nil, or_false, V.str.injEq] at hz
                rcases hz with rfl | rfl
                · exact o6
                · obtain ⟨c, hc, e⟩ := List.mem_map.mp (twi_mem q)
                  rw [← e]
                  exact oc c hc
theorem dueV_flat (o : Option KFlt) : ∀ x ∈ dueV o, flat x := by
  intro x hx
  cases o with
  | none =>
    rw [show x = .str "let" from List.mem_singleton.mp hx]
    trivial
  | some e => cases e <;> (simp only [dueV, KFlt.told, List.mem_cons, List.not_mem_nil, or_false] at hx; first | (rcases hx with rfl | rfl | rfl <;> trivial) | (rcases hx with rfl | rfl <;> trivial))
theorem dueV_len (o : Option KFlt) : (dueV o).length ≤ 3 := by
  cases o with
  | none => show 1 ≤ 3; decide
  | some e => cases e <;> first | (show 2 ≤ 3; decide) | (show 3 ≤ 3; decide)
/-- what the law keeps all through -/
structure St25 (K : PySem.W.Frag) (CC CT : Addr) (H : Hp) (L O R x : Addr) (z : Str) (ts : List Addr) (ws : List Rw) (us : List Str) (m : Nat) : Prop where
  l : H L = some (.lst (ts.map V.ref))
  w : All2 (RwAt H) ts ws
  o : H O = some (.lst (us.map V.str))
  r : ∃ T, H R = some (.lst [.ref T, .ref x])
  t : TkAt K CC CT H x z ((ws.take m).map Rw.dc)
section
variable {K : PySem.W.Frag} {CC CT : Addr} {H H' : Hp} {L O R x b : Addr} {z : Str} {ts : List Addr} {ws : List Rw} {us : List Str} {m : Nat} {xs : List V}
theorem St25.same (S : Same H H') (h : St25 K CC CT H L O R x z ts ws us m) : St25 K CC CT H' L O R x z ts ws us m := by
  obtain ⟨T, r⟩ := h.r
  exact ⟨S _ _ h.l, h.w.to fun _ _ e => RwAt.same S e, S _ _ h.o, ⟨T, S _ _ r⟩, h.t.same S⟩
theorem St25.kp (k : Kp b H H') (hb : H b = some (.lst xs)) (nL : L ≠ b) (nO : O ≠ b) (nR : R ≠ b) (h : St25 K CC CT H L O R x z ts ws us m) : St25 K CC CT H' L O R x z ts ws us m := by
  obtain ⟨T, r⟩ := h.r
  exact ⟨k _ _ nL h.l, h.w.to fun _ _ e => RwAt.kp k hb e, k _ _ nO h.o, ⟨T, k _ _ nR r⟩, h.t.kpl k hb⟩
end
theorem track_some {z : Str} {cs : List Dc} (ok : ∀ c ∈ cs, DOk c) (h : trackF z cs = none) : nameB z = true ∧ ROk cs := by
  unfold trackF at h
  cases e : nameB z with
  | false => rw [if_pos e] at h; cases h
  | true =>
    rw [e, if_neg (by decide)] at h
    exact ⟨rfl, ring_ok ok h⟩
theorem rows_ok {ws : List Rw} (h : ∀ w ∈ ws, WOk w) : ∀ c ∈ ws.map Rw.dc, DOk c := fun c hc => by
  obtain ⟨w, hw, rfl⟩ := List.mem_map.mp hc
  exact (h w hw).d
theorem first_ok {ws : List Rw} {m : Nat} (h : ∀ w ∈ ws, WOk w ∧ w.o ≠ none) (nd : (ws.map Rw.z).Nodup) (l5 : ws.length = 5) (m1 : 1 ≤ m) (m3 : m ≤ 3) : ROk ((ws.take m).map Rw.dc) := by
  refine ⟨rows_ok fun w hw => (h w (List.mem_of_mem_take hw)).1, by rw [List.length_map, List.length_take]; omega, by rw [List.length_map, List.length_take]; omega, fun c hc e => ?_, ?_⟩
  · obtain ⟨w, hw, rfl⟩ := List.mem_map.mp hc
    exact absurd e (h w (List.mem_of_mem_take hw)).2
  · rw [List.map_map]
    show ((ws.take m).map Rw.z).Nodup
    rw [List.map_take]
    exact nd.sublist (List.take_sublist _ _)
section
variable {P : Program} {w : World} {K : PySem.W.Frag} {mg : Str → Option Value} {base : Heap}
theorem ok_law {f CC C_Track : Addr} {fd : FuncData} {mc : Value} {tkv : Tok} (F : Fun K "law" "law" s_law f fd) (T : Txt mg) (g_Track : mg "Track" = some (.ref C_Track)) (cr : ClX.CRead K C_Track mc) (cv : ClX.CVal K C_Track mc "CLIPS" (.int 3) (.int 3 tkv))
    (f_law_box : Fn P w K mg base "_law_box" P_law_box [] 1 (spBox K)) (f_law_draw : Fn P w K mg base "_law_draw" P_law_draw [] 1 spDrawA) (f_law_same : Fn P w K mg base "_law_same" P_law_same [] 4 (spSame K 3)) (f_law_name : Fn P w K mg base "_law_name" P_law_name [] 2 spName) (f_law_rows : Fn P w K mg base "_law_rows" P_law_rows [] 3 spRows) (f_law_case : Fn P w K mg base "_law_case" P_law_case [] 3 spCase)
    (f_law_clips : Fn P w K mg base "_law_clips" P_law_clips [] 7 (spClips K CC)) (f_law_told : Fn P w K mg base "_law_told" P_law_told [] 8 (spTold K CC C_Track)) (f_law_due : Fn P w K mg base "_law_due" P_law_due [] 1 spDue) (f_law_ring_due : Fn P w K mg base "_law_ring_due" P_law_ring_due [] 6 (spRingDue K CC C_Track)) : FnOk P w K mg base CX0 9 f fd P_law (spLaw K) := by
  refine F.ok sc_law (fun vs H Q E h => ?_) (fun cdv A outer s H vs Q E hr h => ?_)
  · obtain ⟨a, ns, rfl, _⟩ := h
    rfl
  · obtain ⟨a, vs, rfl, ha, hl, k⟩ := h
    refine ⟨_, (pss_cons (ps_if (pt_not (pt_val (pe_fn f_law_same (hr.mono (by omega)) rfl (pa_cons (ClX.pe_cval (pe_glob (v := .ref C_Track) rfl g_Track rfl)) (pa_cons pe_int pa_nil))))) (pss_one (ps_ret pe_bl)) pss_nil)
    (pss_cons (ps_set (i := 1) sc_law.nd rfl (Or.inl rfl) (pe_fn f_law_box (hr.mono (by omega)) rfl (pa_cons (pv 0) (pa_cons pe_int pa_nil))))
    (pss_cons (ps_set (i := 2) sc_law.nd rfl (Or.inl rfl) (pe_lst pa_nil))
    (pss_cons (ps_set (i := 3) sc_law.nd rfl (Or.inl rfl) (pe_fn f_law_name (hr.mono (by omega)) rfl (pa_cons (pv 1) (pa_cons (pv 2) pa_nil))))
    (pss_cons (ps_set (i := 4) sc_law.nd rfl (Or.inl rfl) (pe_op op_add pe_int (pe_fn f_law_draw (hr.mono (by omega)) rfl (pa_cons (pv 1) (pa_cons pe_int pa_nil)))))
    (pss_cons (ps_set (i := 5) sc_law.nd rfl (Or.inl rfl) (pe_fn f_law_rows (hr.mono (by omega)) rfl (pa_cons (pv 1) (pa_cons (pv 2) pa_nil))))
    (pss_cons (ps_set (i := 6) sc_law.nd rfl (Or.inl rfl) (pe_op o_catS (pe_ix ix_tup (pe_ix ix_list (pv 5) pe_int (fun _ _ => rfl)) pe_int (fun _ _ => rfl)) pe_str))
    (pss_mid (ps_if (pt_cmpR op_gt (pe_callB c_lenStr rfl T.b_len PySem.boot_len (pa_cons (pv 6) pa_nil)) pe_int (nomark _)) (pss_one (ps_set (i := 6) sc_law.nd rfl (Or.inl rfl) (pe_slice sl_str (pv 6) po_none (po_some pe_int)))) pss_nil)
    (pss_cons (ps_set (i := 7) sc_law.nd rfl (Or.inl rfl) (pe_lst (pa_cons (pv 3) (pa_cons (pe_ix ix_tup (pe_ix ix_list (pv 5) pe_int (fun _ _ => rfl)) pe_int (fun _ _ => rfl)) (pa_cons (pe_ix ix_tup (pe_ix ix_list (pv 5) pe_int (fun _ _ => rfl)) pe_int (fun _ _ => rfl)) (pa_cons (pv 6) pa_nil))))))
    (pss_cons (ps_set (i := 8) sc_law.nd rfl (Or.inl rfl) (pe_fn f_law_told (hr.mono (by omega)) rfl (pa_cons (pv 3) (pa_cons (pe_fn f_law_clips (hr.mono (by omega)) rfl (pa_cons (pe_slice sl_list (pv 5) po_none (po_some (pv 4))) (pa_cons (pe_lst pa_nil) pa_nil))) pa_nil))))
    (pss_cons (ps_if (PW.pt (pw_or (pt_not (pt_val (pe_fn f_law_same (hr.mono (by omega)) rfl (pa_cons (pe_ix ix_list (pv 8) pe_int (fun _ _ => rfl)) (pa_cons (pe_lst (pa_cons pe_str pa_nil)) pa_nil))))) (pw_or1 (pt_not (pt_val (pe_fn f_law_ring_due (hr.mono (by omega)) rfl (pa_cons (pe_ix ix_list (pv 8) pe_int (fun _ _ => rfl)) (pa_cons (pv 3) (pa_cons (pe_slice sl_list (pv 5) po_none (po_some (pv 4))) (pa_cons (pv 7) pa_nil)))))))))) (pss_one (ps_ret pe_bl)) pss_nil)
    (pss_cons (ps_set (i := 1) sc_law.nd rfl (Or.inl rfl) (pe_fn f_law_box (hr.mono (by omega)) rfl (pa_cons (pv 0) (pa_cons pe_int pa_nil))))
    (pss_cons (ps_for PassesOwn.never rfl  (pi_range1 rfl T.b_range (pa_cons pe_int pa_nil)) (pg_name (i := 9) sc_law.nd rfl (Or.inl rfl)) (pss_cons (ps_set (i := 10) sc_law.nd rfl (Or.inl rfl) (pe_fn f_law_case (hr.mono (by omega)) rfl (pa_cons (pv 1) (pa_cons (pv 3) (pa_cons (pv 5) pa_nil)))))
    (pss_cons (ps_set (i := 11) sc_law.nd rfl (Or.inl rfl) (pe_fn f_law_due (hr.mono (by omega)) rfl (pa_cons (pe_ix ix_list (pv 10) pe_int (fun _ _ => rfl)) (pa_cons (pe_ix ix_list (pv 10) pe_int (fun _ _ => rfl)) (pa_cons (pe_ix ix_list (pv 10) pe_int (fun _ _ => rfl)) pa_nil)))))
    (pss_cons (ps_set (i := 12) sc_law.nd rfl (Or.inl rfl) (pe_fn f_law_told (hr.mono (by omega)) rfl (pa_cons (pe_ix ix_list (pv 10) pe_int (fun _ _ => rfl)) (pa_cons (pe_fn f_law_clips (hr.mono (by omega)) rfl (pa_cons (pe_ix ix_list (pv 10) pe_int (fun _ _ => rfl)) (pa_cons (pe_ix ix_list (pv 10) pe_int (fun _ _ => rfl)) pa_nil))) pa_nil))))
    (pss_cons (ps_if (pt_cmpR (op_eqD hr.units) (pv 11) (pe_lst (pa_cons pe_str pa_nil)) (nomark _)) (pss_one (ps_if (PW.pt (pw_or (pt_not (pt_val (pe_fn f_law_same (hr.mono (by omega)) rfl (pa_cons (pe_ix ix_list (pv 12) pe_int (fun _ _ => rfl)) (pa_cons (pv 11) pa_nil))))) (pw_or1 (pt_not (pt_val (pe_fn f_law_ring_due (hr.mono (by omega)) rfl (pa_cons (pe_ix ix_list (pv 12) pe_int (fun _ _ => rfl)) (pa_cons (pv 3) (pa_cons (pe_ix ix_list (pv 10) pe_int (fun _ _ => rfl)) (pa_cons (pv 7) pa_nil)))))))))) (pss_one (ps_ret pe_bl)) pss_nil)) (pss_one (ps_if (pt_not (pt_val (pe_fn f_law_same (hr.mono (by omega)) rfl (pa_cons (pe_ix ix_list (pv 12) pe_int (fun _ _ => rfl)) (pa_cons (pe_op op_cat (pv 11) (pe_lst (pa_cons pe_bl (pa_cons pe_bl (pa_cons pe_bl (pa_cons pe_bl pa_nil)))))) pa_nil))))) (pss_one (ps_ret pe_bl)) pss_nil)))
    (pss_one (ps_if (pt_not (pt_val (pe_fn f_law_ring_due (hr.mono (by omega)) rfl (pa_cons (pe_ix ix_list (pv 8) pe_int (fun _ _ => rfl)) (pa_cons (pv 3) (pa_cons (pe_slice sl_list (pv 5) po_none (po_some (pv 4))) (pa_cons (pv 7) pa_nil))))))) (pss_one (ps_ret pe_bl)) pss_nil)))))))
    (pss_one (ps_ret pe_bl))))))))))))))), ?_⟩
    refine Bar.rStart (σ := [some (.ref a), none, none, none, none, none, none, none, none, none, none, none, none]) rfl ?_
    walk_at "rd"
    refine ⟨C_Track, mc, _, _, rfl, cr, cv, ?_⟩
    walk_at "rd"
    refine ⟨_, _, rfl, .inl ⟨rfl, trivial⟩, ?_⟩
    walk_at "rd"
    refine ⟨a, vs, 0, rfl, ha, fun b H1 c1 sa S1 hb hb1 => ?_⟩
    walk_at "rd"
    intro u hu
    walk_at "rd"
    have B1 : BU b u sa (upd H1 u (.lst [])) (upd H1 u (.lst [])) [] := BU.start (Bar.lkNew hu hb1) upd_same
    have SH : ∀ {H' : Hp}, Kp2 b u (upd H1 u (.lst [])) H' → Same H H' := fun K a o e => K a o (ne_of_none e hb) (ne_of_none (S1 _ _ e) hu) (Bar.lkNew hu (S1 _ _ e))
    generalize (upd H1 u (.lst [])) = H2 at B1 SH ⊢
    clear hb1 hu hb S1
    obtain ⟨c2, n2, hb2⟩ := B1.bx
    refine ⟨b, u, c2, sa, n2, [], rfl, hb2, B1.hu, by decide, fun z H3 nz _ K3 ⟨c3, n3, hb3⟩ hu3 => ?_⟩
    have B3 := B1.name K3 hb3 hu3
    walk_at "rd"
    refine ⟨b, c3, sa, n3, 3, rfl, hb3, by decide, by decide, fun r H4 l4 u4 k4 => ?_⟩
    have B4 := B3.draw k4
    obtain ⟨m, em⟩ : ∃ k : Nat, 1 + r = k := ⟨(1 + r).toNat, by omega⟩
    have m1 : 1 ≤ m := by omega
    have m3 : m ≤ 3 := by omega
    obtain ⟨c4, n4, hb4⟩ := B4.bx
    walk_at "rd"
    rw [em]
    refine ⟨b, u, c4, sa, n4, _, rfl, hb4, B4.hu, (by show 1 ≤ 40; decide), fun L ts ws H5 B5 hL nLb nLu hL5 hts lw okw nd => ?_⟩
    have SH5 : Same H H5 := SH fun a o n1 n2 e => B5.k a o n1 n2 (B4.k a o n1 n2 e)
    clear B5 B4 B3 B1 SH hb2 hb3 hu3 K3 k4 hb4 hL nLb nLu em
    have lt := hts.1
    obtain ⟨t0, w0, ht0, hw0, e0⟩ := hts.at (i := 0) (by omega)
    obtain ⟨t3, w3, ht3, hw3, e3⟩ := hts.at (i := 3) (by omega)
    obtain ⟨t4, w4, ht4, hw4, e4⟩ := hts.at (i := 4) (by omega)
    have ok0 := (okw w0 (List.mem_of_getElem? hw0)).1.nm
    have at0 : (ts.map V.ref)[0]? = some (.ref t0) := by rw [List.getElem?_map, ht0]; rfl
    have at3 : (ts.map V.ref)[3]? = some (.ref t3) := by rw [List.getElem?_map, ht3]; rfl
    have at4 : (ts.map V.ref)[4]? = some (.ref t4) := by rw [List.getElem?_map, ht4]; rfl
    have l12 := (name_len ok0).2
    walk_at "rd"
    refine Bar.rIxL_ (SqL.of hL5) (atI_nat (j := 0) at0) ?_
    walk_at "rd"
    refine Bar.rIxT_ (SqT.of e0) (atI_nat (j := 0) rfl) ?_
    walk_at "rd"
    refine rCatS_ (Nat.le_trans (show _ ≤ 12 + 1 from Nat.add_le_add l12 (Nat.le_refl _)) (by decide)) ?_
    walk_at "rd"
    refine ⟨fun σ H' => H' = H5 ∧ ∃ al : Str, σ = [some (.ref a), some (.ref b), some (.ref u), some (.str z), some (.int (m : Int)), some (.ref L), some (.str al), none, none, none, none, none, none], ?_, ?_⟩
    · have ll : (w0.z ++ ("0" : Str)).length ≤ sizeLine := by
        have e : (w0.z ++ ("0" : Str)).length = w0.z.length + 1 := by
          rw [len_cps, cat_cps, List.length_append]
          rfl
        rw [e]
        exact Nat.le_trans (show _ ≤ 13 by omega) (by decide)
      generalize w0.z ++ ("0" : Str) = al at ll ⊢
      walk_at "rd"
      refine Bar.rLenStr_ ll ?_
      walk_at "rd"
      refine ite2 (fun h => ?_) (fun h => ?_)
      · walk_at "rd"
        refine rSlS_ ll ?_
        walk_at "rd"
        exact ⟨rfl, _, rfl⟩
      · walk_at "rd"
        exact ⟨rfl, _, rfl⟩
    rintro σ H5' ⟨rfl, al, rfl⟩
    walk_at "rd"
    refine Bar.rIxL_ (SqL.of hL5) (atI_nat (j := 3) at3) ?_
    walk_at "rd"
    refine Bar.rIxT_ (SqT.of e3) (atI_nat (j := 0) rfl) ?_
    walk_at "rd"
    refine Bar.rIxL_ (SqL.of hL5) (atI_nat (j := 4) at4) ?_
    walk_at "rd"
    refine Bar.rIxT_ (SqT.of e4) (atI_nat (j := 0) rfl) ?_
    walk_at "rd"
    intro O hO
    have S6 : Same H5' (upd H5' O (.lst [.str z, .str w3.z, .str w4.z, .str al])) := fun _ _ e => Bar.lkNew hO e
    have hO6 : (upd H5' O (.lst [.str z, .str w3.z, .str w4.z, .str al])) O = some (.lst ([z, w3.z, w4.z, al].map V.str)) := upd_same
    generalize (upd H5' O (.lst [.str z, .str w3.z, .str w4.z, .str al])) = H6 at S6 hO6 ⊢
    have hL6 := S6 _ _ hL5
    have ht6 := hts.to fun _ _ e => RwAt.same S6 e
    have SH6 : Same H H6 := fun _ _ e => S6 _ _ (SH5 _ _ e)
    clear SH5 S6 hO hL5 hts e0 e3 e4 ht0 ht3 ht4 at0 at3 at4 hw0 hw3 hw4 ok0 l12
    have cut : cutV (ts.map V.ref) none (some (m : Int)) = (ts.take m).map V.ref := by
      rw [cut_toV (by omega), Int.toNat_natCast, List.map_take]
    have okc : ∀ c ∈ (ws.take m).map Rw.dc, DOk c := rows_ok fun w hw => (okw w (List.mem_of_mem_take hw)).1
    have rok := first_ok okw nd lw m1 m3
    have lm : (ws.take m).length ≤ 3 := by rw [List.length_take]; omega
    walk_at "rd"
    refine Bar.rSlL_ (SqL.of hL6) fun p1 hp1 => ?_
    rw [cut]
    walk_at "rd"
    intro p2 hp2
    have S8 : Same H6 (upd (upd H6 p1 (.lst ((ts.take m).map V.ref))) p2 (.lst [])) := fun _ _ e => Bar.lkNew hp2 (Bar.lkNew hp1 e)
    walk_at "rd"
    refine ⟨p1, p2, ts.take m, ws.take m, [], rfl, Bar.lkNew hp2 upd_same, upd_same, (ht6.take m).to fun _ _ e => RwAt.same S8 e, by omega, fun w hw => (okw w (List.mem_of_mem_take hw)).1, .inl rfl, fun D qs H9 S9 hD cp => ?_⟩
    walk_at "rd"
    refine ⟨D, z, qs, _, rfl, hD, cp, by rw [List.length_map]; omega, okc, txName nz, fun R H10 S10 tl => ?_⟩
    obtain ⟨T, tr, hR, h⟩ := tl
    rcases h with ⟨_, hT, x, rfl, tk⟩ | ⟨e, ee, _⟩
    · have S610 : Same H6 H10 := fun _ _ e => S10 _ _ (S9 _ _ (S8 _ _ e))
      have ST : St25 K CC C_Track H10 L O R x z ts ws [z, w3.z, w4.z, al] m := ⟨S610 _ _ hL6, ht6.to fun _ _ e => RwAt.same S610 e, S610 _ _ hO6, ⟨T, hR⟩, tk⟩
      have SH10 : Same H H10 := fun _ _ e => S610 _ _ (SH6 _ _ e)
      clear S610 S8 S9 S10 hD cp hp1 hp2 hL6 ht6 hO6 SH6 tk
      have hL10 := ST.l
      walk_at "rd"
      intro q1 hq1
      have ST1 := ST.same (H' := upd H10 q1 (.lst [.str "let"])) fun _ _ e => Bar.lkNew hq1 e
      walk_at "rd"
      refine ⟨_, _, rfl, sameFl (Bar.lkNew hq1 hT) upd_same (by show 1 ≤ 1000; decide) (fun x hx => by rw [show x = .str "let" from List.mem_singleton.mp hx]; trivial), ?_⟩
      have SH11 : Same H (upd H10 q1 (.lst [.str "let"])) := fun _ _ e => Bar.lkNew hq1 (SH10 _ _ e)
      clear hT ST hR hL10 SH10
      generalize (upd H10 q1 (.lst [.str "let"])) = H11 at ST1 SH11 ⊢
      clear hq1
      have ring : ∀ {H' : Hp} {Q' : VK}, St25 K CC C_Track H' L O R x z ts ws [z, w3.z, w4.z, al] m → (∀ H'', Same H' H'' → Q' (.bl true) H'') → ∀ p, H' p = none → spRingDue K CC C_Track [.ref x, .str z, .ref p, .ref O] (upd H' p (.lst ((ts.take m).map V.ref))) Q' E0 := fun {H' Q'} st kk p hp => by
        have S : Same H' (upd H' p (.lst ((ts.take m).map V.ref))) := fun _ _ e => Bar.lkNew hp e
        exact ⟨x, p, O, z, ts.take m, ws.take m, _, rfl, st.t.same S, rok, upd_same, (st.w.take m).to fun _ _ e => RwAt.same S e, S _ _ st.o, (by show 4 ≤ 10; decide), fun H'' S2 => kk H'' fun _ _ e => S2 _ _ (S _ _ e)⟩
      obtain ⟨T1, hR11⟩ := ST1.r
      have hL11 := ST1.l
      walk_at "rd"
      refine Bar.rSlL_ (SqL.of hL11) fun p3 hp3 => ?_
      rw [cut]
      walk_at "rd"
      refine ring ST1 (fun H12 S12 => ?_) p3 hp3
      have ST2 := ST1.same S12
      have ha12 := Bar.sqSame (fun _ _ e => S12 _ _ (SH11 _ _ e)) ha
      clear ST1 hR11 hL11 SH11 hp3 S12
      walk_at "rd"
      refine ⟨a, vs, 1, rfl, ha12, fun b2 H13 c13 s2 S13 hb2 hb13 => ?_⟩
      have nL : L ≠ b2 := ne_of_none ST2.l hb2
      have nO : O ≠ b2 := ne_of_none ST2.o hb2
      have nR : R ≠ b2 := by
        obtain ⟨_, r⟩ := ST2.r
        exact ne_of_none r hb2
      have ST3 := ST2.same S13
      clear ST2 S13 hb2 ha12
      walk_at "rd"
      refine Bar.forR 3 rfl (fun i σ H' => KpB b2 s2 H13 H' ∧ ∃ x9 x10 x11 x12, σ = [some (.ref a), some (.ref b2), some (.ref u), some (.str z), some (.int (m : Int)), some (.ref L), some (.str al), some (.ref O), some (.ref R), x9, x10, x11, x12]) (by decide) ⟨⟨Kp.refl, _, _, hb13⟩, _, _, _, _, rfl⟩ ?_ ?_
      · rintro i σ H14 hi ⟨⟨K14, c14, n14, hb14⟩, x9, x10, x11, x12, rfl⟩
        have ST4 := ST3.kp K14 hb13 nL nO nR
        walk_at "rd"
        refine ⟨b2, L, c14, s2, n14, z, ts, ws, rfl, hb14, nz, ST4.l, ST4.w, lw, fun w hw => (okw w hw).1, fun R2 M2 P2 y g ts2 ws2 pr H15 k15 oy ny yz hR2 hM2 hP2 ht2 l52 okw2 pk => ?_⟩
        have K015 := K14.trans k15.1
        obtain ⟨_, c15, n15, hb15⟩ := k15
        have ST5 := ST3.kp K015 hb13 nL nO nR
        clear ST4 K14 hb14
        walk_at "rd"
        refine ⟨M2, y, g, ts2, ws2, rfl, ny, hM2, ht2, l52, fun D H16 S16 hD => ?_⟩
        have hR16 := S16 _ _ hR2
        walk_at "rd"
        refine ⟨M2, P2, ts2, ws2, pr, rfl, S16 _ _ hM2, S16 _ _ hP2, ht2.to fun _ _ e => RwAt.same S16 e, l52, okw2, pk, fun D2 qs2 H17 S17 hD2 cp2 => ?_⟩
        walk_at "rd"
        refine ⟨D2, y, qs2, _, rfl, hD2, cp2, by rw [List.length_map]; exact l52, rows_ok okw2, oy.ok, fun R3 H18 S18 tl => ?_⟩
        have S1518 : Same H15 H18 := fun _ _ e => S18 _ _ (S17 _ _ (S16 _ _ e))
        have hD18 := S18 _ _ (S17 _ _ hD)
        have hR18 := S1518 _ _ hR2
        have hM18 := S1518 _ _ hM2
        have ht18 := ht2.to fun _ _ e => RwAt.same S1518 e
        have ST6 := ST5.same S1518
        have K018 := K015.trans (Kp.of_same S1518)
        have hb18 := S1518 _ _ hb15
        clear ST5 K015 hb15 S16 S17 S18 hR16 hR2 hM2 hP2 ht2 hD2 cp2 hD S1518
        have txt := due_txt (y := y) (cs := ws2.map Rw.dc) (txu_ok oy.u) fun c hc => by
          obtain ⟨w, hw, rfl⟩ := List.mem_map.mp hc
          exact txu_ok (TxU.name (okw2 w hw).nm).u
        have rk2 := fun et => track_some (z := y) (rows_ok okw2) et
        walk_at "rd"
        intro q1 hq1
        have ST7 := ST6.same (H' := upd H18 q1 (.lst [.str "let"])) fun _ _ e => Bar.lkNew hq1 e
        have hD19 := Bar.lkNew (o := .lst [.str "let"]) hq1 hD18
        have hM19 := Bar.lkNew (o := .lst [.str "let"]) hq1 hM18
        have hR19 := Bar.lkNew (o := .lst [.str "let"]) hq1 hR18
        have ht19 := ht18.to fun _ _ e => RwAt.same (fun _ _ e => Bar.lkNew (o := .lst [.str "let"]) hq1 e) e
        have K019 : Kp b2 H13 (upd H18 q1 (.lst [.str "let"])) := K018.trans (Kp.new hq1)
        have hb19 := Bar.lkNew (o := .lst [.str "let"]) hq1 hb18
        obtain ⟨T2, tr2, hR3, h⟩ := tl
        have hR319 := Bar.lkNew (o := .lst [.str "let"]) hq1 hR3
        walk_at "rd"
        refine due_eq hD19 upd_same txt ?_
        have hE : (upd H18 q1 (.lst [.str "let"])) q1 = some (.lst [.str "let"]) := upd_same
        have fin : ∀ {H' : Hp} {y10 y11 y12 : Option V}, Same (upd H18 q1 (.lst [.str "let"])) H' → KpB b2 s2 H13 H' ∧ ∃ x9 x10 x11 x12, [some (V.ref a), some (.ref b2), some (.ref u), some (.str z), some (.int (m : Int)), some (.ref L), some (.str al), some (.ref O), some (.ref R), some (.int (i : Int)), y10, y11, y12] = [some (.ref a), some (.ref b2), some (.ref u), some (.str z), some (.int (m : Int)), some (.ref L), some (.str al), some (.ref O), some (.ref R), x9, x10, x11, x12] := fun S => ⟨⟨K019.trans (Kp.of_same S), _, _, S _ _ hb19⟩, _, _, _, _, rfl⟩
        rcases h with ⟨et, hT, x', rfl, tk⟩ | ⟨e, et, hT, rfl⟩
        · have hT19 := Bar.lkNew (o := .lst [.str "let"]) hq1 hT
          have tk19 := tk.same (H' := upd H18 q1 (.lst [.str "let"])) fun _ _ e => Bar.lkNew hq1 e
          obtain ⟨ny2, rk⟩ := rk2 et
          have yz' : y = z := yz (by rw [← ny]; exact ny2)
          subst yz'
          rw [et] at hD19 ⊢
          clear hq1
          generalize (upd H18 q1 (.lst [.str "let"])) = H19 at *
          walk_at "rd"
          refine Bar.iteBT rfl ?_
          walk_at "rd"
          refine ⟨_, _, rfl, sameFl hT19 hD19 (by show 1 ≤ 1000; decide) (dueV_flat none), ?_⟩
          walk_at "rd"
          refine ⟨x', M2, O, y, ts2, ws2, _, rfl, tk19, rk, hM19, ht19, ST7.o, (by show 4 ≤ 10; decide), fun H20 S20 => ?_⟩
          have ST8 := ST7.same S20
          obtain ⟨T8, hR8⟩ := ST8.r
          have hL8 := ST8.l
          walk_at "rd"
          refine Bar.rSlL_ (SqL.of hL8) fun p5 hp5 => ?_
          rw [cut]
          walk_at "rd"
          refine ring ST8 (fun H22 S22 => ?_) p5 hp5
          walk_at "rd"
          exact fin fun _ _ e => S22 _ _ (S20 _ _ e)
        · have hT19 := Bar.lkNew (o := .lst [.str "let"]) hq1 hT
          rw [et] at hD19 ⊢
          clear hq1
          generalize (upd H18 q1 (.lst [.str "let"])) = H19 at *
          have le := dueV_len (some e)
          have fe := dueV_flat (some e)
          have fe : ∀ x ∈ e.told, flat x := fe
          have hD19 : H19 D = some (.lst e.told) := hD19
          have le : e.told.length ≤ 3 := le
          walk_at "rd"
          refine Bar.iteBF rfl ?_
          walk_at "rd"
          intro q2 hq2
          walk_at "rd"
          refine Bar.rCat_ (Bar.lkNew hq2 hD19) upd_same (szLe (by show _ + 4 ≤ 1000; omega)) fun q3 hq3 => ?_
          have S20 : Same H19 (upd (upd H19 q2 (.lst [.bl true, .bl true, .bl false, .bl false])) q3 (.lst (e.told ++ [.bl true, .bl true, .bl false, .bl false]))) := fun _ _ e => Bar.lkNew hq3 (Bar.lkNew hq2 e)
          walk_at "rd"
          refine ⟨_, _, rfl, sameFl (S20 _ _ hT19) upd_same (by rw [List.length_append]; show _ + 4 ≤ 1000; omega) (fun x hx => ?_), ?_⟩
          · rcases List.mem_append.mp hx with hx | hx
            · exact fe x hx
            · simp only [List.mem_cons, List.not_mem_nil, or_false] at hx
              rcases hx with rfl | rfl | rfl | rfl <;> trivial
          have ST8 := ST7.same S20
          clear hq2 hq3
          generalize (upd (upd H19 q2 (.lst [.bl true, .bl true, .bl false, .bl false])) q3 (.lst (e.told ++ [.bl true, .bl true, .bl false, .bl false]))) = H20 at S20 ST8 ⊢
          obtain ⟨T8, hR8⟩ := ST8.r
          have hL8 := ST8.l
          walk_at "rd"
          refine Bar.rSlL_ (SqL.of hL8) fun p5 hp5 => ?_
          rw [cut]
          walk_at "rd"
          refine ring ST8 (fun H22 S22 => ?_) p5 hp5
          walk_at "rd"
          exact fin fun _ _ e => S22 _ _ (S20 _ _ e)
      · rintro σ H14 ⟨_, x9, x10, x11, x12, rfl⟩
        walk_at "rd"
        exact k _
    · rw [ok_track0 nz rok] at ee
      cases ee
end

end Lw
namespace Lw
open PySem L2 Bar
/-! ### the makings of a clip -/
section
variable {K : PySem.W.Frag} {f cda cc et : Addr} {fd : FuncData}
theorem kb_C (F : FunC K "__init__" "Clip.__init__" s_Clip___init__ [("rounds", .int 1), ("guards", .ref et)] f cda cc fd) : ∃ g, KBn K fd P_Clip___init__ 2 ["grid", "length", "rounds"] g (gC et) := by
  obtain ⟨mv, h⟩ := F.kbinds (ps := P_Clip___init__) 2 ["grid", "length", "rounds"] [("guards", .ref et)] (fun us mv ws => us ++ ws ++ mv) (by simp) (fun q h => by rw [List.mem_singleton.mp h]; exact List.mem_cons_of_mem _ (List.mem_cons_self ..)) (fun r1 r2 r3 => (r1.append r3).append r2) fun D doc pm an ct us mv ws l1 l2 l3 => by
    match us, mv, ws, l1, l2, l3 with
    | [a, b], [c], [e, g, i], _, _, _ => exact ⟨_, _, _, _, _, _, rfl, rfl, rfl⟩
  exact ⟨_, h⟩
end

end Lw


namespace Lw
open PySem L2 Bar

abbrev lawLevel : Nat := 9
theorem all_mk {l : PySem.W.OpenLaw} {w : World} {K : PySem.W.Frag} {h : Heap} {mg : Str → Option Value} {fa f_law f_law_box f_law_draw C_Grid f_Grid___init__ dT4 f_law_int f_law_same f_law_name f_law_bad_name f_law_rows f_law_case f_law_clips f_law_track_of f_law_told f_law_due f_law_ring_due C_BarclipsError C_BadName f_BadName___init__ C_BadNumber f_BadNumber___init__ C_Unknown f_Unknown___init__ C_EmptyClip f_EmptyClip___init__ C_NoClips f_NoClips___init__ C_TooMany f_TooMany___init__ C_Twice f_Twice___init__ f_is_name f_check_guards f_first_twice f_guarded_places f_check_ring C_Clip C_Sound C_Track f_Sound___init__ f_Track___init__ f_Track_clip_of f_Track___iter__ f_Track___contains__ f_Clip___init__ cda_Clip___init__ cc_Clip___init__ kd43 et_Clip___init__ f_Clip_span p_Clip_span : Addr} (X : K.In h) (G : h.Ns mainGlobals mg) (hfa : mg "law" = some (.ref fa))
    {od1 an1 : Option Addr} {sl1 : Array (Option Value)} {oc1 kV1 dc1 pm1 cd1 ct1 : Value} {od2 an2 : Option Addr} {sl2 : Array (Option Value)} {oc2 kV2 dc2 pm2 cd2 ct2 : Value} {od3 an3 : Option Addr} {sl3 : Array (Option Value)} {oc3 kV3 dc3 pm3 cd3 ct3 : Value} {od4 an4 : Option Addr} {sl4 : Array (Option Value)} {oc4 kV4 dc4 pm4 cd4 ct4 : Value} {td4 : Option Addr} {ts4 : Array (Option Value)} {tc4 : Value} {tn4 : Nat} {tk4_0 : Tok} {od5 an5 : Option Addr} {sl5 : Array (Option Value)} {oc5 kV5 dc5 pm5 cd5 ct5 : Value} {od6 an6 : Option Addr} {sl6 : Array (Option Value)} {oc6 kV6 dc6 pm6 cd6 ct6 : Value} {od7 an7 : Option Addr} {sl7 : Array (Option Value)} {oc7 kV7 dc7 pm7 cd7 ct7 : Value} {od8 an8 : Option Addr} {sl8 : Array (Option Value)} {oc8 kV8 dc8 pm8 cd8 ct8 : Value} {od9 an9 : Option Addr} {sl9 : Array (Option Value)} {oc9 kV9 dc9 pm9 cd9 ct9 : Value} {od10 an10 : Option Addr} {sl10 : Array (Option Value)} {oc10 kV10 dc10 pm10 cd10 ct10 : Value} {od11 an11 : Option Addr} {sl11 : Array (Option Value)} {oc11 kV11 dc11 pm11 cd11 ct11 : Value} {od12 an12 : Option Addr} {sl12 : Array (Option Value)} {oc12 kV12 dc12 pm12 cd12 ct12 : Value} {od13 an13 : Option Addr} {sl13 : Array (Option Value)} {oc13 kV13 dc13 pm13 cd13 ct13 : Value} {od14 an14 : Option Addr} {sl14 : Array (Option Value)} {oc14 kV14 dc14 pm14 cd14 ct14 : Value} {od15 an15 : Option Addr} {sl15 : Array (Option Value)} {oc15 kV15 dc15 pm15 cd15 ct15 : Value} {xn16 xq16 : Str} {xN16 : Addr} {xb16 : List Value} {xs16 : List Str} {xu16 : List Value} {xa16 : Bool} {xc16 : Option Bool} {xd16 : Option Addr} {xk16a xk16b xk16c xk16d xk16e : Option Value} {od17 an17 : Option Addr} {sl17 : Array (Option Value)} {oc17 kV17 dc17 pm17 cd17 ct17 : Value} {xn18 xq18 : Str} {xN18 : Addr} {xb18 : List Value} {xs18 : List Str} {xu18 : List Value} {xa18 : Bool} {xc18 : Option Bool} {xd18 : Option Addr} {xk18a xk18b xk18c xk18d xk18e : Option Value} {od19 an19 : Option Addr} {sl19 : Array (Option Value)} {oc19 kV19 dc19 pm19 cd19 ct19 : Value} {xn20 xq20 : Str} {xN20 : Addr} {xb20 : List Value} {xs20 : List Str} {xu20 : List Value} {xa20 : Bool} {xc20 : Option Bool} {xd20 : Option Addr} {xk20a xk20b xk20c xk20d xk20e : Option Value} {od21 an21 : Option Addr} {sl21 : Array (Option Value)} {oc21 kV21 dc21 pm21 cd21 ct21 : Value} {xn22 xq22 : Str} {xN22 : Addr} {xb22 : List Value} {xs22 : List Str} {xu22 : List Value} {xa22 : Bool} {xc22 : Option Bool} {xd22 : Option Addr} {xk22a xk22b xk22c xk22d xk22e : Option Value} {od23 an23 : Option Addr} {sl23 : Array (Option Value)} {oc23 kV23 dc23 pm23 cd23 ct23 : Value} {xn24 xq24 : Str} {xN24 : Addr} {xb24 : List Value} {xs24 : List Str} {xu24 : List Value} {xa24 : Bool} {xc24 : Option Bool} {xd24 : Option Addr} {xk24a xk24b xk24c xk24d xk24e : Option Value} {od25 an25 : Option Addr} {sl25 : Array (Option Value)} {oc25 kV25 dc25 pm25 cd25 ct25 : Value} {xn26 xq26 : Str} {xN26 : Addr} {xb26 : List Value} {xs26 : List Str} {xu26 : List Value} {xa26 : Bool} {xc26 : Option Bool} {xd26 : Option Addr} {xk26a xk26b xk26c xk26d xk26e : Option Value} {od27 an27 : Option Addr} {sl27 : Array (Option Value)} {oc27 kV27 dc27 pm27 cd27 ct27 : Value} {xn28 xq28 : Str} {xN28 : Addr} {xb28 : List Value} {xs28 : List Str} {xu28 : List Value} {xa28 : Bool} {xc28 : Option Bool} {xd28 : Option Addr} {xk28a xk28b xk28c xk28d xk28e : Option Value} {od29 an29 : Option Addr} {sl29 : Array (Option Value)} {oc29 kV29 dc29 pm29 cd29 ct29 : Value} {od30 an30 : Option Addr} {sl30 : Array (Option Value)} {oc30 kV30 dc30 pm30 cd30 ct30 : Value} {od31 an31 : Option Addr} {sl31 : Array (Option Value)} {oc31 kV31 dc31 pm31 cd31 ct31 : Value} {od32 an32 : Option Addr} {sl32 : Array (Option Value)} {oc32 kV32 dc32 pm32 cd32 ct32 : Value} {od33 an33 : Option Addr} {sl33 : Array (Option Value)} {oc33 kV33 dc33 pm33 cd33 ct33 : Value} {od34 an34 : Option Addr} {sl34 : Array (Option Value)} {oc34 kV34 dc34 pm34 cd34 ct34 : Value} {tks35 : Tok} {tks36 : Tok} {tki37 : Tok} {od38 an38 : Option Addr} {sl38 : Array (Option Value)} {oc38 kV38 dc38 pm38 cd38 ct38 : Value} {od39 an39 : Option Addr} {sl39 : Array (Option Value)} {oc39 kV39 dc39 pm39 cd39 ct39 : Value} {od40 an40 : Option Addr} {sl40 : Array (Option Value)} {oc40 kV40 dc40 pm40 cd40 ct40 : Value} {od41 an41 : Option Addr} {sl41 : Array (Option Value)} {oc41 kV41 dc41 pm41 cd41 ct41 : Value} {od42 an42 : Option Addr} {sl42 : Array (Option Value)} {oc42 kV42 dc42 pm42 cd42 ct42 : Value} {od43 an43 oe43 of43 : Option Addr} {sl43 sm43 sn43 : Array (Option Value)} {oc43  dc43 pm43 ct43 cl43 cm43 : Value} {vs43 : Array Value} {fl43 : Str} {tf43 : Tok} {cdd43 : ClassData} {tk43 : Tok} {td43 : Option Addr} {ts43 : Array (Option Value)} {tn43 : Nat} {tkv45 : Tok} {tkv46 : Tok} {od47 an47 : Option Addr} {sl47 : Array (Option Value)} {oc47 kV47 dc47 pm47 cd47 ct47 : Value} {rs47 : List Value}
    (a1 : PySem.W.nsIn K mainGlobals "law" = some (some (.ref f_law)))
    (l1 : K.lookup f_law = some ⟨oc1, od1, .func (PySem.W.fnOf "law" "law" (defArgs s_law) (defBody s_law) (defScope s_law) .none kV1 dc1 pm1 an1 cd1 ct1), sl1⟩)
    (c1 : PySem.W.codeIn K cd1 "law" = true)
    (k1 : PySem.W.keepIn K (.ref f_law) = true)
    (a2 : PySem.W.nsIn K mainGlobals "_law_box" = some (some (.ref f_law_box)))
    (l2 : K.lookup f_law_box = some ⟨oc2, od2, .func (PySem.W.fnOf "_law_box" "_law_box" (defArgs s_law_box) (defBody s_law_box) (defScope s_law_box) .none kV2 dc2 pm2 an2 cd2 ct2), sl2⟩)
    (c2 : PySem.W.codeIn K cd2 "_law_box" = true)
    (k2 : PySem.W.keepIn K (.ref f_law_box) = true)
    (a3 : PySem.W.nsIn K mainGlobals "_law_draw" = some (some (.ref f_law_draw)))
    (l3 : K.lookup f_law_draw = some ⟨oc3, od3, .func (PySem.W.fnOf "_law_draw" "_law_draw" (defArgs s_law_draw) (defBody s_law_draw) (defScope s_law_draw) .none kV3 dc3 pm3 an3 cd3 ct3), sl3⟩)
    (c3 : PySem.W.codeIn K cd3 "_law_draw" = true)
    (k3 : PySem.W.keepIn K (.ref f_law_draw) = true)
    (g_Grid : PySem.W.nsIn K mainGlobals "Grid" = some (some (.ref C_Grid)))
    (pg_Grid : PySem.W.plainGet K C_Grid Str.empty = true)
    (hd_Grid : PySem.W.hasDictIn K C_Grid = true)
    (po_Grid : PySem.W.plainOver K C_Grid = true)
    (sa_Grid : PySem.W.findIn K (.ref C_Grid) "__setattr__" = some (some (.builtin "object.__setattr__")))
    (mk_Grid : PySem.W.makesIn K C_Grid = true)
    (kp_Grid : PySem.W.keepIn K (.ref C_Grid) = true)
    (a4 : PySem.W.findIn K (.ref C_Grid) "__init__" = some (some (.ref f_Grid___init__)))
    (i4 : PySem.W.isFn K (.ref f_Grid___init__) = true)
    (l4 : K.lookup f_Grid___init__ = some ⟨oc4, od4, .func (PySem.W.fnOf "__init__" "Grid.__init__" (defArgs s_Grid___init__) (defBody s_Grid___init__) (defScope s_Grid___init__) (.ref dT4) kV4 dc4 pm4 an4 cd4 ct4), sl4⟩)
    (c4 : PySem.W.codeIn K cd4 "Grid.__init__" = true)
    (k4 : PySem.W.keepIn K (.ref f_Grid___init__) = true)
    (t4 : K.lookup dT4 = some ⟨tc4, td4, .seq (#[.int 0 tk4_0] : Array Value) tn4, ts4⟩)
    (no_Grid_step : PySem.W.findIn K (.ref C_Grid) "step" = some none)
    (no_Grid_offset : PySem.W.findIn K (.ref C_Grid) "offset" = some none)
    (z_len : PySem.W.nsIn K mainGlobals "len" = some none)
    (z_int : PySem.W.nsIn K mainGlobals "int" = some none)
    (z_abs : PySem.W.nsIn K mainGlobals "abs" = some none)
    (z_str : PySem.W.nsIn K mainGlobals "str" = some none)
    (z_range : PySem.W.nsIn K mainGlobals "range" = some none)
    (z_isinstance : PySem.W.nsIn K mainGlobals "isinstance" = some none)
    (z_bool : PySem.W.nsIn K mainGlobals "bool" = some none)
    (z_list : PySem.W.nsIn K mainGlobals "list" = some none)
    (z_tuple : PySem.W.nsIn K mainGlobals "tuple" = some none)
    (z_sum : PySem.W.nsIn K mainGlobals "sum" = some none)
    (z_min : PySem.W.nsIn K mainGlobals "min" = some none)
    (z_max : PySem.W.nsIn K mainGlobals "max" = some none)
    (z_any : PySem.W.nsIn K mainGlobals "any" = some none)
    (z_all : PySem.W.nsIn K mainGlobals "all" = some none)
    (z_sorted : PySem.W.nsIn K mainGlobals "sorted" = some none)
    (z_enumerate : PySem.W.nsIn K mainGlobals "enumerate" = some none)
    (z_ValueError : PySem.W.nsIn K mainGlobals "ValueError" = some none)
    (z_super : PySem.W.nsIn K mainGlobals "super" = some none)
    (z_set : PySem.W.nsIn K mainGlobals "set" = some none)
    (z_iter : PySem.W.nsIn K mainGlobals "iter" = some none)
    (a5 : PySem.W.nsIn K mainGlobals "_law_int" = some (some (.ref f_law_int)))
    (l5 : K.lookup f_law_int = some ⟨oc5, od5, .func (PySem.W.fnOf "_law_int" "_law_int" (defArgs s_law_int) (defBody s_law_int) (defScope s_law_int) .none kV5 dc5 pm5 an5 cd5 ct5), sl5⟩)
    (c5 : PySem.W.codeIn K cd5 "_law_int" = true)
    (k5 : PySem.W.keepIn K (.ref f_law_int) = true)
    (a6 : PySem.W.nsIn K mainGlobals "_law_same" = some (some (.ref f_law_same)))
    (l6 : K.lookup f_law_same = some ⟨oc6, od6, .func (PySem.W.fnOf "_law_same" "_law_same" (defArgs s_law_same) (defBody s_law_same) (defScope s_law_same) .none kV6 dc6 pm6 an6 cd6 ct6), sl6⟩)
    (c6 : PySem.W.codeIn K cd6 "_law_same" = true)
    (k6 : PySem.W.keepIn K (.ref f_law_same) = true)
    (a7 : PySem.W.nsIn K mainGlobals "_law_name" = some (some (.ref f_law_name)))
    (l7 : K.lookup f_law_name = some ⟨oc7, od7, .func (PySem.W.fnOf "_law_name" "_law_name" (defArgs s_law_name) (defBody s_law_name) (defScope s_law_name) .none kV7 dc7 pm7 an7 cd7 ct7), sl7⟩)
    (c7 : PySem.W.codeIn K cd7 "_law_name" = true)
    (k7 : PySem.W.keepIn K (.ref f_law_name) = true)
    (a8 : PySem.W.nsIn K mainGlobals "_law_bad_name" = some (some (.ref f_law_bad_name)))
    (l8 : K.lookup f_law_bad_name = some ⟨oc8, od8, .func (PySem.W.fnOf "_law_bad_name" "_law_bad_name" (defArgs s_law_bad_name) (defBody s_law_bad_name) (defScope s_law_bad_name) .none kV8 dc8 pm8 an8 cd8 ct8), sl8⟩)
    (c8 : PySem.W.codeIn K cd8 "_law_bad_name" = true)
    (k8 : PySem.W.keepIn K (.ref f_law_bad_name) = true)
    (a9 : PySem.W.nsIn K mainGlobals "_law_rows" = some (some (.ref f_law_rows)))
    (l9 : K.lookup f_law_rows = some ⟨oc9, od9, .func (PySem.W.fnOf "_law_rows" "_law_rows" (defArgs s_law_rows) (defBody s_law_rows) (defScope s_law_rows) .none kV9 dc9 pm9 an9 cd9 ct9), sl9⟩)
    (c9 : PySem.W.codeIn K cd9 "_law_rows" = true)
    (k9 : PySem.W.keepIn K (.ref f_law_rows) = true)
    (a10 : PySem.W.nsIn K mainGlobals "_law_case" = some (some (.ref f_law_case)))
    (l10 : K.lookup f_law_case = some ⟨oc10, od10, .func (PySem.W.fnOf "_law_case" "_law_case" (defArgs s_law_case) (defBody s_law_case) (defScope s_law_case) .none kV10 dc10 pm10 an10 cd10 ct10), sl10⟩)
    (c10 : PySem.W.codeIn K cd10 "_law_case" = true)
    (k10 : PySem.W.keepIn K (.ref f_law_case) = true)
    (a11 : PySem.W.nsIn K mainGlobals "_law_clips" = some (some (.ref f_law_clips)))
    (l11 : K.lookup f_law_clips = some ⟨oc11, od11, .func (PySem.W.fnOf "_law_clips" "_law_clips" (defArgs s_law_clips) (defBody s_law_clips) (defScope s_law_clips) .none kV11 dc11 pm11 an11 cd11 ct11), sl11⟩)
    (c11 : PySem.W.codeIn K cd11 "_law_clips" = true)
    (k11 : PySem.W.keepIn K (.ref f_law_clips) = true)
    (a12 : PySem.W.nsIn K mainGlobals "_law_track_of" = some (some (.ref f_law_track_of)))
    (l12 : K.lookup f_law_track_of = some ⟨oc12, od12, .func (PySem.W.fnOf "_law_track_of" "_law_track_of" (defArgs s_law_track_of) (defBody s_law_track_of) (defScope s_law_track_of) .none kV12 dc12 pm12 an12 cd12 ct12), sl12⟩)
    (c12 : PySem.W.codeIn K cd12 "_law_track_of" = true)
    (k12 : PySem.W.keepIn K (.ref f_law_track_of) = true)
    (a13 : PySem.W.nsIn K mainGlobals "_law_told" = some (some (.ref f_law_told)))
    (l13 : K.lookup f_law_told = some ⟨oc13, od13, .func (PySem.W.fnOf "_law_told" "_law_told" (defArgs s_law_told) (defBody s_law_told) (defScope s_law_told) .none kV13 dc13 pm13 an13 cd13 ct13), sl13⟩)
    (c13 : PySem.W.codeIn K cd13 "_law_told" = true)
    (k13 : PySem.W.keepIn K (.ref f_law_told) = true)
    (a14 : PySem.W.nsIn K mainGlobals "_law_due" = some (some (.ref f_law_due)))
    (l14 : K.lookup f_law_due = some ⟨oc14, od14, .func (PySem.W.fnOf "_law_due" "_law_due" (defArgs s_law_due) (defBody s_law_due) (defScope s_law_due) .none kV14 dc14 pm14 an14 cd14 ct14), sl14⟩)
    (c14 : PySem.W.codeIn K cd14 "_law_due" = true)
    (k14 : PySem.W.keepIn K (.ref f_law_due) = true)
    (a15 : PySem.W.nsIn K mainGlobals "_law_ring_due" = some (some (.ref f_law_ring_due)))
    (l15 : K.lookup f_law_ring_due = some ⟨oc15, od15, .func (PySem.W.fnOf "_law_ring_due" "_law_ring_due" (defArgs s_law_ring_due) (defBody s_law_ring_due) (defScope s_law_ring_due) .none kV15 dc15 pm15 an15 cd15 ct15), sl15⟩)
    (c15 : PySem.W.codeIn K cd15 "_law_ring_due" = true)
    (k15 : PySem.W.keepIn K (.ref f_law_ring_due) = true)
    (g_BarclipsError : PySem.W.nsIn K mainGlobals "BarclipsError" = some (some (.ref C_BarclipsError)))
    (rd_BarclipsError : PySem.W.readsIn K C_BarclipsError (.type "type") = true)
    (sg_BarclipsError : PySem.W.specialIn K (.ref C_BarclipsError) "__getattribute__" = some (some (.builtin "type.__getattribute__")))
    (vi_BarclipsError : PySem.W.findCls K (.ref C_BarclipsError) (.type "type") "__init__" = some (.val (.builtin "ValueError.__init__")))
    (ic_BarclipsError : PySem.W.isClsIn K C_BarclipsError = true)
    (ty_BarclipsError : PySem.W.typeIn K (.ref C_BarclipsError) = some (.type "type"))
    (e_hn : PySem.W.specialIn K (.builtin "object.__class__") "__get__" = some (some (.builtin "getset_descriptor.__get__")))
    (e_tk : PySem.W.takesIn K (.builtin "object.__class__") = some true)
    (g_BadName : PySem.W.nsIn K mainGlobals "BadName" = some (some (.ref C_BadName)))
    (lk_BadName : K.lookup C_BadName = some (excClassObj xn16 xq16 C_BadName xN16 xb16 [.ref C_BarclipsError, .type "ValueError", .type "Exception", .type "BaseException", .type "object"] true xs16 xu16 xa16 xc16 xd16 xk16a xk16b xk16c xk16d xk16e "ValueError.__new__"))
    (sa_BadName : PySem.W.findIn K (.ref C_BadName) "__setattr__" = some (some (.builtin "object.__setattr__")))
    (xb_BadName : PySem.W.subIn K (.ref C_BadName) (.type "BaseException") = some true)
    (ty_BadName : PySem.W.typeIn K (.ref C_BadName) = some (.type "type"))
    (kp_BadName : PySem.W.keepIn K (.ref C_BadName) = true)
    (ga_BadName : PySem.W.findIn K (.ref C_BadName) "__getattribute__" = some (some (.builtin "BaseException.__getattribute__")))
    (gg_BadName : PySem.W.findIn K (.ref C_BadName) "__getattr__" = some none)
    (hd_BadName : PySem.W.hasDictIn K C_BadName = true)
    (ic_BadName : PySem.W.isClsIn K C_BadName = true)
    (ac_BadName : PySem.W.findIn K (.ref C_BadName) "__class__" = some (some (.builtin "object.__class__")))
    (mo_BadName : PySem.W.mroIn K C_BadName (.type "object") = some true)
    (ss_BadName : PySem.W.subIn K (.ref C_BadName) (.ref C_BadName) = some true)
    (a17 : PySem.W.findIn K (.ref C_BadName) "__init__" = some (some (.ref f_BadName___init__)))
    (t17 : PySem.W.typeIn K (.ref f_BadName___init__) = some (.type "function"))
    (l17 : K.lookup f_BadName___init__ = some ⟨oc17, od17, .func (PySem.W.fnOf "__init__" "BadName.__init__" (defArgs s_BadName___init__) (defBody s_BadName___init__) (defScope s_BadName___init__) .none kV17 dc17 pm17 an17 cd17 ct17), sl17⟩)
    (c17 : PySem.W.codeIn K cd17 "BadName.__init__" = true)
    (k17 : PySem.W.keepIn K (.ref f_BadName___init__) = true)
    (no_BadName_name : PySem.W.findIn K (.ref C_BadName) "name" = some none)
    (g_BadNumber : PySem.W.nsIn K mainGlobals "BadNumber" = some (some (.ref C_BadNumber)))
    (lk_BadNumber : K.lookup C_BadNumber = some (excClassObj xn18 xq18 C_BadNumber xN18 xb18 [.ref C_BarclipsError, .type "ValueError", .type "Exception", .type "BaseException", .type "object"] true xs18 xu18 xa18 xc18 xd18 xk18a xk18b xk18c xk18d xk18e "ValueError.__new__"))
    (sa_BadNumber : PySem.W.findIn K (.ref C_BadNumber) "__setattr__" = some (some (.builtin "object.__setattr__")))
    (xb_BadNumber : PySem.W.subIn K (.ref C_BadNumber) (.type "BaseException") = some true)
    (ty_BadNumber : PySem.W.typeIn K (.ref C_BadNumber) = some (.type "type"))
    (kp_BadNumber : PySem.W.keepIn K (.ref C_BadNumber) = true)
    (ga_BadNumber : PySem.W.findIn K (.ref C_BadNumber) "__getattribute__" = some (some (.builtin "BaseException.__getattribute__")))
    (gg_BadNumber : PySem.W.findIn K (.ref C_BadNumber) "__getattr__" = some none)
    (hd_BadNumber : PySem.W.hasDictIn K C_BadNumber = true)
    (ic_BadNumber : PySem.W.isClsIn K C_BadNumber = true)
    (ac_BadNumber : PySem.W.findIn K (.ref C_BadNumber) "__class__" = some (some (.builtin "object.__class__")))
    (mo_BadNumber : PySem.W.mroIn K C_BadNumber (.type "object") = some true)
    (ss_BadNumber : PySem.W.subIn K (.ref C_BadNumber) (.ref C_BadNumber) = some true)
    (a19 : PySem.W.findIn K (.ref C_BadNumber) "__init__" = some (some (.ref f_BadNumber___init__)))
    (t19 : PySem.W.typeIn K (.ref f_BadNumber___init__) = some (.type "function"))
    (l19 : K.lookup f_BadNumber___init__ = some ⟨oc19, od19, .func (PySem.W.fnOf "__init__" "BadNumber.__init__" (defArgs s_BadNumber___init__) (defBody s_BadNumber___init__) (defScope s_BadNumber___init__) .none kV19 dc19 pm19 an19 cd19 ct19), sl19⟩)
    (c19 : PySem.W.codeIn K cd19 "BadNumber.__init__" = true)
    (k19 : PySem.W.keepIn K (.ref f_BadNumber___init__) = true)
    (no_BadNumber_value : PySem.W.findIn K (.ref C_BadNumber) "value" = some none)
    (g_Unknown : PySem.W.nsIn K mainGlobals "Unknown" = some (some (.ref C_Unknown)))
    (lk_Unknown : K.lookup C_Unknown = some (excClassObj xn20 xq20 C_Unknown xN20 xb20 [.ref C_BarclipsError, .type "ValueError", .type "Exception", .type "BaseException", .type "object"] true xs20 xu20 xa20 xc20 xd20 xk20a xk20b xk20c xk20d xk20e "ValueError.__new__"))
    (sa_Unknown : PySem.W.findIn K (.ref C_Unknown) "__setattr__" = some (some (.builtin "object.__setattr__")))
    (xb_Unknown : PySem.W.subIn K (.ref C_Unknown) (.type "BaseException") = some true)
    (ty_Unknown : PySem.W.typeIn K (.ref C_Unknown) = some (.type "type"))
    (kp_Unknown : PySem.W.keepIn K (.ref C_Unknown) = true)
    (ga_Unknown : PySem.W.findIn K (.ref C_Unknown) "__getattribute__" = some (some (.builtin "BaseException.__getattribute__")))
    (gg_Unknown : PySem.W.findIn K (.ref C_Unknown) "__getattr__" = some none)
    (hd_Unknown : PySem.W.hasDictIn K C_Unknown = true)
    (ic_Unknown : PySem.W.isClsIn K C_Unknown = true)
    (ac_Unknown : PySem.W.findIn K (.ref C_Unknown) "__class__" = some (some (.builtin "object.__class__")))
    (mo_Unknown : PySem.W.mroIn K C_Unknown (.type "object") = some true)
    (ss_Unknown : PySem.W.subIn K (.ref C_Unknown) (.ref C_Unknown) = some true)
    (a21 : PySem.W.findIn K (.ref C_Unknown) "__init__" = some (some (.ref f_Unknown___init__)))
    (t21 : PySem.W.typeIn K (.ref f_Unknown___init__) = some (.type "function"))
    (l21 : K.lookup f_Unknown___init__ = some ⟨oc21, od21, .func (PySem.W.fnOf "__init__" "Unknown.__init__" (defArgs s_Unknown___init__) (defBody s_Unknown___init__) (defScope s_Unknown___init__) .none kV21 dc21 pm21 an21 cd21 ct21), sl21⟩)
    (c21 : PySem.W.codeIn K cd21 "Unknown.__init__" = true)
    (k21 : PySem.W.keepIn K (.ref f_Unknown___init__) = true)
    (no_Unknown_name : PySem.W.findIn K (.ref C_Unknown) "name" = some none)
    (g_EmptyClip : PySem.W.nsIn K mainGlobals "EmptyClip" = some (some (.ref C_EmptyClip)))
    (lk_EmptyClip : K.lookup C_EmptyClip = some (excClassObj xn22 xq22 C_EmptyClip xN22 xb22 [.ref C_BarclipsError, .type "ValueError", .type "Exception", .type "BaseException", .type "object"] true xs22 xu22 xa22 xc22 xd22 xk22a xk22b xk22c xk22d xk22e "ValueError.__new__"))
    (sa_EmptyClip : PySem.W.findIn K (.ref C_EmptyClip) "__setattr__" = some (some (.builtin "object.__setattr__")))
    (xb_EmptyClip : PySem.W.subIn K (.ref C_EmptyClip) (.type "BaseException") = some true)
    (ty_EmptyClip : PySem.W.typeIn K (.ref C_EmptyClip) = some (.type "type"))
    (kp_EmptyClip : PySem.W.keepIn K (.ref C_EmptyClip) = true)
    (ga_EmptyClip : PySem.W.findIn K (.ref C_EmptyClip) "__getattribute__" = some (some (.builtin "BaseException.__getattribute__")))
    (gg_EmptyClip : PySem.W.findIn K (.ref C_EmptyClip) "__getattr__" = some none)
    (hd_EmptyClip : PySem.W.hasDictIn K C_EmptyClip = true)
    (ic_EmptyClip : PySem.W.isClsIn K C_EmptyClip = true)
    (ac_EmptyClip : PySem.W.findIn K (.ref C_EmptyClip) "__class__" = some (some (.builtin "object.__class__")))
    (mo_EmptyClip : PySem.W.mroIn K C_EmptyClip (.type "object") = some true)
    (ss_EmptyClip : PySem.W.subIn K (.ref C_EmptyClip) (.ref C_EmptyClip) = some true)
    (a23 : PySem.W.findIn K (.ref C_EmptyClip) "__init__" = some (some (.ref f_EmptyClip___init__)))
    (t23 : PySem.W.typeIn K (.ref f_EmptyClip___init__) = some (.type "function"))
    (l23 : K.lookup f_EmptyClip___init__ = some ⟨oc23, od23, .func (PySem.W.fnOf "__init__" "EmptyClip.__init__" (defArgs s_EmptyClip___init__) (defBody s_EmptyClip___init__) (defScope s_EmptyClip___init__) .none kV23 dc23 pm23 an23 cd23 ct23), sl23⟩)
    (c23 : PySem.W.codeIn K cd23 "EmptyClip.__init__" = true)
    (k23 : PySem.W.keepIn K (.ref f_EmptyClip___init__) = true)
    (no_EmptyClip_name : PySem.W.findIn K (.ref C_EmptyClip) "name" = some none)
    (g_NoClips : PySem.W.nsIn K mainGlobals "NoClips" = some (some (.ref C_NoClips)))
    (lk_NoClips : K.lookup C_NoClips = some (excClassObj xn24 xq24 C_NoClips xN24 xb24 [.ref C_BarclipsError, .type "ValueError", .type "Exception", .type "BaseException", .type "object"] true xs24 xu24 xa24 xc24 xd24 xk24a xk24b xk24c xk24d xk24e "ValueError.__new__"))
    (sa_NoClips : PySem.W.findIn K (.ref C_NoClips) "__setattr__" = some (some (.builtin "object.__setattr__")))
    (xb_NoClips : PySem.W.subIn K (.ref C_NoClips) (.type "BaseException") = some true)
    (ty_NoClips : PySem.W.typeIn K (.ref C_NoClips) = some (.type "type"))
    (kp_NoClips : PySem.W.keepIn K (.ref C_NoClips) = true)
    (ga_NoClips : PySem.W.findIn K (.ref C_NoClips) "__getattribute__" = some (some (.builtin "BaseException.__getattribute__")))
    (gg_NoClips : PySem.W.findIn K (.ref C_NoClips) "__getattr__" = some none)
    (hd_NoClips : PySem.W.hasDictIn K C_NoClips = true)
    (ic_NoClips : PySem.W.isClsIn K C_NoClips = true)
    (ac_NoClips : PySem.W.findIn K (.ref C_NoClips) "__class__" = some (some (.builtin "object.__class__")))
    (mo_NoClips : PySem.W.mroIn K C_NoClips (.type "object") = some true)
    (ss_NoClips : PySem.W.subIn K (.ref C_NoClips) (.ref C_NoClips) = some true)
    (a25 : PySem.W.findIn K (.ref C_NoClips) "__init__" = some (some (.ref f_NoClips___init__)))
    (t25 : PySem.W.typeIn K (.ref f_NoClips___init__) = some (.type "function"))
    (l25 : K.lookup f_NoClips___init__ = some ⟨oc25, od25, .func (PySem.W.fnOf "__init__" "NoClips.__init__" (defArgs s_NoClips___init__) (defBody s_NoClips___init__) (defScope s_NoClips___init__) .none kV25 dc25 pm25 an25 cd25 ct25), sl25⟩)
    (c25 : PySem.W.codeIn K cd25 "NoClips.__init__" = true)
    (k25 : PySem.W.keepIn K (.ref f_NoClips___init__) = true)
    (no_NoClips_name : PySem.W.findIn K (.ref C_NoClips) "name" = some none)
    (g_TooMany : PySem.W.nsIn K mainGlobals "TooMany" = some (some (.ref C_TooMany)))
    (lk_TooMany : K.lookup C_TooMany = some (excClassObj xn26 xq26 C_TooMany xN26 xb26 [.ref C_BarclipsError, .type "ValueError", .type "Exception", .type "BaseException", .type "object"] true xs26 xu26 xa26 xc26 xd26 xk26a xk26b xk26c xk26d xk26e "ValueError.__new__"))
    (sa_TooMany : PySem.W.findIn K (.ref C_TooMany) "__setattr__" = some (some (.builtin "object.__setattr__")))
    (xb_TooMany : PySem.W.subIn K (.ref C_TooMany) (.type "BaseException") = some true)
    (ty_TooMany : PySem.W.typeIn K (.ref C_TooMany) = some (.type "type"))
    (kp_TooMany : PySem.W.keepIn K (.ref C_TooMany) = true)
    (ga_TooMany : PySem.W.findIn K (.ref C_TooMany) "__getattribute__" = some (some (.builtin "BaseException.__getattribute__")))
    (gg_TooMany : PySem.W.findIn K (.ref C_TooMany) "__getattr__" = some none)
    (hd_TooMany : PySem.W.hasDictIn K C_TooMany = true)
    (ic_TooMany : PySem.W.isClsIn K C_TooMany = true)
    (ac_TooMany : PySem.W.findIn K (.ref C_TooMany) "__class__" = some (some (.builtin "object.__class__")))
    (mo_TooMany : PySem.W.mroIn K C_TooMany (.type "object") = some true)
    (ss_TooMany : PySem.W.subIn K (.ref C_TooMany) (.ref C_TooMany) = some true)
    (a27 : PySem.W.findIn K (.ref C_TooMany) "__init__" = some (some (.ref f_TooMany___init__)))
    (t27 : PySem.W.typeIn K (.ref f_TooMany___init__) = some (.type "function"))
    (l27 : K.lookup f_TooMany___init__ = some ⟨oc27, od27, .func (PySem.W.fnOf "__init__" "TooMany.__init__" (defArgs s_TooMany___init__) (defBody s_TooMany___init__) (defScope s_TooMany___init__) .none kV27 dc27 pm27 an27 cd27 ct27), sl27⟩)
    (c27 : PySem.W.codeIn K cd27 "TooMany.__init__" = true)
    (k27 : PySem.W.keepIn K (.ref f_TooMany___init__) = true)
    (no_TooMany_kind : PySem.W.findIn K (.ref C_TooMany) "kind" = some none)
    (no_TooMany_most : PySem.W.findIn K (.ref C_TooMany) "most" = some none)
    (g_Twice : PySem.W.nsIn K mainGlobals "Twice" = some (some (.ref C_Twice)))
    (lk_Twice : K.lookup C_Twice = some (excClassObj xn28 xq28 C_Twice xN28 xb28 [.ref C_BarclipsError, .type "ValueError", .type "Exception", .type "BaseException", .type "object"] true xs28 xu28 xa28 xc28 xd28 xk28a xk28b xk28c xk28d xk28e "ValueError.__new__"))
    (sa_Twice : PySem.W.findIn K (.ref C_Twice) "__setattr__" = some (some (.builtin "object.__setattr__")))
    (xb_Twice : PySem.W.subIn K (.ref C_Twice) (.type "BaseException") = some true)
    (ty_Twice : PySem.W.typeIn K (.ref C_Twice) = some (.type "type"))
    (kp_Twice : PySem.W.keepIn K (.ref C_Twice) = true)
    (ga_Twice : PySem.W.findIn K (.ref C_Twice) "__getattribute__" = some (some (.builtin "BaseException.__getattribute__")))
    (gg_Twice : PySem.W.findIn K (.ref C_Twice) "__getattr__" = some none)
    (hd_Twice : PySem.W.hasDictIn K C_Twice = true)
    (ic_Twice : PySem.W.isClsIn K C_Twice = true)
    (ac_Twice : PySem.W.findIn K (.ref C_Twice) "__class__" = some (some (.builtin "object.__class__")))
    (mo_Twice : PySem.W.mroIn K C_Twice (.type "object") = some true)
    (ss_Twice : PySem.W.subIn K (.ref C_Twice) (.ref C_Twice) = some true)
    (a29 : PySem.W.findIn K (.ref C_Twice) "__init__" = some (some (.ref f_Twice___init__)))
    (t29 : PySem.W.typeIn K (.ref f_Twice___init__) = some (.type "function"))
    (l29 : K.lookup f_Twice___init__ = some ⟨oc29, od29, .func (PySem.W.fnOf "__init__" "Twice.__init__" (defArgs s_Twice___init__) (defBody s_Twice___init__) (defScope s_Twice___init__) .none kV29 dc29 pm29 an29 cd29 ct29), sl29⟩)
    (c29 : PySem.W.codeIn K cd29 "Twice.__init__" = true)
    (k29 : PySem.W.keepIn K (.ref f_Twice___init__) = true)
    (no_Twice_name : PySem.W.findIn K (.ref C_Twice) "name" = some none)
    (sb_BadName_BarclipsError : PySem.W.subIn K (.ref C_BadName) (.ref C_BarclipsError) = some true)
    (sb_BadName_ValueError : PySem.W.subIn K (.ref C_BadName) (.type "ValueError") = some true)
    (sb_BadName_NoClips : PySem.W.subIn K (.ref C_BadName) (.ref C_NoClips) = some false)
    (sb_BadName_Twice : PySem.W.subIn K (.ref C_BadName) (.ref C_Twice) = some false)
    (sb_NoClips_BarclipsError : PySem.W.subIn K (.ref C_NoClips) (.ref C_BarclipsError) = some true)
    (sb_NoClips_ValueError : PySem.W.subIn K (.ref C_NoClips) (.type "ValueError") = some true)
    (sb_NoClips_BadName : PySem.W.subIn K (.ref C_NoClips) (.ref C_BadName) = some false)
    (sb_NoClips_TooMany : PySem.W.subIn K (.ref C_NoClips) (.ref C_TooMany) = some false)
    (sb_TooMany_BarclipsError : PySem.W.subIn K (.ref C_TooMany) (.ref C_BarclipsError) = some true)
    (sb_TooMany_ValueError : PySem.W.subIn K (.ref C_TooMany) (.type "ValueError") = some true)
    (sb_TooMany_BadName : PySem.W.subIn K (.ref C_TooMany) (.ref C_BadName) = some false)
    (sb_TooMany_NoClips : PySem.W.subIn K (.ref C_TooMany) (.ref C_NoClips) = some false)
    (sb_TooMany_Twice : PySem.W.subIn K (.ref C_TooMany) (.ref C_Twice) = some false)
    (sb_EmptyClip_BarclipsError : PySem.W.subIn K (.ref C_EmptyClip) (.ref C_BarclipsError) = some true)
    (sb_EmptyClip_ValueError : PySem.W.subIn K (.ref C_EmptyClip) (.type "ValueError") = some true)
    (sb_EmptyClip_BadName : PySem.W.subIn K (.ref C_EmptyClip) (.ref C_BadName) = some false)
    (sb_EmptyClip_NoClips : PySem.W.subIn K (.ref C_EmptyClip) (.ref C_NoClips) = some false)
    (sb_EmptyClip_TooMany : PySem.W.subIn K (.ref C_EmptyClip) (.ref C_TooMany) = some false)
    (sb_EmptyClip_Twice : PySem.W.subIn K (.ref C_EmptyClip) (.ref C_Twice) = some false)
    (sb_Twice_BarclipsError : PySem.W.subIn K (.ref C_Twice) (.ref C_BarclipsError) = some true)
    (sb_Twice_ValueError : PySem.W.subIn K (.ref C_Twice) (.type "ValueError") = some true)
    (sb_Twice_BadName : PySem.W.subIn K (.ref C_Twice) (.ref C_BadName) = some false)
    (sb_Twice_NoClips : PySem.W.subIn K (.ref C_Twice) (.ref C_NoClips) = some false)
    (sb_Twice_TooMany : PySem.W.subIn K (.ref C_Twice) (.ref C_TooMany) = some false)
    (sb_Twice_EmptyClip : PySem.W.subIn K (.ref C_Twice) (.ref C_EmptyClip) = some false)
    (a30 : PySem.W.nsIn K mainGlobals "is_name" = some (some (.ref f_is_name)))
    (l30 : K.lookup f_is_name = some ⟨oc30, od30, .func (PySem.W.fnOf "is_name" "is_name" (defArgs s_is_name) (defBody s_is_name) (defScope s_is_name) .none kV30 dc30 pm30 an30 cd30 ct30), sl30⟩)
    (c30 : PySem.W.codeIn K cd30 "is_name" = true)
    (k30 : PySem.W.keepIn K (.ref f_is_name) = true)
    (a31 : PySem.W.nsIn K mainGlobals "check_guards" = some (some (.ref f_check_guards)))
    (l31 : K.lookup f_check_guards = some ⟨oc31, od31, .func (PySem.W.fnOf "check_guards" "check_guards" (defArgs s_check_guards) (defBody s_check_guards) (defScope s_check_guards) .none kV31 dc31 pm31 an31 cd31 ct31), sl31⟩)
    (c31 : PySem.W.codeIn K cd31 "check_guards" = true)
    (k31 : PySem.W.keepIn K (.ref f_check_guards) = true)
    (a32 : PySem.W.nsIn K mainGlobals "first_twice" = some (some (.ref f_first_twice)))
    (l32 : K.lookup f_first_twice = some ⟨oc32, od32, .func (PySem.W.fnOf "first_twice" "first_twice" (defArgs s_first_twice) (defBody s_first_twice) (defScope s_first_twice) .none kV32 dc32 pm32 an32 cd32 ct32), sl32⟩)
    (c32 : PySem.W.codeIn K cd32 "first_twice" = true)
    (k32 : PySem.W.keepIn K (.ref f_first_twice) = true)
    (a33 : PySem.W.nsIn K mainGlobals "guarded_places" = some (some (.ref f_guarded_places)))
    (l33 : K.lookup f_guarded_places = some ⟨oc33, od33, .func (PySem.W.fnOf "guarded_places" "guarded_places" (defArgs s_guarded_places) (defBody s_guarded_places) (defScope s_guarded_places) .none kV33 dc33 pm33 an33 cd33 ct33), sl33⟩)
    (c33 : PySem.W.codeIn K cd33 "guarded_places" = true)
    (k33 : PySem.W.keepIn K (.ref f_guarded_places) = true)
    (a34 : PySem.W.nsIn K mainGlobals "check_ring" = some (some (.ref f_check_ring)))
    (l34 : K.lookup f_check_ring = some ⟨oc34, od34, .func (PySem.W.fnOf "check_ring" "check_ring" (defArgs s_check_ring) (defBody s_check_ring) (defScope s_check_ring) .none kV34 dc34 pm34 an34 cd34 ct34), sl34⟩)
    (c34 : PySem.W.codeIn K cd34 "check_ring" = true)
    (k34 : PySem.W.keepIn K (.ref f_check_ring) = true)
    (gs_LETTERS : PySem.W.nsIn K mainGlobals "LETTERS" = some (some (.str "abcdefghijklmnopqrstuvwxyz" tks35)))
    (gs_CHARACTERS : PySem.W.nsIn K mainGlobals "CHARACTERS" = some (some (.str "abcdefghijklmnopqrstuvwxyz0123456789" tks36)))
    (gi_MOST_CHARACTERS : PySem.W.nsIn K mainGlobals "MOST_CHARACTERS" = some (some (.int 12 tki37)))
    (g_Clip : PySem.W.nsIn K mainGlobals "Clip" = some (some (.ref C_Clip)))
    (pg_Clip : PySem.W.plainGet K C_Clip Str.empty = true)
    (hd_Clip : PySem.W.hasDictIn K C_Clip = true)
    (po_Clip : PySem.W.plainOver K C_Clip = true)
    (sa_Clip : PySem.W.findIn K (.ref C_Clip) "__setattr__" = some (some (.builtin "object.__setattr__")))
    (mk_Clip : PySem.W.makesIn K C_Clip = true)
    (kp_Clip : PySem.W.keepIn K (.ref C_Clip) = true)
    (g_Sound : PySem.W.nsIn K mainGlobals "Sound" = some (some (.ref C_Sound)))
    (pg_Sound : PySem.W.plainGet K C_Sound Str.empty = true)
    (hd_Sound : PySem.W.hasDictIn K C_Sound = true)
    (po_Sound : PySem.W.plainOver K C_Sound = true)
    (sa_Sound : PySem.W.findIn K (.ref C_Sound) "__setattr__" = some (some (.builtin "object.__setattr__")))
    (mk_Sound : PySem.W.makesIn K C_Sound = true)
    (kp_Sound : PySem.W.keepIn K (.ref C_Sound) = true)
    (g_Track : PySem.W.nsIn K mainGlobals "Track" = some (some (.ref C_Track)))
    (pg_Track : PySem.W.plainGet K C_Track Str.empty = true)
    (hd_Track : PySem.W.hasDictIn K C_Track = true)
    (po_Track : PySem.W.plainOver K C_Track = true)
    (sa_Track : PySem.W.findIn K (.ref C_Track) "__setattr__" = some (some (.builtin "object.__setattr__")))
    (mk_Track : PySem.W.makesIn K C_Track = true)
    (kp_Track : PySem.W.keepIn K (.ref C_Track) = true)
    (a38 : PySem.W.findIn K (.ref C_Sound) "__init__" = some (some (.ref f_Sound___init__)))
    (i38 : PySem.W.isFn K (.ref f_Sound___init__) = true)
    (l38 : K.lookup f_Sound___init__ = some ⟨oc38, od38, .func (PySem.W.fnOf "__init__" "Sound.__init__" (defArgs s_Sound___init__) (defBody s_Sound___init__) (defScope s_Sound___init__) .none kV38 dc38 pm38 an38 cd38 ct38), sl38⟩)
    (c38 : PySem.W.codeIn K cd38 "Sound.__init__" = true)
    (k38 : PySem.W.keepIn K (.ref f_Sound___init__) = true)
    (a39 : PySem.W.findIn K (.ref C_Track) "__init__" = some (some (.ref f_Track___init__)))
    (i39 : PySem.W.isFn K (.ref f_Track___init__) = true)
    (l39 : K.lookup f_Track___init__ = some ⟨oc39, od39, .func (PySem.W.fnOf "__init__" "Track.__init__" (defArgs s_Track___init__) (defBody s_Track___init__) (defScope s_Track___init__) .none kV39 dc39 pm39 an39 cd39 ct39), sl39⟩)
    (c39 : PySem.W.codeIn K cd39 "Track.__init__" = true)
    (k39 : PySem.W.keepIn K (.ref f_Track___init__) = true)
    (a40 : PySem.W.findIn K (.ref C_Track) "clip_of" = some (some (.ref f_Track_clip_of)))
    (i40 : PySem.W.isFn K (.ref f_Track_clip_of) = true)
    (l40 : K.lookup f_Track_clip_of = some ⟨oc40, od40, .func (PySem.W.fnOf "clip_of" "Track.clip_of" (defArgs s_Track_clip_of) (defBody s_Track_clip_of) (defScope s_Track_clip_of) .none kV40 dc40 pm40 an40 cd40 ct40), sl40⟩)
    (c40 : PySem.W.codeIn K cd40 "Track.clip_of" = true)
    (k40 : PySem.W.keepIn K (.ref f_Track_clip_of) = true)
    (a41 : PySem.W.findIn K (.ref C_Track) "__iter__" = some (some (.ref f_Track___iter__)))
    (i41 : PySem.W.isFn K (.ref f_Track___iter__) = true)
    (l41 : K.lookup f_Track___iter__ = some ⟨oc41, od41, .func (PySem.W.fnOf "__iter__" "Track.__iter__" (defArgs s_Track___iter__) (defBody s_Track___iter__) (defScope s_Track___iter__) .none kV41 dc41 pm41 an41 cd41 ct41), sl41⟩)
    (c41 : PySem.W.codeIn K cd41 "Track.__iter__" = true)
    (k41 : PySem.W.keepIn K (.ref f_Track___iter__) = true)
    (a42 : PySem.W.findIn K (.ref C_Track) "__contains__" = some (some (.ref f_Track___contains__)))
    (i42 : PySem.W.isFn K (.ref f_Track___contains__) = true)
    (l42 : K.lookup f_Track___contains__ = some ⟨oc42, od42, .func (PySem.W.fnOf "__contains__" "Track.__contains__" (defArgs s_Track___contains__) (defBody s_Track___contains__) (defScope s_Track___contains__) .none kV42 dc42 pm42 an42 cd42 ct42), sl42⟩)
    (c42 : PySem.W.codeIn K cd42 "Track.__contains__" = true)
    (k42 : PySem.W.keepIn K (.ref f_Track___contains__) = true)
    (a43 : PySem.W.findIn K (.ref C_Clip) "__init__" = some (some (.ref f_Clip___init__)))
    (i43 : PySem.W.isFn K (.ref f_Clip___init__) = true)
    (l43 : K.lookup f_Clip___init__ = some ⟨oc43, od43, .func (PySem.W.fnX "__init__" "Clip.__init__" (defArgs s_Clip___init__) (defBody s_Clip___init__) (defScope s_Clip___init__) [("__class__", cc_Clip___init__)] .none (.ref kd43) dc43 pm43 an43 (.ref cda_Clip___init__) ct43), sl43⟩)
    (c43 : PySem.W.codeIn K (.ref cda_Clip___init__) "Clip.__init__" = true)
    (k43 : PySem.W.keepIn K (.ref f_Clip___init__) = true)
    (e43 : K.lookup cc_Clip___init__ = some ⟨cl43, oe43, .cell (some (.ref C_Clip)), sm43⟩)
    (d43 : K.lookup cda_Clip___init__ = some ⟨cm43, of43, .fields vs43, sn43⟩)
    (f43 : vs43[2]? = some (.str fl43 tf43))
    (g43 : ((l.prog.main.file : Str) == fl43) = true)
    (h43 : (l.prog.main.scope.names.lookup ("super" : Str)).isSome = false)
    (j43 : PySem.W.clsIn K C_Clip = some cdd43)
    (m43 : PySem.W.mroIn K C_Clip (.ref C_Clip) = some true)
    (p43 : PySem.W.nsIn K kd43 "rounds" = some (some (.int 1 tk43)))
    (n43 : PySem.W.nsIn K kd43 "guards" = some (some (.ref et_Clip___init__)))
    (o43 : K.lookup et_Clip___init__ = some ⟨.type "tuple", td43, .seq #[] tn43, ts43⟩)
    (tpa : PySem.W.nsIn K cStatics "thirdparty.any" = some none)
    (u44 : PySem.W.ks_superIn K C_Clip C_Clip "__init__" = some (some (.ref f_Sound___init__)))
    (v44 : PySem.W.typeIn K (.ref f_Sound___init__) = some (.type "function"))
    (w44 : PySem.W.fnIn K f_Sound___init__ = true)
    (rd_Clip : PySem.W.readsIn K C_Clip (.type "type") = true)
    (sg_Clip : PySem.W.specialIn K (.ref C_Clip) "__getattribute__" = some (some (.builtin "type.__getattribute__")))
    (cv_Clip_ROUNDS : PySem.W.findCls K (.ref C_Clip) (.type "type") "ROUNDS" = some (.val (.int 4 tkv45)))
    (rd_Track : PySem.W.readsIn K C_Track (.type "type") = true)
    (sg_Track : PySem.W.specialIn K (.ref C_Track) "__getattribute__" = some (some (.builtin "type.__getattribute__")))
    (cv_Track_CLIPS : PySem.W.findCls K (.ref C_Track) (.type "type") "CLIPS" = some (.val (.int 3 tkv46)))
    (a47 : PySem.W.findIn K (.ref C_Clip) "span" = some (some (.ref p_Clip_span)))
    (g47 : PySem.W.specialIn K (.ref p_Clip_span) "__get__" = some (some (.builtin "property.__get__")))
    (t47 : PySem.W.takesIn K (.ref p_Clip_span) = some true)
    (r47 : PySem.W.recIn K p_Clip_span "property" = some (.ref f_Clip_span :: rs47))
    (l47 : K.lookup f_Clip_span = some ⟨oc47, od47, .func (PySem.W.fnOf "span" "Clip.span" (defArgs s_Clip_span) (defBody s_Clip_span) (defScope s_Clip_span) .none kV47 dc47 pm47 an47 cd47 ct47), sl47⟩)
    (c47 : PySem.W.codeIn K cd47 "Clip.span" = true)
    (k47 : PySem.W.keepIn K (.ref f_Clip_span) = true)
    (no_Clip_name : PySem.W.findIn K (.ref C_Clip) "name" = some none)
    (no_Clip_grid : PySem.W.findIn K (.ref C_Clip) "grid" = some none)
    (no_Clip_length : PySem.W.findIn K (.ref C_Clip) "length" = some none)
    (no_Clip_rounds : PySem.W.findIn K (.ref C_Clip) "rounds" = some none)
    (no_Clip_guards : PySem.W.findIn K (.ref C_Clip) "guards" = some none)
    (no_Track_name : PySem.W.findIn K (.ref C_Track) "name" = some none)
    (no_Track_clips : PySem.W.findIn K (.ref C_Track) "clips" = some none)
    (no_Track_period : PySem.W.findIn K (.ref C_Track) "period" = some none)
    (no_Track_places : PySem.W.findIn K (.ref C_Track) "places" = some none)
    (c_ha : PySem.W.findIn K (.ref C_Clip) "__class__" = some (some (.builtin "object.__class__")))
    (c_hm : PySem.W.mroIn K C_Clip (.type "object") = some true)
    (t_ha : PySem.W.findIn K (.ref C_Track) "__class__" = some (some (.builtin "object.__class__")))
    (t_hm : PySem.W.mroIn K C_Track (.type "object") = some true) :
    ∃ fd : FuncData, (∀ (s : Shared) (v : Value), BindsTo s fd ⟨[v], []⟩ [("_law_script", v)]) ∧ ∀ base : Heap, K.In base → base.Ns mainGlobals mg → FnOk l.prog w K mg base CX0 lawLevel fa fd ["_law_script"] (spLaw K) := by
  have F_law := fun_mk (st := s_law) l1 c1 k1
  have g_law := PySem.W.mg_of X G a1
  have kp_law := k1
  have F_law_box := fun_mk (st := s_law_box) l2 c2 k2
  have b_law_box := F_law_box.binds (ps := P_law_box) fun _ _ _ _ _ _ us hl => match us, hl with | [_, _], _ => rfl
  have g_law_box := PySem.W.mg_of X G a2
  have kp_law_box := k2
  have F_law_draw := fun_mk (st := s_law_draw) l3 c3 k3
  have b_law_draw := F_law_draw.binds (ps := P_law_draw) fun _ _ _ _ _ _ us hl => match us, hl with | [_, _], _ => rfl
  have g_law_draw := PySem.W.mg_of X G a3
  have kp_law_draw := k3
  have cl_Grid : Cls K C_Grid := ⟨pg_Grid, hd_Grid, po_Grid, sa_Grid⟩
  have mg_Grid := PySem.W.mg_of X G g_Grid
  have F_Grid___init__ : FunD K "__init__" "Grid.__init__" (defArgs s_Grid___init__) (defBody s_Grid___init__) (defScope s_Grid___init__) [.int 0] [] f_Grid___init__ _ := ⟨⟨_, _, _, _, _, _, _, _, _, _, rfl, l4, c4, Or.inr ⟨by simp, _, _, _, _, rfl, t4, rfl, .cons ⟨_, rfl⟩ (.nil)⟩, Or.inl rfl⟩, k4⟩
  obtain ⟨ds_Grid___init___1, dr_Grid___init___1, b_Grid___init___1⟩ := F_Grid___init__.binds1 (ps := P_Grid___init__) 2 0 (by simp) rfl (fun T kV doc pm an cdv ct us its h1 h2 => match us, its, h1, h2 with | [_, _], [_], _, _ => ⟨_, rfl, rfl⟩)
  obtain ⟨ds_Grid___init___2, dr_Grid___init___2, b_Grid___init___2⟩ := F_Grid___init__.binds1 (ps := P_Grid___init__) 3 1 (by simp) rfl (fun T kV doc pm an cdv ct us its h1 h2 => match us, its, h1, h2 with | [_, _, _], [_], _, _ => ⟨_, rfl, rfl⟩)
  have mk_Grid___init__ : Mk K C_Grid f_Grid___init__ := ⟨mk_Grid, a4, i4, kp_Grid⟩
  have kp_Grid___init__ := k4
  have b_len := PySem.W.mg_none_of X G z_len
  have b_int := PySem.W.mg_none_of X G z_int
  have b_abs := PySem.W.mg_none_of X G z_abs
  have b_str := PySem.W.mg_none_of X G z_str
  have b_range := PySem.W.mg_none_of X G z_range
  have b_isinstance := PySem.W.mg_none_of X G z_isinstance
  have b_bool := PySem.W.mg_none_of X G z_bool
  have b_list := PySem.W.mg_none_of X G z_list
  have b_tuple := PySem.W.mg_none_of X G z_tuple
  have b_sum := PySem.W.mg_none_of X G z_sum
  have b_min := PySem.W.mg_none_of X G z_min
  have b_max := PySem.W.mg_none_of X G z_max
  have b_any := PySem.W.mg_none_of X G z_any
  have b_all := PySem.W.mg_none_of X G z_all
  have b_sorted := PySem.W.mg_none_of X G z_sorted
  have b_enumerate := PySem.W.mg_none_of X G z_enumerate
  have b_ValueError := PySem.W.mg_none_of X G z_ValueError
  have b_super := PySem.W.mg_none_of X G z_super
  have b_set := PySem.W.mg_none_of X G z_set
  have b_iter := PySem.W.mg_none_of X G z_iter
  have F_law_int := fun_mk (st := s_law_int) l5 c5 k5
  have b_law_int := F_law_int.binds (ps := P_law_int) fun _ _ _ _ _ _ us hl => match us, hl with | [_], _ => rfl
  have g_law_int := PySem.W.mg_of X G a5
  have kp_law_int := k5
  have F_law_same := fun_mk (st := s_law_same) l6 c6 k6
  have b_law_same := F_law_same.binds (ps := P_law_same) fun _ _ _ _ _ _ us hl => match us, hl with | [_, _], _ => rfl
  have g_law_same := PySem.W.mg_of X G a6
  have kp_law_same := k6
  have F_law_name := fun_mk (st := s_law_name) l7 c7 k7
  have b_law_name := F_law_name.binds (ps := P_law_name) fun _ _ _ _ _ _ us hl => match us, hl with | [_, _], _ => rfl
  have g_law_name := PySem.W.mg_of X G a7
  have kp_law_name := k7
  have F_law_bad_name := fun_mk (st := s_law_bad_name) l8 c8 k8
  have b_law_bad_name := F_law_bad_name.binds (ps := P_law_bad_name) fun _ _ _ _ _ _ us hl => match us, hl with | [_, _], _ => rfl
  have g_law_bad_name := PySem.W.mg_of X G a8
  have kp_law_bad_name := k8
  have F_law_rows := fun_mk (st := s_law_rows) l9 c9 k9
  have b_law_rows := F_law_rows.binds (ps := P_law_rows) fun _ _ _ _ _ _ us hl => match us, hl with | [_, _], _ => rfl
  have g_law_rows := PySem.W.mg_of X G a9
  have kp_law_rows := k9
  have F_law_case := fun_mk (st := s_law_case) l10 c10 k10
  have b_law_case := F_law_case.binds (ps := P_law_case) fun _ _ _ _ _ _ us hl => match us, hl with | [_, _, _], _ => rfl
  have g_law_case := PySem.W.mg_of X G a10
  have kp_law_case := k10
  have F_law_clips := fun_mk (st := s_law_clips) l11 c11 k11
  have b_law_clips := F_law_clips.binds (ps := P_law_clips) fun _ _ _ _ _ _ us hl => match us, hl with | [_, _], _ => rfl
  have g_law_clips := PySem.W.mg_of X G a11
  have kp_law_clips := k11
  have F_law_track_of := fun_mk (st := s_law_track_of) l12 c12 k12
  have b_law_track_of := F_law_track_of.binds (ps := P_law_track_of) fun _ _ _ _ _ _ us hl => match us, hl with | [_, _], _ => rfl
  have g_law_track_of := PySem.W.mg_of X G a12
  have kp_law_track_of := k12
  have F_law_told := fun_mk (st := s_law_told) l13 c13 k13
  have b_law_told := F_law_told.binds (ps := P_law_told) fun _ _ _ _ _ _ us hl => match us, hl with | [_, _], _ => rfl
  have g_law_told := PySem.W.mg_of X G a13
  have kp_law_told := k13
  have F_law_due := fun_mk (st := s_law_due) l14 c14 k14
  have b_law_due := F_law_due.binds (ps := P_law_due) fun _ _ _ _ _ _ us hl => match us, hl with | [_, _, _], _ => rfl
  have g_law_due := PySem.W.mg_of X G a14
  have kp_law_due := k14
  have F_law_ring_due := fun_mk (st := s_law_ring_due) l15 c15 k15
  have b_law_ring_due := F_law_ring_due.binds (ps := P_law_ring_due) fun _ _ _ _ _ _ us hl => match us, hl with | [_, _, _, _], _ => rfl
  have g_law_ring_due := PySem.W.mg_of X G a15
  have kp_law_ring_due := k15
  have eb : EBase K mg "BarclipsError" C_BarclipsError := ⟨PySem.W.mg_of X G g_BarclipsError, ⟨rd_BarclipsError, sg_BarclipsError⟩, vi_BarclipsError⟩
  have mg_BarclipsError := PySem.W.mg_of X G g_BarclipsError
  have mg_BadName := PySem.W.mg_of X G g_BadName
  have oc_BadName : OexC K C_BadName := ⟨⟨_, _, _, _, _, _, _, _, _, _, _, _, _, _, _, lk_BadName, by first | rfl | decide⟩, sa_BadName, xb_BadName, ty_BadName, kp_BadName⟩
  have ee_BadName : ETxt K mg "BadName" C_BadName := ⟨mg_BadName, oc_BadName, ⟨⟨ga_BadName, gg_BadName, xb_BadName, hd_BadName⟩, ic_BadName, ac_BadName, e_hn, e_tk, mo_BadName⟩, exm_own xb_BadName ic_BadName ty_BadName ss_BadName⟩
  have F_BadName___init__ := fun_mk (st := s_BadName___init__) l17 c17 k17
  have b_BadName___init__ := F_BadName___init__.binds (ps := P_BadName___init__) fun _ _ _ _ _ _ us hl => match us, hl with | [_, _], _ => rfl
  have gi_BadName___init__ := a17
  have ti_BadName___init__ := t17
  have mg_BadNumber := PySem.W.mg_of X G g_BadNumber
  have oc_BadNumber : OexC K C_BadNumber := ⟨⟨_, _, _, _, _, _, _, _, _, _, _, _, _, _, _, lk_BadNumber, by first | rfl | decide⟩, sa_BadNumber, xb_BadNumber, ty_BadNumber, kp_BadNumber⟩
  have ee_BadNumber : ETxt K mg "BadNumber" C_BadNumber := ⟨mg_BadNumber, oc_BadNumber, ⟨⟨ga_BadNumber, gg_BadNumber, xb_BadNumber, hd_BadNumber⟩, ic_BadNumber, ac_BadNumber, e_hn, e_tk, mo_BadNumber⟩, exm_own xb_BadNumber ic_BadNumber ty_BadNumber ss_BadNumber⟩
  have F_BadNumber___init__ := fun_mk (st := s_BadNumber___init__) l19 c19 k19
  have b_BadNumber___init__ := F_BadNumber___init__.binds (ps := P_BadNumber___init__) fun _ _ _ _ _ _ us hl => match us, hl with | [_, _], _ => rfl
  have gi_BadNumber___init__ := a19
  have ti_BadNumber___init__ := t19
  have mg_Unknown := PySem.W.mg_of X G g_Unknown
  have oc_Unknown : OexC K C_Unknown := ⟨⟨_, _, _, _, _, _, _, _, _, _, _, _, _, _, _, lk_Unknown, by first | rfl | decide⟩, sa_Unknown, xb_Unknown, ty_Unknown, kp_Unknown⟩
  have ee_Unknown : ETxt K mg "Unknown" C_Unknown := ⟨mg_Unknown, oc_Unknown, ⟨⟨ga_Unknown, gg_Unknown, xb_Unknown, hd_Unknown⟩, ic_Unknown, ac_Unknown, e_hn, e_tk, mo_Unknown⟩, exm_own xb_Unknown ic_Unknown ty_Unknown ss_Unknown⟩
  have F_Unknown___init__ := fun_mk (st := s_Unknown___init__) l21 c21 k21
  have b_Unknown___init__ := F_Unknown___init__.binds (ps := P_Unknown___init__) fun _ _ _ _ _ _ us hl => match us, hl with | [_, _], _ => rfl
  have gi_Unknown___init__ := a21
  have ti_Unknown___init__ := t21
  have mg_EmptyClip := PySem.W.mg_of X G g_EmptyClip
  have oc_EmptyClip : OexC K C_EmptyClip := ⟨⟨_, _, _, _, _, _, _, _, _, _, _, _, _, _, _, lk_EmptyClip, by first | rfl | decide⟩, sa_EmptyClip, xb_EmptyClip, ty_EmptyClip, kp_EmptyClip⟩
  have ee_EmptyClip : ETxt K mg "EmptyClip" C_EmptyClip := ⟨mg_EmptyClip, oc_EmptyClip, ⟨⟨ga_EmptyClip, gg_EmptyClip, xb_EmptyClip, hd_EmptyClip⟩, ic_EmptyClip, ac_EmptyClip, e_hn, e_tk, mo_EmptyClip⟩, exm_own xb_EmptyClip ic_EmptyClip ty_EmptyClip ss_EmptyClip⟩
  have F_EmptyClip___init__ := fun_mk (st := s_EmptyClip___init__) l23 c23 k23
  have b_EmptyClip___init__ := F_EmptyClip___init__.binds (ps := P_EmptyClip___init__) fun _ _ _ _ _ _ us hl => match us, hl with | [_, _], _ => rfl
  have gi_EmptyClip___init__ := a23
  have ti_EmptyClip___init__ := t23
  have mg_NoClips := PySem.W.mg_of X G g_NoClips
  have oc_NoClips : OexC K C_NoClips := ⟨⟨_, _, _, _, _, _, _, _, _, _, _, _, _, _, _, lk_NoClips, by first | rfl | decide⟩, sa_NoClips, xb_NoClips, ty_NoClips, kp_NoClips⟩
  have ee_NoClips : ETxt K mg "NoClips" C_NoClips := ⟨mg_NoClips, oc_NoClips, ⟨⟨ga_NoClips, gg_NoClips, xb_NoClips, hd_NoClips⟩, ic_NoClips, ac_NoClips, e_hn, e_tk, mo_NoClips⟩, exm_own xb_NoClips ic_NoClips ty_NoClips ss_NoClips⟩
  have F_NoClips___init__ := fun_mk (st := s_NoClips___init__) l25 c25 k25
  have b_NoClips___init__ := F_NoClips___init__.binds (ps := P_NoClips___init__) fun _ _ _ _ _ _ us hl => match us, hl with | [_, _], _ => rfl
  have gi_NoClips___init__ := a25
  have ti_NoClips___init__ := t25
  have mg_TooMany := PySem.W.mg_of X G g_TooMany
  have oc_TooMany : OexC K C_TooMany := ⟨⟨_, _, _, _, _, _, _, _, _, _, _, _, _, _, _, lk_TooMany, by first | rfl | decide⟩, sa_TooMany, xb_TooMany, ty_TooMany, kp_TooMany⟩
  have ee_TooMany : ETxt K mg "TooMany" C_TooMany := ⟨mg_TooMany, oc_TooMany, ⟨⟨ga_TooMany, gg_TooMany, xb_TooMany, hd_TooMany⟩, ic_TooMany, ac_TooMany, e_hn, e_tk, mo_TooMany⟩, exm_own xb_TooMany ic_TooMany ty_TooMany ss_TooMany⟩
  have F_TooMany___init__ := fun_mk (st := s_TooMany___init__) l27 c27 k27
  have b_TooMany___init__ := F_TooMany___init__.binds (ps := P_TooMany___init__) fun _ _ _ _ _ _ us hl => match us, hl with | [_, _, _], _ => rfl
  have gi_TooMany___init__ := a27
  have ti_TooMany___init__ := t27
  have mg_Twice := PySem.W.mg_of X G g_Twice
  have oc_Twice : OexC K C_Twice := ⟨⟨_, _, _, _, _, _, _, _, _, _, _, _, _, _, _, lk_Twice, by first | rfl | decide⟩, sa_Twice, xb_Twice, ty_Twice, kp_Twice⟩
  have ee_Twice : ETxt K mg "Twice" C_Twice := ⟨mg_Twice, oc_Twice, ⟨⟨ga_Twice, gg_Twice, xb_Twice, hd_Twice⟩, ic_Twice, ac_Twice, e_hn, e_tk, mo_Twice⟩, exm_own xb_Twice ic_Twice ty_Twice ss_Twice⟩
  have F_Twice___init__ := fun_mk (st := s_Twice___init__) l29 c29 k29
  have b_Twice___init__ := F_Twice___init__.binds (ps := P_Twice___init__) fun _ _ _ _ _ _ us hl => match us, hl with | [_, _], _ => rfl
  have gi_Twice___init__ := a29
  have ti_Twice___init__ := t29
  have ki_BadName_BarclipsError := kit_xC ic_BarclipsError ty_BarclipsError sb_BadName_BarclipsError (fun _ => rfl)
  have ki_BadName_ValueError := kit_xT (C := C_BadName) sb_BadName_ValueError
  have ki_BadName_NoClips := kit_xC ic_NoClips ty_NoClips sb_BadName_NoClips (fun e => by rw [e, ss_NoClips] at sb_BadName_NoClips; cases sb_BadName_NoClips)
  have ki_BadName_Twice := kit_xC ic_Twice ty_Twice sb_BadName_Twice (fun e => by rw [e, ss_Twice] at sb_BadName_Twice; cases sb_BadName_Twice)
  have ki_NoClips_BarclipsError := kit_xC ic_BarclipsError ty_BarclipsError sb_NoClips_BarclipsError (fun _ => rfl)
  have ki_NoClips_ValueError := kit_xT (C := C_NoClips) sb_NoClips_ValueError
  have ki_NoClips_BadName := kit_xC ic_BadName ty_BadName sb_NoClips_BadName (fun e => by rw [e, ss_BadName] at sb_NoClips_BadName; cases sb_NoClips_BadName)
  have ki_NoClips_TooMany := kit_xC ic_TooMany ty_TooMany sb_NoClips_TooMany (fun e => by rw [e, ss_TooMany] at sb_NoClips_TooMany; cases sb_NoClips_TooMany)
  have ki_TooMany_BarclipsError := kit_xC ic_BarclipsError ty_BarclipsError sb_TooMany_BarclipsError (fun _ => rfl)
  have ki_TooMany_ValueError := kit_xT (C := C_TooMany) sb_TooMany_ValueError
  have ki_TooMany_BadName := kit_xC ic_BadName ty_BadName sb_TooMany_BadName (fun e => by rw [e, ss_BadName] at sb_TooMany_BadName; cases sb_TooMany_BadName)
  have ki_TooMany_NoClips := kit_xC ic_NoClips ty_NoClips sb_TooMany_NoClips (fun e => by rw [e, ss_NoClips] at sb_TooMany_NoClips; cases sb_TooMany_NoClips)
  have ki_TooMany_Twice := kit_xC ic_Twice ty_Twice sb_TooMany_Twice (fun e => by rw [e, ss_Twice] at sb_TooMany_Twice; cases sb_TooMany_Twice)
  have ki_EmptyClip_BarclipsError := kit_xC ic_BarclipsError ty_BarclipsError sb_EmptyClip_BarclipsError (fun _ => rfl)
  have ki_EmptyClip_ValueError := kit_xT (C := C_EmptyClip) sb_EmptyClip_ValueError
  have ki_EmptyClip_BadName := kit_xC ic_BadName ty_BadName sb_EmptyClip_BadName (fun e => by rw [e, ss_BadName] at sb_EmptyClip_BadName; cases sb_EmptyClip_BadName)
  have ki_EmptyClip_NoClips := kit_xC ic_NoClips ty_NoClips sb_EmptyClip_NoClips (fun e => by rw [e, ss_NoClips] at sb_EmptyClip_NoClips; cases sb_EmptyClip_NoClips)
  have ki_EmptyClip_TooMany := kit_xC ic_TooMany ty_TooMany sb_EmptyClip_TooMany (fun e => by rw [e, ss_TooMany] at sb_EmptyClip_TooMany; cases sb_EmptyClip_TooMany)
  have ki_EmptyClip_Twice := kit_xC ic_Twice ty_Twice sb_EmptyClip_Twice (fun e => by rw [e, ss_Twice] at sb_EmptyClip_Twice; cases sb_EmptyClip_Twice)
  have ki_Twice_BarclipsError := kit_xC ic_BarclipsError ty_BarclipsError sb_Twice_BarclipsError (fun _ => rfl)
  have ki_Twice_ValueError := kit_xT (C := C_Twice) sb_Twice_ValueError
  have ki_Twice_BadName := kit_xC ic_BadName ty_BadName sb_Twice_BadName (fun e => by rw [e, ss_BadName] at sb_Twice_BadName; cases sb_Twice_BadName)
  have ki_Twice_NoClips := kit_xC ic_NoClips ty_NoClips sb_Twice_NoClips (fun e => by rw [e, ss_NoClips] at sb_Twice_NoClips; cases sb_Twice_NoClips)
  have ki_Twice_TooMany := kit_xC ic_TooMany ty_TooMany sb_Twice_TooMany (fun e => by rw [e, ss_TooMany] at sb_Twice_TooMany; cases sb_Twice_TooMany)
  have ki_Twice_EmptyClip := kit_xC ic_EmptyClip ty_EmptyClip sb_Twice_EmptyClip (fun e => by rw [e, ss_EmptyClip] at sb_Twice_EmptyClip; cases sb_Twice_EmptyClip)
  have F_is_name := fun_mk (st := s_is_name) l30 c30 k30
  have b_is_name := F_is_name.binds (ps := P_is_name) fun _ _ _ _ _ _ us hl => match us, hl with | [_], _ => rfl
  have g_is_name := PySem.W.mg_of X G a30
  have kp_is_name := k30
  have F_check_guards := fun_mk (st := s_check_guards) l31 c31 k31
  have b_check_guards := F_check_guards.binds (ps := P_check_guards) fun _ _ _ _ _ _ us hl => match us, hl with | [_, _], _ => rfl
  have g_check_guards := PySem.W.mg_of X G a31
  have kp_check_guards := k31
  have F_first_twice := fun_mk (st := s_first_twice) l32 c32 k32
  have b_first_twice := F_first_twice.binds (ps := P_first_twice) fun _ _ _ _ _ _ us hl => match us, hl with | [_], _ => rfl
  have g_first_twice := PySem.W.mg_of X G a32
  have kp_first_twice := k32
  have F_guarded_places := fun_mk (st := s_guarded_places) l33 c33 k33
  have b_guarded_places := F_guarded_places.binds (ps := P_guarded_places) fun _ _ _ _ _ _ us hl => match us, hl with | [_], _ => rfl
  have g_guarded_places := PySem.W.mg_of X G a33
  have kp_guarded_places := k33
  have F_check_ring := fun_mk (st := s_check_ring) l34 c34 k34
  have b_check_ring := F_check_ring.binds (ps := P_check_ring) fun _ _ _ _ _ _ us hl => match us, hl with | [_, _], _ => rfl
  have g_check_ring := PySem.W.mg_of X G a34
  have kp_check_ring := k34
  have g_str_LETTERS := PySem.W.mg_of X G gs_LETTERS
  have g_str_CHARACTERS := PySem.W.mg_of X G gs_CHARACTERS
  have g_int_MOST_CHARACTERS := PySem.W.mg_of X G gi_MOST_CHARACTERS
  have cl_Clip : Cls K C_Clip := ⟨pg_Clip, hd_Clip, po_Clip, sa_Clip⟩
  have mg_Clip := PySem.W.mg_of X G g_Clip
  have cl_Sound : Cls K C_Sound := ⟨pg_Sound, hd_Sound, po_Sound, sa_Sound⟩
  have mg_Sound := PySem.W.mg_of X G g_Sound
  have cl_Track : Cls K C_Track := ⟨pg_Track, hd_Track, po_Track, sa_Track⟩
  have mg_Track := PySem.W.mg_of X G g_Track
  have F_Sound___init__ := fun_mk (st := s_Sound___init__) l38 c38 k38
  have b_Sound___init__ := F_Sound___init__.binds (ps := P_Sound___init__) fun _ _ _ _ _ _ us hl => match us, hl with | [_, _, _], _ => rfl
  have g_Sound___init__ := (⟨a38, i38, k38⟩ : Meth K C_Sound "__init__" f_Sound___init__)
  have mk_Sound___init__ : Mk K C_Sound f_Sound___init__ := ⟨mk_Sound, a38, i38, kp_Sound⟩
  have kp_Sound___init__ := k38
  have F_Track___init__ := fun_mk (st := s_Track___init__) l39 c39 k39
  have g_Track___init__ := (⟨a39, i39, k39⟩ : Meth K C_Track "__init__" f_Track___init__)
  have mk_Track___init__ : Mk K C_Track f_Track___init__ := ⟨mk_Track, a39, i39, kp_Track⟩
  have kp_Track___init__ := k39
  have F_Track_clip_of := fun_mk (st := s_Track_clip_of) l40 c40 k40
  have b_Track_clip_of := F_Track_clip_of.binds (ps := P_Track_clip_of) fun _ _ _ _ _ _ us hl => match us, hl with | [_, _], _ => rfl
  have g_Track_clip_of := (⟨a40, i40, k40⟩ : Meth K C_Track "clip_of" f_Track_clip_of)
  have o_Track_clip_of : Own K C_Track "clip_of" f_Track_clip_of := ⟨a40, i40⟩
  have kp_Track_clip_of := k40
  have F_Track___iter__ := fun_mk (st := s_Track___iter__) l41 c41 k41
  have b_Track___iter__ := F_Track___iter__.binds (ps := P_Track___iter__) fun _ _ _ _ _ _ us hl => match us, hl with | [_], _ => rfl
  have g_Track___iter__ := (⟨a41, i41, k41⟩ : Meth K C_Track "__iter__" f_Track___iter__)
  have o_Track___iter__ : Own K C_Track "__iter__" f_Track___iter__ := ⟨a41, i41⟩
  have kp_Track___iter__ := k41
  have F_Track___contains__ := fun_mk (st := s_Track___contains__) l42 c42 k42
  have b_Track___contains__ := F_Track___contains__.binds (ps := P_Track___contains__) fun _ _ _ _ _ _ us hl => match us, hl with | [_, _], _ => rfl
  have g_Track___contains__ := (⟨a42, i42, k42⟩ : Meth K C_Track "__contains__" f_Track___contains__)
  have o_Track___contains__ : Own K C_Track "__contains__" f_Track___contains__ := ⟨a42, i42⟩
  have kp_Track___contains__ := k42
  have ke_Clip___init__ : ∃ (o : Obj) (its : Array Value) (n : Nat), K.lookup et_Clip___init__ = some o ∧ o.cls = .type "tuple" ∧ o.data = .seq its n ∧ its.size = 0 := ⟨_, _, _, o43, rfl, rfl, rfl⟩
  have kw_Clip___init__ : ∀ q ∈ ([("rounds", .int 1), ("guards", .ref et_Clip___init__)] : List (Str × V)), ∃ u, PySem.W.nsIn K kd43 q.1 = some (some u) ∧ RelV q.2 u := fun q hq => by
    simp only [List.mem_cons, List.not_mem_nil, or_false] at hq
    rcases hq with rfl | rfl <;> first | exact ⟨_, p43, ⟨_, rfl⟩⟩ | exact ⟨_, n43, rfl⟩
  have F_Clip___init__ : FunC K "__init__" "Clip.__init__" s_Clip___init__ [("rounds", .int 1), ("guards", .ref et_Clip___init__)] f_Clip___init__ cda_Clip___init__ cc_Clip___init__ _ := ⟨⟨_, _, _, _, _, _, _, _, rfl, l43, c43, Or.inr ⟨_, rfl, kw_Clip___init__⟩⟩, ⟨_, _, _, _, e43⟩, k43⟩
  have gm_Clip___init__ : Meth K C_Clip "__init__" f_Clip___init__ := ⟨a43, i43, k43⟩
  have mk_Clip___init__ : Mk K C_Clip f_Clip___init__ := ⟨mk_Clip, a43, i43, kp_Clip⟩
  have S_Clip___init_____init__ : Sup l.prog K mg f_Clip___init__ cda_Clip___init__ cc_Clip___init__ C_Clip "self" "__init__" f_Sound___init__ := ⟨⟨_, _, _, _, _, l43, rfl, rfl⟩, ⟨_, _, _, _, _, _, d43, f43, g43⟩, h43, ⟨_, _, _, _, _, e43, j43, m43, u44⟩, b_super, tpa, v44, w44, by decide⟩
  have cr_Clip : ClX.CRead K C_Clip (.type "type") := ⟨rd_Clip, sg_Clip⟩
  have cr_Track : ClX.CRead K C_Track (.type "type") := ⟨rd_Track, sg_Track⟩
  have F_Clip_span := fun_mk (st := s_Clip_span) l47 c47 k47
  have b_Clip_span := F_Clip_span.binds (ps := P_Clip_span) fun _ _ _ _ _ _ us hl => match us, hl with | [_], _ => rfl
  have pp_Clip_span : PropOf K C_Clip "span" p_Clip_span f_Clip_span := ⟨a47, g47, t47, ⟨_, r47⟩⟩
  cases hfa.symm.trans g_law
  have T : Txt mg := ⟨b_len, b_int, b_abs, b_str, b_range, b_isinstance, b_bool, b_list, b_tuple, b_sum, b_min, b_max, b_any, b_all, b_sorted, b_enumerate⟩
  have GT : GTxt K C_Grid := ⟨cl_Grid, no_Grid_step, no_Grid_offset⟩
  refine ⟨PySem.W.fnOf "law" "law" (defArgs s_law) (defBody s_law) (defScope s_law) .none kV1 dc1 pm1 an1 cd1 ct1, fun s v => .of_eq rfl, fun base _ _ => ?_⟩
  have fDraw : Fn l.prog w K mg base "_law_draw" P_law_draw [] 1 spDraw := ⟨_, _, _, g_law_draw, kp_law_draw, b_law_draw, .nil, ok_draw F_law_draw T⟩
  have fBox : Fn l.prog w K mg base "_law_box" P_law_box [] 1 (spBox K) := ⟨_, _, _, g_law_box, kp_law_box, b_law_box, .nil, ok_box F_law_box T⟩
  have mk2 : Made l.prog w K mg base "Grid" C_Grid P_Grid___init__ [] 1 (spInit C_Grid) := ⟨_, _, _, mg_Grid, mk_Grid___init__, b_Grid___init___2, dr_Grid___init___2, ok_init F_Grid___init__ GT⟩
  have mk1 : Made l.prog w K mg base "Grid" C_Grid P_Grid___init__ [.int 0] 1 (spInit C_Grid) := ⟨_, _, _, mg_Grid, mk_Grid___init__, b_Grid___init___1, dr_Grid___init___1, ok_init F_Grid___init__ GT⟩

  have fInt : Fn l.prog w K mg base "_law_int" P_law_int [] 1 spInt := ⟨_, _, _, g_law_int, kp_law_int, b_law_int, .nil, ok_int F_law_int T⟩
  have fSame := fn_same (P := l.prog) (w := w) (base := base) F_law_same T g_law_same b_law_same fInt
  have fName : Fn l.prog w K mg base "_law_name" P_law_name [] 2 spName := ⟨_, _, _, g_law_name, kp_law_name, b_law_name, .nil, ok_name F_law_name T (drawA fDraw)⟩
  have fBad : Fn l.prog w K mg base "_law_bad_name" P_law_bad_name [] 2 spBadName := ⟨_, _, _, g_law_bad_name, kp_law_bad_name, b_law_bad_name, .nil, ok_badName F_law_bad_name T (drawA fDraw)⟩
  have fRows : Fn l.prog w K mg base "_law_rows" P_law_rows [] 3 spRows := ⟨_, _, _, g_law_rows, kp_law_rows, b_law_rows, .nil, ok_rows F_law_rows T (drawA fDraw) fName⟩
  have fCase : Fn l.prog w K mg base "_law_case" P_law_case [] 3 spCase := ⟨_, _, _, g_law_case, kp_law_case, b_law_case, .nil, ok_case F_law_case T (drawA fDraw) fBad⟩
  have GC : CTxt K C_Clip := ⟨cl_Clip, no_Clip_name, no_Clip_grid, no_Clip_length, no_Clip_rounds, no_Clip_guards⟩
  have GTr : TTxt K C_Track := ⟨cl_Track, no_Track_name, no_Track_clips, no_Track_period, no_Track_places⟩
  have eN : Err l.prog w K mg base "BadName" C_BadName P_BadName___init__ 1 (spErr1 C_BadName "name" (fun v => ∃ z : Str, v = .str z ∧ z.length ≤ 100 ∧ ∀ c ∈ z.cps.toList, c < 16 ^ 8)) := ⟨_, _, mg_BadName, oc_BadName, gi_BadName___init__, ti_BadName___init__, b_BadName___init__, ok_eName F_BadName___init__ eb oc_BadName no_BadName_name⟩
  have eV : Err l.prog w K mg base "BadNumber" C_BadNumber P_BadNumber___init__ 1 (spErr1 C_BadNumber "value" (fun _ => True)) := ⟨_, _, mg_BadNumber, oc_BadNumber, gi_BadNumber___init__, ti_BadNumber___init__, b_BadNumber___init__, ok_eBadNumber F_BadNumber___init__ eb oc_BadNumber no_BadNumber_value⟩
  have eU : Err l.prog w K mg base "Unknown" C_Unknown P_Unknown___init__ 1 (spErr1 C_Unknown "name" okText) := ⟨_, _, mg_Unknown, oc_Unknown, gi_Unknown___init__, ti_Unknown___init__, b_Unknown___init__, ok_eUnknown F_Unknown___init__ eb oc_Unknown no_Unknown_name⟩
  have eE : Err l.prog w K mg base "EmptyClip" C_EmptyClip P_EmptyClip___init__ 1 (spErr1 C_EmptyClip "name" okText) := ⟨_, _, mg_EmptyClip, oc_EmptyClip, gi_EmptyClip___init__, ti_EmptyClip___init__, b_EmptyClip___init__, ok_eEmptyClip F_EmptyClip___init__ eb oc_EmptyClip no_EmptyClip_name⟩
  have eNC : Err l.prog w K mg base "NoClips" C_NoClips P_NoClips___init__ 1 (spErr1 C_NoClips "name" okText) := ⟨_, _, mg_NoClips, oc_NoClips, gi_NoClips___init__, ti_NoClips___init__, b_NoClips___init__, ok_eNoClips F_NoClips___init__ eb oc_NoClips no_NoClips_name⟩
  have eT : Err l.prog w K mg base "Twice" C_Twice P_Twice___init__ 1 (spErr1 C_Twice "name" okText) := ⟨_, _, mg_Twice, oc_Twice, gi_Twice___init__, ti_Twice___init__, b_Twice___init__, ok_eTwice F_Twice___init__ eb oc_Twice no_Twice_name⟩
  have eM : Err l.prog w K mg base "TooMany" C_TooMany P_TooMany___init__ 1 (spErr2 C_TooMany "kind" "most" okTM) := ⟨_, _, mg_TooMany, oc_TooMany, gi_TooMany___init__, ti_TooMany___init__, b_TooMany___init__, ok_eTM F_TooMany___init__ eb oc_TooMany no_TooMany_kind no_TooMany_most⟩
  have fIsName : Fn l.prog w K mg base "is_name" P_is_name [] 1 spIsName := ⟨_, _, _, g_is_name, kp_is_name, b_is_name, .nil, ok_isName F_is_name T g_int_MOST_CHARACTERS g_str_LETTERS g_str_CHARACTERS⟩
  have fGuards : FnX l.prog w K mg base "check_guards" P_check_guards [] 3 (spGuardsX K C_BadNumber) := ⟨_, _, _, g_check_guards, kp_check_guards, b_check_guards, .nil, ok_guardsX F_check_guards T eV⟩
  have fTwice : Fn l.prog w K mg base "first_twice" P_first_twice [] 1 (spTwice K) := ⟨_, _, _, g_first_twice, kp_first_twice, b_first_twice, .nil, ok_twice F_first_twice b_set⟩
  have okS := ok_soundX (P := l.prog) (w := w) (mg := mg) (base := base) F_Sound___init__ fIsName eN
  have su : SupFn l.prog w K mg base (L2.CX l.prog w) f_Clip___init__ cda_Clip___init__ cc_Clip___init__ C_Clip "self" "__init__" P_Sound___init__ [] 3 (spSoundX K C_BadName) := ⟨_, _, _, S_Clip___init_____init__, b_Sound___init__, .nil, okS⟩
  have okC := ok_clipX (P := l.prog) (w := w) (mg := mg) (base := base) F_Clip___init__ T GC mg_Clip cr_Clip ⟨cv_Clip_ROUNDS, ⟨_, rfl⟩⟩ su fGuards eV
  obtain ⟨_, kC⟩ := kb_C F_Clip___init__
  have mC : MadeK l.prog w K mg base (L2.CX l.prog w) "Clip" C_Clip P_Clip___init__ ["grid", "length", "rounds"] 1 (gC et_Clip___init__) 5 (spClipX K C_Clip C_BadName C_BadNumber) := ⟨_, _, _, mg_Clip, mk_Clip___init__, kC, okC⟩
  have pS : PrpF l.prog w K mg base C_Clip "span" P_Clip_span 1 (spSpan C_Clip) := ⟨cl_Clip, _, _, _, pp_Clip_span, b_Clip_span, ok_span F_Clip_span GC⟩
  have fGP : Fn l.prog w K mg base "guarded_places" P_guarded_places [] 3 (spGP K C_Clip) := ⟨_, _, _, g_guarded_places, kp_guarded_places, b_guarded_places, .nil, ok_gp F_guarded_places T GC pS⟩
  have fCR : FnX l.prog w K mg base "check_ring" P_check_ring [] 3 (spRingX K C_Clip ⟨C_BadName, C_NoClips, C_TooMany, C_EmptyClip, C_Twice⟩) := ⟨_, _, _, g_check_ring, kp_check_ring, b_check_ring, .nil, ok_ringX F_check_ring T GC mg_Track cr_Track ⟨cv_Track_CLIPS, ⟨_, rfl⟩⟩ fTwice eNC eM eE eT⟩
  have mT : MadeRX l.prog w K mg base "Track" C_Track 5 (spRest (spTrackX K C_Clip C_Track ⟨C_BadName, C_NoClips, C_TooMany, C_EmptyClip, C_Twice⟩)) := ⟨_, mg_Track, mk_Track___init__, ok_trackX F_Track___init__ T GTr rfl pS fIsName fCR fGP eN⟩
  have ic : TIsi K C_Clip := ⟨cl_Clip, c_ha, e_hn, e_tk, c_hm⟩
  have it : TIsi K C_Track := ⟨cl_Track, t_ha, e_hn, e_tk, t_hm⟩
  have okC1 := ok_clipOfX (P := l.prog) (w := w) (mg := mg) (base := base) F_Track_clip_of GC GTr eU
  have m0C : Mth l.prog w K mg base C_Track "clip_of" P_Track_clip_of [] 3 (fun vs H Q _ => spClipOfX K C_Clip C_Track C_Unknown vs H Q E0) := ⟨cl_Track, _, _, _, g_Track_clip_of, b_Track_clip_of, .nil, FnX0 okC1⟩
  have oIn : Opr l.prog w K mg base C_Track "__contains__" P_Track___contains__ 1 (spTrackIn K C_Clip C_Track) := ⟨_, _, o_Track___contains__, b_Track___contains__, ok_trackIn F_Track___contains__ T GC GTr⟩
  have oIt : ItOwn l.prog w K mg base C_Track "clips" 1 := ⟨_, _, _, o_Track___iter__.find, o_Track___iter__.fn, b_Track___iter__, ok_iter F_Track___iter__ GTr b_iter⟩
  have fClips : Fn l.prog w K mg base "_law_clips" P_law_clips [] 7 (spClips K C_Clip) := ⟨_, _, _, g_law_clips, kp_law_clips, b_law_clips, .nil, ok_clips F_law_clips T ke_Clip___init__ mk2 (MadeK0 mC)⟩
  have fOf : FnX l.prog w K mg base "_law_track_of" P_law_track_of [] 7 (spTrackOfX K C_Clip C_Track ⟨C_BadName, C_NoClips, C_TooMany, C_EmptyClip, C_Twice⟩) := ⟨_, _, _, g_law_track_of, kp_law_track_of, b_law_track_of, .nil, ok_trackOf F_law_track_of T mT⟩
  have fTold : Fn l.prog w K mg base "_law_told" P_law_told [] 8 (spTold K C_Clip C_Track) := ⟨_, _, _, g_law_told, kp_law_told, b_law_told, .nil, ok_told F_law_told T fOf eb ee_BadName ee_NoClips ee_TooMany ee_EmptyClip ee_Twice no_BadName_name no_NoClips_name no_TooMany_kind no_TooMany_most no_EmptyClip_name no_Twice_name b_ValueError
    ⟨ki_BadName_BarclipsError, ki_BadName_ValueError, ki_BadName_NoClips, ki_BadName_Twice⟩ ⟨ki_NoClips_BarclipsError, ki_NoClips_ValueError, ki_NoClips_BadName, ki_NoClips_TooMany⟩ ⟨ki_TooMany_BarclipsError, ki_TooMany_ValueError, ki_TooMany_NoClips, ki_TooMany_Twice⟩ ⟨ki_EmptyClip_BarclipsError, ki_EmptyClip_ValueError, ki_EmptyClip_NoClips, ki_EmptyClip_Twice⟩ ⟨ki_Twice_BarclipsError, ki_Twice_ValueError, ki_Twice_BadName, ki_Twice_EmptyClip⟩
    (exm_own xb_BadName ic_BadName ty_BadName sb_NoClips_BadName) (exm_own xb_BadName ic_BadName ty_BadName sb_TooMany_BadName) (exm_own xb_NoClips ic_NoClips ty_NoClips sb_TooMany_NoClips) (exm_own xb_BadName ic_BadName ty_BadName sb_EmptyClip_BadName) (exm_own xb_NoClips ic_NoClips ty_NoClips sb_EmptyClip_NoClips) (exm_own xb_TooMany ic_TooMany ty_TooMany sb_EmptyClip_TooMany) (exm_own xb_BadName ic_BadName ty_BadName sb_Twice_BadName) (exm_own xb_NoClips ic_NoClips ty_NoClips sb_Twice_NoClips) (exm_own xb_TooMany ic_TooMany ty_TooMany sb_Twice_TooMany) (exm_own xb_EmptyClip ic_EmptyClip ty_EmptyClip sb_Twice_EmptyClip)⟩
  have fDue : Fn l.prog w K mg base "_law_due" P_law_due [] 1 spDue := ⟨_, _, _, g_law_due, kp_law_due, b_law_due, .nil, ok_due F_law_due T⟩
  have fRing : Fn l.prog w K mg base "_law_ring_due" P_law_ring_due [] 6 (spRingDue K C_Clip C_Track) := ⟨_, _, _, g_law_ring_due, kp_law_ring_due, b_law_ring_due, .nil, ok_ringDue F_law_ring_due T GC GTr mg_Clip mg_Track ic it (fSame 4) oIt oIn m0C⟩
  exact ok_law F_law T mg_Track cr_Track ⟨cv_Track_CLIPS, ⟨_, rfl⟩⟩ fBox (drawA fDraw) (fSame 3) fName fRows fCase fClips fTold fDue fRing
theorem walk {l : PySem.W.OpenLaw} {q : Program} {loose : List Str} {XP : (Str → Option Value) → Heap → Prop} {YP : World → Heap → Prop} {d : DefRec} {K : Params → PySem.W.Frag} (hn : l.most = some 63) (hdf : d.params.defaults = [])
    (hY : ∀ (w : World) (h : Heap), YP w h → (K w.params).In h)
    (F : ∀ (w : World) (mg : Str → Option Value) (fa : Addr) (h : Heap), (K w.params).In h → h.Ns mainGlobals mg → mg d.name = some (.ref fa) →
      ∃ fd : FuncData, (∀ (s : Shared) (u : Value), BindsTo s fd ⟨[u], []⟩ [("_law_script", u)]) ∧ ∀ base : Heap, (K w.params).In base → base.Ns mainGlobals mg → FnOk l.prog w (K w.params) mg base CX0 lawLevel fa fd ["_law_script"] (spLaw (K w.params))) :
    PySem.W.WalkO q loose XP YP l.row.toRowW d [] (fun f vs => PySem.call f vs) :=
  L2.walk_of (n := 63) (k := lawLevel) (x := "_law_script") (CX := fun _ => CX0) (sp := fun w => spLaw (K w.params)) hn (by decide) hdf ⟨rfl, by decide, by decide⟩ hY F (fun _ _ a ns hl _ hS => ⟨a, ns, rfl, hS, hl, fun _ => rfl⟩) fun _ _ _ _ _ z => z
end Lw

open PySem PySem.W PyProof.Rows in
set_option maxRecDepth 100000 in
set_option maxHeartbeats 0 in
theorem PySem.Challenge.cw_barclips_k25_track_rules_holds : PySem.Challenge.rw_barclips_k25_track_rules.Holds := by
  w_on; o_law; k_head; (case hw => w_witness2)
  k_fill
  refine Lw.walk (l := PySem.Challenge.rw_barclips_k25_track_rules) rfl rfl (fun w h Y => PySem.W.kIn_of Y) ?F
  case F =>
    intro w mg fa h KX G hmg
    refine' Lw.all_mk KX G hmg ?a1 ?l1 ?c1 ?k1 ?a2 ?l2 ?c2 ?k2 ?a3 ?l3 ?c3 ?k3 ?g_Grid ?pg_Grid ?hd_Grid ?po_Grid ?sa_Grid ?mk_Grid ?kp_Grid ?a4 ?i4 ?l4 ?c4 ?k4 ?t4 ?no_Grid_step ?no_Grid_offset ?z_len ?z_int ?z_abs ?z_str ?z_range ?z_isinstance ?z_bool ?z_list ?z_tuple ?z_sum ?z_min ?z_max ?z_any ?z_all ?z_sorted ?z_enumerate ?z_ValueError ?z_super ?z_set ?z_iter ?a5 ?l5 ?c5 ?k5 ?a6 ?l6 ?c6 ?k6 ?a7 ?l7 ?c7 ?k7 ?a8 ?l8 ?c8 ?k8 ?a9 ?l9 ?c9 ?k9 ?a10 ?l10 ?c10 ?k10 ?a11 ?l11 ?c11 ?k11 ?a12 ?l12 ?c12 ?k12 ?a13 ?l13 ?c13 ?k13 ?a14 ?l14 ?c14 ?k14 ?a15 ?l15 ?c15 ?k15 ?g_BarclipsError ?rd_BarclipsError ?sg_BarclipsError ?vi_BarclipsError ?ic_BarclipsError ?ty_BarclipsError ?e_hn ?e_tk ?g_BadName ?lk_BadName ?sa_BadName ?xb_BadName ?ty_BadName ?kp_BadName ?ga_BadName ?gg_BadName ?hd_BadName ?ic_BadName ?ac_BadName ?mo_BadName ?ss_BadName ?a17 ?t17 ?l17 ?c17 ?k17 ?no_BadName_name ?g_BadNumber ?lk_BadNumber ?sa_BadNumber ?xb_BadNumber ?ty_BadNumber ?kp_BadNumber ?ga_BadNumber ?gg_BadNumber ?hd_BadNumber ?ic_BadNumber ?ac_BadNumber ?mo_BadNumber ?ss_BadNumber ?a19 ?t19 ?l19 ?c19 ?k19 ?no_BadNumber_value ?g_Unknown ?lk_Unknown ?sa_Unknown ?xb_Unknown ?ty_Unknown ?kp_Unknown ?ga_Unknown ?gg_Unknown ?hd_Unknown ?ic_Unknown ?ac_Unknown ?mo_Unknown ?ss_Unknown ?a21 ?t21 ?l21 ?c21 ?k21 ?no_Unknown_name ?g_EmptyClip ?lk_EmptyClip ?sa_EmptyClip ?xb_EmptyClip ?ty_EmptyClip ?kp_EmptyClip ?ga_EmptyClip ?gg_EmptyClip ?hd_EmptyClip ?ic_EmptyClip ?ac_EmptyClip ?mo_EmptyClip ?ss_EmptyClip ?a23 ?t23 ?l23 ?c23 ?k23 ?no_EmptyClip_name ?g_NoClips ?lk_NoClips ?sa_NoClips ?xb_NoClips ?ty_NoClips ?kp_NoClips ?ga_NoClips ?gg_NoClips ?hd_NoClips ?ic_NoClips ?ac_NoClips ?mo_NoClips ?ss_NoClips ?a25 ?t25 ?l25 ?c25 ?k25 ?no_NoClips_name ?g_TooMany ?lk_TooMany ?sa_TooMany ?xb_TooMany ?ty_TooMany ?kp_TooMany ?ga_TooMany ?gg_TooMany ?hd_TooMany ?ic_TooMany ?ac_TooMany ?mo_TooMany ?ss_TooMany ?a27 ?t27 ?l27 ?c27 ?k27 ?no_TooMany_kind ?no_TooMany_most ?g_Twice ?lk_Twice ?sa_Twice ?xb_Twice ?ty_Twice ?kp_Twice ?ga_Twice ?gg_Twice ?hd_Twice ?ic_Twice ?ac_Twice ?mo_Twice ?ss_Twice ?a29 ?t29 ?l29 ?c29 ?k29 ?no_Twice_name ?sb_BadName_BarclipsError ?sb_BadName_ValueError ?sb_BadName_NoClips ?sb_BadName_Twice ?sb_NoClips_BarclipsError ?sb_NoClips_ValueError ?sb_NoClips_BadName ?sb_NoClips_TooMany ?sb_TooMany_BarclipsError ?sb_TooMany_ValueError ?sb_TooMany_BadName ?sb_TooMany_NoClips ?sb_TooMany_Twice ?sb_EmptyClip_BarclipsError ?sb_EmptyClip_ValueError ?sb_EmptyClip_BadName ?sb_EmptyClip_NoClips ?sb_EmptyClip_TooMany ?sb_EmptyClip_Twice ?sb_Twice_BarclipsError ?sb_Twice_ValueError ?sb_Twice_BadName ?sb_Twice_NoClips ?sb_Twice_TooMany ?sb_Twice_EmptyClip ?a30 ?l30 ?c30 ?k30 ?a31 ?l31 ?c31 ?k31 ?a32 ?l32 ?c32 ?k32 ?a33 ?l33 ?c33 ?k33 ?a34 ?l34 ?c34 ?k34 ?gs_LETTERS ?gs_CHARACTERS ?gi_MOST_CHARACTERS ?g_Clip ?pg_Clip ?hd_Clip ?po_Clip ?sa_Clip ?mk_Clip ?kp_Clip ?g_Sound ?pg_Sound ?hd_Sound ?po_Sound ?sa_Sound ?mk_Sound ?kp_Sound ?g_Track ?pg_Track ?hd_Track ?po_Track ?sa_Track ?mk_Track ?kp_Track ?a38 ?i38 ?l38 ?c38 ?k38 ?a39 ?i39 ?l39 ?c39 ?k39 ?a40 ?i40 ?l40 ?c40 ?k40 ?a41 ?i41 ?l41 ?c41 ?k41 ?a42 ?i42 ?l42 ?c42 ?k42 ?a43 ?i43 ?l43 ?c43 ?k43 ?e43 ?d43 ?f43 ?g43 ?h43 ?j43 ?m43 ?p43 ?n43 ?o43 ?tpa ?u44 ?v44 ?w44 ?rd_Clip ?sg_Clip ?cv_Clip_ROUNDS ?rd_Track ?sg_Track ?cv_Track_CLIPS ?a47 ?g47 ?t47 ?r47 ?l47 ?c47 ?k47 ?no_Clip_name ?no_Clip_grid ?no_Clip_length ?no_Clip_rounds ?no_Clip_guards ?no_Track_name ?no_Track_clips ?no_Track_period ?no_Track_places ?c_ha ?c_hm ?t_ha ?t_hm
    (case a1 => k_is)
    (case l1 => k_is)
    (case c1 => k_is)
    (case k1 => k_is)
    (case a2 => k_is)
    (case l2 => k_is)
    (case c2 => k_is)
    (case k2 => k_is)
    (case a3 => k_is)
    (case l3 => k_is)
    (case c3 => k_is)
    (case k3 => k_is)
    (case g_Grid => k_is)
    (case pg_Grid => k_is)
    (case hd_Grid => k_is)
    (case po_Grid => k_is)
    (case sa_Grid => k_is)
    (case mk_Grid => k_is)
    (case kp_Grid => k_is)
    (case a4 => k_is)
    (case i4 => k_is)
    (case l4 => k_is)
    (case c4 => k_is)
    (case k4 => k_is)
    (case t4 => k_is)
    (case no_Grid_step => k_is)
    (case no_Grid_offset => k_is)
    (case z_len => k_is)
    (case z_int => k_is)
    (case z_abs => k_is)
    (case z_str => k_is)
    (case z_range => k_is)
    (case z_isinstance => k_is)
    (case z_bool => k_is)
    (case z_list => k_is)
    (case z_tuple => k_is)
    (case z_sum => k_is)
    (case z_min => k_is)
    (case z_max => k_is)
    (case z_any => k_is)
    (case z_all => k_is)
    (case z_sorted => k_is)
    (case z_enumerate => k_is)
    (case z_ValueError => k_is)
    (case z_super => k_is)
    (case z_set => k_is)
    (case z_iter => k_is)
    (case a5 => k_is)
    (case l5 => k_is)
    (case c5 => k_is)
    (case k5 => k_is)
    (case a6 => k_is)
    (case l6 => k_is)
    (case c6 => k_is)
    (case k6 => k_is)
    (case a7 => k_is)
    (case l7 => k_is)
    (case c7 => k_is)
    (case k7 => k_is)
    (case a8 => k_is)
    (case l8 => k_is)
    (case c8 => k_is)
    (case k8 => k_is)
    (case a9 => k_is)
    (case l9 => k_is)
    (case c9 => k_is)
    (case k9 => k_is)
    (case a10 => k_is)
    (case l10 => k_is)
    (case c10 => k_is)
    (case k10 => k_is)
    (case a11 => k_is)
    (case l11 => k_is)
    (case c11 => k_is)
    (case k11 => k_is)
    (case a12 => k_is)
    (case l12 => k_is)
    (case c12 => k_is)
    (case k12 => k_is)
    (case a13 => k_is)
    (case l13 => k_is)
    (case c13 => k_is)
    (case k13 => k_is)
    (case a14 => k_is)
    (case l14 => k_is)
    (case c14 => k_is)
    (case k14 => k_is)
    (case a15 => k_is)
    (case l15 => k_is)
    (case c15 => k_is)
    (case k15 => k_is)
    (case g_BarclipsError => k_is)
    (case rd_BarclipsError => k_is)
    (case sg_BarclipsError => k_is)
    (case vi_BarclipsError => k_is)
    (case ic_BarclipsError => k_is)
    (case ty_BarclipsError => k_is)
    (case e_hn => k_is)
    (case e_tk => k_is)
    (case g_BadName => k_is)
    (case lk_BadName => k_is)
    (case sa_BadName => k_is)
    (case xb_BadName => k_is)
    (case ty_BadName => k_is)
    (case kp_BadName => k_is)
    (case ga_BadName => k_is)
    (case gg_BadName => k_is)
    (case hd_BadName => k_is)
    (case ic_BadName => k_is)
    (case ac_BadName => k_is)
    (case mo_BadName => k_is)
    (case ss_BadName => k_is)
    (case a17 => k_is)
    (case t17 => k_is)
    (case l17 => k_is)
    (case c17 => k_is)
    (case k17 => k_is)
    (case no_BadName_name => k_is)
    (case g_BadNumber => k_is)
    (case lk_BadNumber => k_is)
    (case sa_BadNumber => k_is)
    (case xb_BadNumber => k_is)
    (case ty_BadNumber => k_is)
    (case kp_BadNumber => k_is)
    (case ga_BadNumber => k_is)
    (case gg_BadNumber => k_is)
    (case hd_BadNumber => k_is)
    (case ic_BadNumber => k_is)
    (case ac_BadNumber => k_is)
    (case mo_BadNumber => k_is)
    (case ss_BadNumber => k_is)
    (case a19 => k_is)
    (case t19 => k_is)
    (case l19 => k_is)
    (case c19 => k_is)
    (case k19 => k_is)
    (case no_BadNumber_value => k_is)
    (case g_Unknown => k_is)
    (case lk_Unknown => k_is)
    (case sa_Unknown => k_is)
    (case xb_Unknown => k_is)
    (case ty_Unknown => k_is)
    (case kp_Unknown => k_is)
    (case ga_Unknown => k_is)
    (case gg_Unknown => k_is)
    (case hd_Unknown => k_is)
    (case ic_Unknown => k_is)
    (case ac_Unknown => k_is)
    (case mo_Unknown => k_is)
    (case ss_Unknown => k_is)
    (case a21 => k_is)
    (case t21 => k_is)
    (case l21 => k_is)
    (case c21 => k_is)
    (case k21 => k_is)
    (case no_Unknown_name => k_is)
    (case g_EmptyClip => k_is)
    (case lk_EmptyClip => k_is)
    (case sa_EmptyClip => k_is)
    (case xb_EmptyClip => k_is)
    (case ty_EmptyClip => k_is)
    (case kp_EmptyClip => k_is)
    (case ga_EmptyClip => k_is)
    (case gg_EmptyClip => k_is)
    (case hd_EmptyClip => k_is)
    (case ic_EmptyClip => k_is)
    (case ac_EmptyClip => k_is)
    (case mo_EmptyClip => k_is)
    (case ss_EmptyClip => k_is)
    (case a23 => k_is)
    (case t23 => k_is)
    (case l23 => k_is)
    (case c23 => k_is)
    (case k23 => k_is)
    (case no_EmptyClip_name => k_is)
    (case g_NoClips => k_is)
    (case lk_NoClips => k_is)
    (case sa_NoClips => k_is)
    (case xb_NoClips => k_is)
    (case ty_NoClips => k_is)
    (case kp_NoClips => k_is)
    (case ga_NoClips => k_is)
    (case gg_NoClips => k_is)
    (case hd_NoClips => k_is)
    (case ic_NoClips => k_is)
    (case ac_NoClips => k_is)
    (case mo_NoClips => k_is)
    (case ss_NoClips => k_is)
    (case a25 => k_is)
    (case t25 => k_is)
    (case l25 => k_is)
    (case c25 => k_is)
    (case k25 => k_is)
    (case no_NoClips_name => k_is)
    (case g_TooMany => k_is)
    (case lk_TooMany => k_is)
    (case sa_TooMany => k_is)
    (case xb_TooMany => k_is)
    (case ty_TooMany => k_is)
    (case kp_TooMany => k_is)
    (case ga_TooMany => k_is)
    (case gg_TooMany => k_is)
    (case hd_TooMany => k_is)
    (case ic_TooMany => k_is)
    (case ac_TooMany => k_is)
    (case mo_TooMany => k_is)
    (case ss_TooMany => k_is)
    (case a27 => k_is)
    (case t27 => k_is)
    (case l27 => k_is)
    (case c27 => k_is)
    (case k27 => k_is)
    (case no_TooMany_kind => k_is)
    (case no_TooMany_most => k_is)
    (case g_Twice => k_is)
    (case lk_Twice => k_is)
    (case sa_Twice => k_is)
    (case xb_Twice => k_is)
    (case ty_Twice => k_is)
    (case kp_Twice => k_is)
    (case ga_Twice => k_is)
    (case gg_Twice => k_is)
    (case hd_Twice => k_is)
    (case ic_Twice => k_is)
    (case ac_Twice => k_is)
    (case mo_Twice => k_is)
    (case ss_Twice => k_is)
    (case a29 => k_is)
    (case t29 => k_is)
    (case l29 => k_is)
    (case c29 => k_is)
    (case k29 => k_is)
    (case no_Twice_name => k_is)
    (case sb_BadName_BarclipsError => k_is)
    (case sb_BadName_ValueError => k_is)
    (case sb_BadName_NoClips => k_is)
    (case sb_BadName_Twice => k_is)
    (case sb_NoClips_BarclipsError => k_is)
    (case sb_NoClips_ValueError => k_is)
    (case sb_NoClips_BadName => k_is)
    (case sb_NoClips_TooMany => k_is)
    (case sb_TooMany_BarclipsError => k_is)
    (case sb_TooMany_ValueError => k_is)
    (case sb_TooMany_BadName => k_is)
    (case sb_TooMany_NoClips => k_is)
    (case sb_TooMany_Twice => k_is)
    (case sb_EmptyClip_BarclipsError => k_is)
    (case sb_EmptyClip_ValueError => k_is)
    (case sb_EmptyClip_BadName => k_is)
    (case sb_EmptyClip_NoClips => k_is)
    (case sb_EmptyClip_TooMany => k_is)
    (case sb_EmptyClip_Twice => k_is)
    (case sb_Twice_BarclipsError => k_is)
    (case sb_Twice_ValueError => k_is)
    (case sb_Twice_BadName => k_is)
    (case sb_Twice_NoClips => k_is)
    (case sb_Twice_TooMany => k_is)
    (case sb_Twice_EmptyClip => k_is)
    (case a30 => k_is)
    (case l30 => k_is)
    (case c30 => k_is)
    (case k30 => k_is)
    (case a31 => k_is)
    (case l31 => k_is)
    (case c31 => k_is)
    (case k31 => k_is)
    (case a32 => k_is)
    (case l32 => k_is)
    (case c32 => k_is)
    (case k32 => k_is)
    (case a33 => k_is)
    (case l33 => k_is)
    (case c33 => k_is)
    (case k33 => k_is)
    (case a34 => k_is)
    (case l34 => k_is)
    (case c34 => k_is)
    (case k34 => k_is)
    (case gs_LETTERS => k_is)
    (case gs_CHARACTERS => k_is)
    (case gi_MOST_CHARACTERS => k_is)
    (case g_Clip => k_is)
    (case pg_Clip => k_is)
    (case hd_Clip => k_is)
    (case po_Clip => k_is)
    (case sa_Clip => k_is)
    (case mk_Clip => k_is)
    (case kp_Clip => k_is)
    (case g_Sound => k_is)
    (case pg_Sound => k_is)
    (case hd_Sound => k_is)
    (case po_Sound => k_is)
    (case sa_Sound => k_is)
    (case mk_Sound => k_is)
    (case kp_Sound => k_is)
    (case g_Track => k_is)
    (case pg_Track => k_is)
    (case hd_Track => k_is)
    (case po_Track => k_is)
    (case sa_Track => k_is)
    (case mk_Track => k_is)
    (case kp_Track => k_is)
    (case a38 => k_is)
    (case i38 => k_is)
    (case l38 => k_is)
    (case c38 => k_is)
    (case k38 => k_is)
    (case a39 => k_is)
    (case i39 => k_is)
    (case l39 => k_is)
    (case c39 => k_is)
    (case k39 => k_is)
    (case a40 => k_is)
    (case i40 => k_is)
    (case l40 => k_is)
    (case c40 => k_is)
    (case k40 => k_is)
    (case a41 => k_is)
    (case i41 => k_is)
    (case l41 => k_is)
    (case c41 => k_is)
    (case k41 => k_is)
    (case a42 => k_is)
    (case i42 => k_is)
    (case l42 => k_is)
    (case c42 => k_is)
    (case k42 => k_is)
    (case a43 => k_is)
    (case i43 => k_is)
    (case l43 => k_is)
    (case c43 => k_is)
    (case k43 => k_is)
    (case e43 => k_is)
    (case d43 => k_is)
    (case f43 => first | rfl | decide +kernel)
    (case g43 => first | rfl | decide +kernel)
    (case h43 => first | rfl | decide +kernel)
    (case j43 => k_is)
    (case m43 => k_is)
    (case p43 => k_is)
    (case n43 => k_is)
    (case o43 => k_is)
    (case tpa => k_is)
    (case u44 => ks_is)
    (case v44 => k_is)
    (case w44 => k_is)
    (case rd_Clip => k_is)
    (case sg_Clip => k_is)
    (case cv_Clip_ROUNDS => k_is)
    (case rd_Track => k_is)
    (case sg_Track => k_is)
    (case cv_Track_CLIPS => k_is)
    (case a47 => k_is)
    (case g47 => k_is)
    (case t47 => k_is)
    (case r47 => k_is)
    (case l47 => k_is)
    (case c47 => k_is)
    (case k47 => k_is)
    (case no_Clip_name => k_is)
    (case no_Clip_grid => k_is)
    (case no_Clip_length => k_is)
    (case no_Clip_rounds => k_is)
    (case no_Clip_guards => k_is)
    (case no_Track_name => k_is)
    (case no_Track_clips => k_is)
    (case no_Track_period => k_is)
    (case no_Track_places => k_is)
    (case c_ha => k_is)
    (case c_hm => k_is)
    (case t_ha => k_is)
    (case t_hm => k_is)


