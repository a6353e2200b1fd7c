import PyProof.Rows.All
import Wide.All
import OpenK.AllK
import Wide.FinOn
import HandS.ForMost
import HandS.Wide
import HandS.Zip
import HandS.Walk
import HandS.IsInst
import HandS.TupAny
import HandS.Style
import HandS.SortOrd
import HandS.Remove
import KE.DataFind
import KE.GoesEnum
import HandS.TupMul
import HandS.Codes
import HandS.Conv
import HandS.DictComp
import HandS.DictTup
import HandS.FStr
import HandS.More
import HandS.Small
import HandS.Sort
import HandS.SortRule
import HandS.Star
import HandS.StrMore
import HandS.Text
import HandS.TupLe
import KE.KDictDisplayH
import KE.KEqDict
import PyProof.NeKinds
import PyProof.StrOps2
import HandS.ExcInit
import HandS.ExcField
import HandS.ExcValue
import HandS.ExcIs
import HandS.ExcOwn
import HandS.TryOnly
import HandS.WordsExc
import KE.KExcIs
import HandS.Strs
import HandS.TupSets
import HandS.OwnEq
import HandS.MakeKw
import HandS.MakeKwOnly
import HandS.Defaults
import PyProof.InstNe
import PySem.Challenge.RW_onetrace_k29_codes_written
import HandS.RaiseMore
set_option Elab.async false
set_option linter.all false
set_option maxRecDepth 100000
set_option maxHeartbeats 4000000
namespace Z
open PySem PySem.Spec PyProof.Rows L2 RZ
/-- a def that is called: where it stands, what it promises -/
structure Cal (P : Program) (w : World) (K : PySem.W.Frag) (mg : Str → Option Value) (base : Heap) (x : Str) (k : Nat) (ps : List Str) (sp : Sp) (st : Stmt) (f : Addr) (fd : FuncData) : Prop where
  ok : FnOk P w K mg base CX0 k f fd ps sp
  at_ : mg x = some (.ref f)
  kp : PySem.W.keepIn K (.ref f) = true
  b : Binds K fd ps []
  fn : Fun K x x st f fd
/-- a def as it stands behind the top -/
structure Here (K : PySem.W.Frag) (mg : Str → Option Value) (x : Str) (st : Stmt) (ps : List Str) (f : Addr) (fd : FuncData) : Prop where
  fn : Fun K x x st f fd
  at_ : mg x = some (.ref f)
  b : Binds K fd ps []
section
variable {P : Program} {w : World} {K : PySem.W.Frag} {mg : Str → Option Value} {base : Heap}
theorem Here.cal {x : Str} {st : Stmt} {ps N : List Str} {f : Addr} {fd : FuncData} {k : Nat} {sp : Sp} (F : Here K mg x st ps f fd) (S : FnScope N ps (defScope st)) (len : ∀ vs H Q E, sp vs H Q E → vs.length = ps.length)
    (hbody : ∀ (cdv : Value) (A : Around) (outer : List Env) (s : Shared) (H : Hp) (vs : List V) (Q : VK) (E : XK), Room k (A.deeper (envOfC x (defScope st) s.heap.objs.size f cdv)) → sp vs H Q E →
      ∃ t, PSs (cxOf CX0 P w K mg base N x (defScope st) f cdv A outer s H E).nox (defBody st) t ∧ t { nx := fun _ H' => Q .non H', rt := Q } (L2.start N vs) H) : Cal P w K mg base x (k + 1) ps sp st f fd :=
  ⟨F.fn.ok S len hbody, F.at_, F.fn.kp, F.b, F.fn⟩
end
/-! readings, rule by rule -/
def rLen (K : PySem.W.Frag) : List V → Hp → VK → Prop := fun xs H Q => ∃ p ys, xs = [.ref p] ∧ (SqL K H p ys ∨ SqT K H p ys) ∧ Q (.int ys.length) H
theorem cr_len {X : Cx} : CallR X (.builtin "len") (rLen X.K) := call_len_seq
theorem r_app0 {l : Addr} {xs : List V} {y : V} {H : Hp} {Q : VK} (h : H l = some (.lst xs)) (z : xs.length < sizeLine) (q : Q .non (upd H l (.lst (xs ++ [y])))) : rAppend (.ref l) [y] H Q := ⟨l, xs, y, rfl, rfl, h, z, q⟩
theorem r_ty {K : PySem.W.Frag} {l : Addr} {xs : List V} {H : Hp} {A : Prop} (h : H l = some (.lst xs)) (q : A) : tyV K "list" (.ref l) H ∧ A := ⟨.inl ⟨rfl, _, .inl (.inl h)⟩, q⟩
theorem r_all {K : PySem.W.Frag} {a : Addr} {bs : List Bool} {H : Hp} {Q : VK} (h : SqL K H a (bs.map V.bl)) (q : Q (.bl (bs.all id)) H) : rAll K [.ref a] H Q := ⟨a, bs, rfl, h, q⟩
theorem r_sum {K : PySem.W.Frag} {a : Addr} {ns : List Int} {H : Hp} {Q : VK} (h : SqL K H a (ns.map V.int)) (q : Q (.int ns.sum) H) : rSum K [.ref a] H Q := ⟨a, ns, rfl, h, q⟩
theorem r_isi {K : PySem.W.Frag} {x c : V} {t u : Value} {b : Bool} {H : Hp} {Q : VK} (h1 : ClsV c u) (h2 : TyX K H x t) (h3 : PySem.W.kitOne K t u = some b) (q : Q (.bl b) H) : rIsi K [x, c] H Q := ⟨x, c, t, u, b, rfl, h1, h2, h3, q⟩
def rAbs : List V → Hp → VK → Prop := fun xs H Q => ∃ i, xs = [.int i] ∧ Q (.int (if i < 0 then -i else i)) H
theorem cr_abs {X : Cx} : CallR X (.builtin "abs") rAbs := call_abs
def rListOf (K : PySem.W.Frag) : List V → Hp → VK → Prop := fun xs H Q => ∃ p ys, xs = [.ref p] ∧ (SqL K H p ys ∨ SqT K H p ys) ∧ ∀ l, H l = none → Q (.ref l) (upd H l (.lst ys))
theorem cr_listOf {X : Cx} : CallR X (.type "list") (rListOf X.K) := call_list_of
def rTupOf (K : PySem.W.Frag) : List V → Hp → VK → Prop := fun xs H Q => ∃ p ys, xs = [.ref p] ∧ ((SqL K H p ys ∧ ∀ l, H l = none → Q (.ref l) (upd H l (.tup ys))) ∨ (SqT K H p ys ∧ Q (.ref p) H))
theorem cr_tupOf {X : Cx} : CallR X (.type "tuple") (rTupOf X.K) := call_tuple_of
section
variable {K : PySem.W.Frag} {D : Ends} {σ : L2.St} {H : Hp} {Q : VK}
theorem r_seq {t u : TS} (h : t { D with nx := u D } σ H) : tSeq t u D σ H := h
theorem r_asg {te : TE} {g : TG} (h : te σ H fun x H1 => g x σ H1 D.nx) : tAsg te g D σ H := h
theorem r_gname {i : Nat} {v : V} {N : L2.St → Hp → Prop} (h : N (σ.set i (some v)) H) : gName i v σ H N := h
theorem r_var {i : Nat} {v : V} (e : σ[i]? = some (some v)) (h : Q v H) : tVar i σ H Q := ⟨v, e, h⟩
theorem r_c {v : V} (h : Q v H) : tC v σ H Q := h
theorem r_op {r : R2} {ta tb : TE} (h : ta σ H fun x H1 => tb σ H1 fun y H2 => r x y H2 Q) : tOp r ta tb σ H Q := h
theorem r_i0 {g : Int → Int → V} {i j : Int} (h : Q (g i j) H) : rI0 g (.int i) (.int j) H Q := ⟨i, j, rfl, rfl, h⟩
theorem r_i {C : Int → Int → Prop} {g : Int → Int → V} {i j : Int} (c : C i j) (h : Q (g i j) H) : rI C g (.int i) (.int j) H Q := ⟨i, j, rfl, rfl, c, h⟩
theorem r_ixl {p : Addr} {xs : List V} {i : Int} {v : V} (h : SqL K H p xs) (e : atI xs i = some v) (q : Q v H) : rIxL K (.ref p) (.int i) H Q := ⟨p, xs, i, v, rfl, rfl, h, e, q⟩
theorem r_ixt {p : Addr} {xs : List V} {i : Int} {v : V} (h : SqT K H p xs) (e : atI xs i = some v) (q : Q v H) : rIxT K (.ref p) (.int i) H Q := ⟨p, xs, i, v, rfl, rfl, h, e, q⟩
theorem r_cb {r : List V → Hp → VK → Prop} {t : TA} (h : t σ H fun vs H1 => r vs H1 Q) : tCB r t σ H Q := h
theorem r_cons {ta : TE} {tr : TA} {R : List V → Hp → Prop} (h : ta σ H fun x H1 => tr σ H1 fun xs H2 => R (x :: xs) H2) : tCons ta tr σ H R := h
theorem r_nil {R : List V → Hp → Prop} (h : R [] H) : tNil σ H R := h
theorem r_len {p : Addr} {ys : List V} (h : SqL K H p ys) (q : Q (.int ys.length) H) : rLen K [.ref p] H Q := ⟨p, ys, rfl, .inl h, q⟩
theorem r_lent {p : Addr} {ys : List V} (h : SqT K H p ys) (q : Q (.int ys.length) H) : rLen K [.ref p] H Q := ⟨p, ys, rfl, .inr h, q⟩
theorem r_abs {i : Int} (q : Q (.int (if i < 0 then -i else i)) H) : rAbs [.int i] H Q := ⟨i, rfl, q⟩
theorem r_listl {p : Addr} {ys : List V} (h : SqL K H p ys) (q : ∀ l, H l = none → Q (.ref l) (upd H l (.lst ys))) : rListOf K [.ref p] H Q := ⟨p, ys, rfl, .inl h, q⟩
theorem r_listt {p : Addr} {ys : List V} (h : SqT K H p ys) (q : ∀ l, H l = none → Q (.ref l) (upd H l (.lst ys))) : rListOf K [.ref p] H Q := ⟨p, ys, rfl, .inr h, q⟩
theorem r_tupl {p : Addr} {ys : List V} (h : SqL K H p ys) (q : ∀ l, H l = none → Q (.ref l) (upd H l (.tup ys))) : rTupOf K [.ref p] H Q := ⟨p, ys, rfl, .inl ⟨h, q⟩⟩
theorem r_tupt {p : Addr} {ys : List V} (h : SqT K H p ys) (q : Q (.ref p) H) : rTupOf K [.ref p] H Q := ⟨p, ys, rfl, .inr ⟨h, q⟩⟩
theorem r_if {c : TT} {t u : TS} (h : c σ H fun b H1 => if b = true then t D σ H1 else u D σ H1) : tIfS c t u D σ H := h
theorem r_ife {c : TT} {t u : TE} (h : c σ H fun b H1 => if b = true then t σ H1 Q else u σ H1 Q) : tIf c t u σ H Q := h
theorem r_test {te : TE} {R : Bool → Hp → Prop} (h : te σ H fun x H' => ∃ k, x = .bl k ∧ R k H') : tTest te σ H R := h
theorem r_bl {b : Bool} {R : Bool → Prop} (h : R b) : ∃ k, V.bl b = .bl k ∧ R k := ⟨b, rfl, h⟩
theorem r_ite {p : Prop} {inst : Decidable p} {A B : Prop} (h1 : p → A) (h2 : ¬p → B) : if decide p = true then A else B := by
  by_cases h : p
  · rw [if_pos (decide_eq_true h)]; exact h1 h
  · rw [if_neg (by simpa using h)]; exact h2 h
theorem r_tand {t u : TT} {R : Bool → Hp → Prop} (h : t σ H fun c H1 => if c = true then u σ H1 R else R false H1) : tAnd t u σ H R := h
theorem r_tor {t u : TT} {R : Bool → Hp → Prop} (h : t σ H fun c H1 => if c = true then R true H1 else u σ H1 R) : tOr t u σ H R := h
theorem r_tnot {t : TT} {R : Bool → Hp → Prop} (h : t σ H fun c H1 => R (!c) H1) : tNot t σ H R := h
theorem r_andv {ta tb : TE} (h : ta σ H fun x H1 => ∃ c, x = .bl c ∧ if c = true then tb σ H1 Q else Q (.bl false) H1) : tAndV ta tb σ H Q := h
theorem r_orv {ta tb : TE} (h : ta σ H fun x H1 => ∃ c, x = .bl c ∧ if c = true then Q (.bl true) H1 else tb σ H1 Q) : tOrV ta tb σ H Q := h
theorem r_notv {ta : TE} (h : ta σ H fun x H1 => ∃ c, x = .bl c ∧ Q (.bl (!c)) H1) : tNotV ta σ H Q := h
theorem r_chain {r r' : R2} {ta tb tc : TE} (h : ta σ H fun x H1 => tb σ H1 fun y H2 => r x y H2 fun z H3 => ∃ k, z = .bl k ∧ (if k = true then tc σ H3 fun w' H4 => r' y w' H4 Q else Q (.bl false) H3)) : tChain r r' ta tb tc σ H Q := h
theorem r_t {A B : Prop} (h : A) : if true = true then A else B := by rw [if_pos rfl]; exact h
theorem r_f {A B : Prop} (h : B) : if false = true then A else B := by rw [if_neg (by decide)]; exact h
theorem r_nt {A B : Prop} (h : B) : if (!true) = true then A else B := by rw [if_neg (by decide)]; exact h
theorem r_nf {A B : Prop} (h : A) : if (!false) = true then A else B := by rw [if_pos (by decide)]; exact h
theorem r_bm {T : String} {r : V → List V → Hp → VK → Prop} {to : TE} {t : TA} (h : to σ H fun x H1 => tyV K T x H1 ∧ t σ H1 fun xs H2 => r x xs H2 Q) : tBM K T r to t σ H Q := h
theorem r_sl {r : V → Option Int → Option Int → Hp → VK → Prop} {te : TE} {tl th : TO} (h : te σ H fun x H1 => tl σ H1 fun l H2 => th σ H2 fun u H3 => r x l u H3 Q) : tSl r te tl th σ H Q := h
theorem r_sll {a : Addr} {xs : List V} {lo hi : Option Int} (h : SqL K H a xs) (q : ∀ p, H p = none → Q (.ref p) (upd H p (.lst (cutV xs lo hi)))) : rSlL K (.ref a) lo hi H Q := ⟨a, xs, rfl, h, q⟩
theorem r_nopart {R : Option Int → Hp → Prop} (h : R none H) : tNoPart σ H R := h
theorem r_part {te : TE} {R : Option Int → Hp → Prop} (h : te σ H fun x H1 => ∃ i, x = .int i ∧ R (some i) H1) : tPart te σ H R := h
theorem r_parti {i : Int} {R : Int → Prop} (h : R i) : ∃ j, V.int i = .int j ∧ R j := ⟨i, rfl, h⟩
theorem r_yes {R : Bool → Hp → Prop} (h : R true H) : tYes σ H R := h
theorem r_sz {xs : List V} {B : Prop} (e : Nat.ble xs.length 1000 = true) (h : B) : xs.length ≤ sizeLine ∧ B := ⟨Nat.le_trans (Nat.le_of_ble_eq_true e) (by decide), h⟩
theorem r_iteB {b : Bool} {A B : Prop} (h1 : b = true → A) (h2 : b = false → B) : if b = true then A else B := by
  cases b with
  | true => rw [if_pos rfl]; exact h1 rfl
  | false => rw [if_neg (by decide)]; exact h2 rfl
theorem r_tb {t : TE} {R : Bool → Hp → Prop} (h : t σ H fun x H1 => ∃ c, x = .bl c ∧ R c H1) : tB t σ H R := h
theorem r_un {r : V → Hp → VK → Prop} {ta : TE} (h : ta σ H fun x H1 => r x H1 Q) : tUn r ta σ H Q := h
theorem r_u {g : Int → V} {i : Int} (h : Q (g i) H) : rU g (.int i) H Q := ⟨i, rfl, h⟩
theorem r_ret {te : TE} (h : te σ H D.rt) : tRet te D σ H := h
theorem r_gsub {to ti : TE} {t : TSet} {v : V} {N : L2.St → Hp → Prop} (h : to σ H fun o H1 => ti σ H1 fun i H2 => t o i v H2 fun H3 => N σ H3) : gSub to ti t v σ H N := h
theorem r_setl {p : Addr} {xs : List V} {k : Int} {j : Nat} {v : V} {R : Hp → Prop} (h : H p = some (.lst xs)) (e : ixN xs.length k = some j) (q : R (upd H p (.lst (xs.set j v)))) : rSetL (.ref p) (.int k) v H R := ⟨p, xs, k, j, rfl, rfl, h, e, q⟩
theorem r_next (h : D.nx σ H) : tNext D σ H := h
theorem r_call {sp : Sp} {dvs : List V} {E : XK} {t : TA} (h : t σ H fun vs H1 => sp (vs ++ dvs) H1 Q E) : tCall sp dvs E t σ H Q := h
theorem r_lst {t : TA} (h : t σ H fun xs H1 => xs.length ≤ sizeLine ∧ ∀ p, H1 p = none → Q (.ref p) (upd H1 p (.lst xs))) : tLst t σ H Q := h
theorem r_tup {t : TA} (h : t σ H fun xs H1 => xs.length ≤ sizeLine ∧ ∀ p, H1 p = none → Q (.ref p) (upd H1 p (.tup xs))) : tTup t σ H Q := h
theorem r_drop {te : TE} (h : te σ H fun _ H1 => D.nx σ H1) : tDrop te D σ H := h
theorem r_eq {x y : V} (s : scal x y = true) (q : Q (.bl (decide (x = y))) H) : rEq x y H Q := ⟨s, q⟩
theorem r_ne {x y : V} (s : scal x y = true) (q : Q (.bl (!decide (x = y))) H) : rNe x y H Q := ⟨s, q⟩
theorem hl_new {H : Hp} {a b : Addr} {o u : HO} (h : H a = some o) (n : H b = none) : upd H b u a = some o := (upd_ne (ne_of_none h n)).trans h
theorem hl_set {H : Hp} {a b : Addr} {o u : HO} (n : a ≠ b) (h : H a = some o) : upd H b u a = some o := (upd_ne n).trans h
end

/-! ### what stands at an address, over the heaps -/
def Kp (S : List Addr) (H H' : Hp) : Prop := ∀ b o, H b = some o → b ∉ S → H' b = some o
theorem Kp.refl {S : List Addr} {H : Hp} : Kp S H H := fun _ _ h _ => h
theorem Kp.trans {S : List Addr} {H H1 H2 : Hp} (a : Kp S H H1) (b : Kp S H1 H2) : Kp S H H2 := fun x o h n => b x o (a x o h n) n
theorem Kp.new {S : List Addr} {H : Hp} {p : Addr} {x : HO} (n : H p = none) : Kp S H (upd H p x) := fun b o h _ => hl_new h n
theorem Kp.set {S : List Addr} {H : Hp} {p : Addr} {x : HO} (m : p ∈ S) : Kp S H (upd H p x) := fun b o h n => hl_set (fun e => n (e ▸ m)) h
/-- a thing made since H is changed -/
theorem Kp.own {S : List Addr} {H H1 : Hp} {p : Addr} {x : HO} (k : Kp S H H1) (n : H p = none) : Kp S H (upd H1 p x) := fun b o h m => hl_set (ne_of_none h n) (k b o h m)
theorem Kp.sub {S S' : List Addr} {H H' : Hp} (k : Kp S H H') (m : ∀ a ∈ S, a ∈ S') : Kp S' H H' := fun b o h n => k b o h fun z => n (m b z)
theorem Kp.ofSame {S : List Addr} {H H' : Hp} (k : Same H H') : Kp S H H' := fun b o h _ => k b o h
theorem Kp.nil {H H' : Hp} (k : Kp [] H H') : Same H H' := fun b o h => k b o h (by simp)
theorem Kp.free {S : List Addr} {H H' : Hp} (k : Kp S H H') {p : Addr} (n : H' p = none) (m : p ∉ S) : H p = none := by
  cases q : H p with
  | none => rfl
  | some o => rw [k p o q m] at n; cases n
theorem Same.upd_new {H : Hp} {p : Addr} {x : HO} (n : H p = none) : Same H (upd H p x) := fun b o h => hl_new h n
theorem hl_kp {S : List Addr} {H H' : Hp} {a : Addr} {o : HO} (k : Kp S H H') (n : a ∉ S) (h : H a = some o) : H' a = some o := k _ _ h n
theorem hl_same {H H' : Hp} {a : Addr} {o : HO} (k : Same H H') (h : H a = some o) : H' a = some o := k _ _ h
/-- every object outside S stands, outside S' -/
def Lft (S : List Addr) (H : Hp) (S' : List Addr) (H' : Hp) : Prop := ∀ a o, H a = some o → a ∉ S → H' a = some o ∧ a ∉ S'
theorem Lft.refl {S : List Addr} {H : Hp} : Lft S H S H := fun _ _ h n => ⟨h, n⟩
theorem Lft.trans {S S1 S2 : List Addr} {H H1 H2 : Hp} (a : Lft S H S1 H1) (b : Lft S1 H1 S2 H2) : Lft S H S2 H2 := fun x o h n => b x o (a x o h n).1 (a x o h n).2
theorem Lft.new {S : List Addr} {H : Hp} {p : Addr} {x : HO} (n : H p = none) : Lft S H S (upd H p x) := fun _ _ h m => ⟨hl_new h n, m⟩
theorem Lft.set {S : List Addr} {H : Hp} {p : Addr} {x : HO} (m : p ∈ S) : Lft S H S (upd H p x) := fun _ _ h n => ⟨hl_set (fun e => n (e ▸ m)) h, n⟩
theorem Lft.kp {S S1 : List Addr} {H H1 : Hp} (k : Kp S H H1) (m : ∀ a ∈ S, a ∈ S1) : Lft S1 H S1 H1 := fun b o h n => ⟨k b o h fun z => n (m b z), n⟩
theorem Lft.same {S : List Addr} {H H1 : Hp} (k : Same H H1) : Lft S H S H1 := fun b o h n => ⟨k b o h, n⟩
theorem Lft.own {S : List Addr} {H : Hp} {p : Addr} {x : HO} (n : H p = none) : Lft S H (p :: S) (upd H p x) := fun a _ h m => ⟨hl_new h n, fun z => by
  rcases List.mem_cons.mp z with e | e
  · exact ne_of_none h n e
  · exact m e⟩
theorem Lft.sub {S S' : List Addr} {H : Hp} (m : ∀ a ∈ S', a ∈ S) : Lft S H S' H := fun a _ h n => ⟨h, fun z => n (m a z)⟩
/-- plain data -/
inductive O where
  | non | bl (b : Bool) | int (i : Int) | str (x : Str) | tup (os : List O) | lst (os : List O) | dct
mutual
inductive Rep (S : List Addr) (H : Hp) : V → O → Prop
  | non : Rep S H .non .non
  | bl (b : Bool) : Rep S H (.bl b) (.bl b)
  | int (i : Int) : Rep S H (.int i) (.int i)
  | str (x : Str) : Rep S H (.str x) (.str x)
  | tup {a : Addr} {xs : List V} {os : List O} : H a = some (.tup xs) → a ∉ S → RepAll S H xs os → Rep S H (.ref a) (.tup os)
  | lst {a : Addr} {xs : List V} {os : List O} : H a = some (.lst xs) → a ∉ S → RepAll S H xs os → Rep S H (.ref a) (.lst os)
  | dct {a : Addr} {kvs : List (Key × V)} : H a = some (.dK kvs) → a ∉ S → Rep S H (.ref a) .dct
inductive RepAll (S : List Addr) (H : Hp) : List V → List O → Prop
  | nil : RepAll S H [] []
  | cons {v : V} {vs : List V} {o : O} {os : List O} : Rep S H v o → RepAll S H vs os → RepAll S H (v :: vs) (o :: os)
end
mutual
theorem Rep.to {S S' : List Addr} {H H' : Hp} (k : Lft S H S' H') : ∀ {v : V} {o : O}, Rep S H v o → Rep S' H' v o
  | _, _, .non => .non
  | _, _, .bl b => .bl b
  | _, _, .int i => .int i
  | _, _, .str x => .str x
  | _, _, .tup h n r => .tup (k _ _ h n).1 (k _ _ h n).2 (RepAll.to k r)
  | _, _, .lst h n r => .lst (k _ _ h n).1 (k _ _ h n).2 (RepAll.to k r)
  | _, _, .dct h n => .dct (k _ _ h n).1 (k _ _ h n).2
theorem RepAll.to {S S' : List Addr} {H H' : Hp} (k : Lft S H S' H') : ∀ {vs : List V} {os : List O}, RepAll S H vs os → RepAll S' H' vs os
  | _, _, .nil => .nil
  | _, _, .cons r t => .cons (Rep.to k r) (RepAll.to k t)
end
section
variable {S : List Addr} {H : Hp}
theorem RepAll.length : ∀ {vs : List V} {os : List O}, RepAll S H vs os → vs.length = os.length
  | _, _, .nil => rfl
  | _, _, .cons _ t => congrArg (· + 1) (RepAll.length t)
theorem RepAll.get : ∀ {vs : List V} {os : List O} {i : Nat} {v : V}, RepAll S H vs os → vs[i]? = some v → ∃ o, os[i]? = some o ∧ Rep S H v o
  | _, _, _, _, .nil, e => by simp at e
  | _, _, 0, _, .cons r _, e => by simp at e; subst e; exact ⟨_, rfl, r⟩
  | _, _, i + 1, v, .cons _ t, e => by
    obtain ⟨o, h1, h2⟩ := RepAll.get (i := i) (v := v) t (by simpa using e)
    exact ⟨o, by simpa using h1, h2⟩
theorem RepAll.append : ∀ {vs us : List V} {os qs : List O}, RepAll S H vs os → RepAll S H us qs → RepAll S H (vs ++ us) (os ++ qs)
  | _, _, _, _, .nil, s => s
  | _, _, _, _, .cons r t, s => .cons r (RepAll.append t s)
theorem RepAll.take : ∀ {vs : List V} {os : List O} (n : Nat), RepAll S H vs os → RepAll S H (vs.take n) (os.take n)
  | _, _, 0, _ => .nil
  | _, _, _ + 1, .nil => .nil
  | _, _, n + 1, .cons r t => .cons r (RepAll.take n t)
theorem RepAll.drop : ∀ {vs : List V} {os : List O} (n : Nat), RepAll S H vs os → RepAll S H (vs.drop n) (os.drop n)
  | _, _, 0, r => r
  | _, _, _ + 1, .nil => .nil
  | _, _, n + 1, .cons _ t => RepAll.drop n t
theorem RepAll.ints : ∀ (ns : List Int), RepAll S H (ns.map V.int) (ns.map O.int)
  | [] => .nil
  | n :: ns => .cons (.int n) (RepAll.ints ns)
theorem RepAll.ints_inv : ∀ {ns : List Int} {vs : List V}, RepAll S H vs (ns.map O.int) → vs = ns.map V.int
  | [], _, .nil => rfl
  | n :: ns, _, .cons r t => by cases r; rw [RepAll.ints_inv t]; rfl
theorem Rep.tupInv {v : V} {os : List O} (r : Rep S H v (.tup os)) : ∃ a xs, v = .ref a ∧ H a = some (.tup xs) ∧ a ∉ S ∧ RepAll S H xs os := by
  cases r with
  | tup h n t => exact ⟨_, _, rfl, h, n, t⟩
end
/-! ### the drawn state -/
structure StAt (s c : Addr) (H : Hp) (cs : List Int) (j r : Int) : Prop where
  hs : H s = some (.lst [.ref c, .int j, .int r])
  hc : H c = some (.lst (cs.map .int))
  ne : cs ≠ []
  nn : ∀ x ∈ cs, 0 ≤ x
  len : cs.length ≤ 1000
  hj : 0 ≤ j
  hr : 0 ≤ r
  hr' : r < 2147483647
def St (s c : Addr) (H : Hp) : Prop := s ≠ c ∧ ∃ cs j r, StAt s c H cs j r
theorem St.out {s c p : Addr} {H : Hp} (h : St s c H) (n : H p = none) : p ∉ [s, c] := by
  obtain ⟨_, cs, j, r, h⟩ := h
  intro z
  rcases List.mem_cons.mp z with e | z
  · rw [e, h.hs] at n; cases n
  · rw [List.mem_singleton.mp z, h.hc] at n; cases n
theorem St.same {s c : Addr} {H H' : Hp} (h : St s c H) (k : Same H H') : St s c H' := by
  obtain ⟨n, cs, j, r, h⟩ := h
  exact ⟨n, cs, j, r, k _ _ h.hs, k _ _ h.hc, h.ne, h.nn, h.len, h.hj, h.hr, h.hr'⟩
theorem St.new {s c p : Addr} {H : Hp} {x : HO} (h : St s c H) (n : H p = none) : St s c (upd H p x) := h.same (Same.upd_new n)
theorem St.set {s c p : Addr} {H : Hp} {x : HO} (h : St s c H) (n : p ∉ [s, c]) : St s c (upd H p x) := by
  obtain ⟨n0, cs, j, r, h⟩ := h
  exact ⟨n0, cs, j, r, hl_set (fun e => n (by simp [e])) h.hs, hl_set (fun e => n (by simp [e])) h.hc, h.ne, h.nn, h.len, h.hj, h.hr, h.hr'⟩
/-! ### loops and comprehensions -/
section
variable {K : PySem.W.Frag} {D : Ends} {σ : L2.St} {H : Hp} {Q : VK}
def Lp (J : It) (g : TG) (tb : TS) (D : Ends) (σ : L2.St) (H1 : Hp) : Prop := ∃ W : Nat → Nat → L2.St → Hp → Prop, (∃ m, W 0 m σ H1) ∧ ∀ i m σ H, W i m σ H →
  (J.stop i H ∧ D.nx σ H) ∨ (J.go i H ∧ ∃ N : L2.St → Hp → Prop, (∀ σ' H', N σ' H' → ∃ m', m' < m ∧ W (i + 1) m' σ' H') ∧ ∀ x H', J.yld i H x H' → g x σ H' fun σ2 H2 => tb { D with nx := N, ct := N, bk := D.nx } σ2 H2)
theorem r_for {wi : TI} {g : TG} {tb : TS} (h : wi σ H fun J H1 => Lp J g tb D σ H1) : tFor wi g tb D σ H := h
def Rg1 (R : It → Hp → Prop) (vs : List V) (H : Hp) : Prop := ∃ j : Int, vs = [.int j] ∧ -(2 ^ 62) ≤ j ∧ j < 2 ^ 62 ∧ R (Itr 0 j.toNat) H
theorem r_irng1 {ta : TA} {R : It → Hp → Prop} (h : ta σ H (Rg1 R)) : iRng1 ta σ H R := h
theorem r_rg1 {R : It → Hp → Prop} {j : Int} (c : -(2 ^ 62) ≤ j ∧ j < 2 ^ 62) (h : R (Itr 0 j.toNat) H) : Rg1 R [.int j] H := ⟨j, rfl, c.1, c.2, h⟩
def Rg2 (R : It → Hp → Prop) (vs : List V) (H : Hp) : Prop := ∃ i j : Int, vs = [.int i, .int j] ∧ (-(2 ^ 62) ≤ i ∧ i < 2 ^ 62 ∧ -(2 ^ 62) ≤ j ∧ j < 2 ^ 62) ∧ R (Itr i (j - i).toNat) H
theorem r_irng2 {ta : TA} {R : It → Hp → Prop} (h : ta σ H (Rg2 R)) : iRng2 ta σ H R := h
theorem r_rg2 {R : It → Hp → Prop} {i j : Int} (c : -(2 ^ 62) ≤ i ∧ i < 2 ^ 62 ∧ -(2 ^ 62) ≤ j ∧ j < 2 ^ 62) (h : R (Itr i (j - i).toNat) H) : Rg2 R [.int i, .int j] H := ⟨i, j, rfl, c, h⟩
def IlR (K : PySem.W.Frag) (R : It → Hp → Prop) (x : V) (H : Hp) : Prop := ∃ a, x = .ref a ∧ (∃ xs, SqL K H a xs) ∧ R (Itl K a) H
theorem r_ilist {tl : TE} {R : It → Hp → Prop} (h : tl σ H (IlR K R)) : iList K tl σ H R := h
theorem r_il {R : It → Hp → Prop} {a : Addr} {xs : List V} (e : SqL K H a xs) (h : R (Itl K a) H) : IlR K R (.ref a) H := ⟨a, rfl, ⟨xs, e⟩, h⟩
def ItR (K : PySem.W.Frag) (R : It → Hp → Prop) (x : V) (H : Hp) : Prop := ∃ a, x = .ref a ∧ (∃ xs, SqT K H a xs) ∧ R (Itt K a) H
theorem r_itup {tl : TE} {R : It → Hp → Prop} (h : tl σ H (ItR K R)) : iTup K tl σ H R := h
theorem r_it {R : It → Hp → Prop} {a : Addr} {xs : List V} (e : SqT K H a xs) (h : R (Itt K a) H) : ItR K R (.ref a) H := ⟨a, rfl, ⟨xs, e⟩, h⟩
def IzR (K : PySem.W.Frag) (R : It → Hp → Prop) (vs : List V) (H1 : Hp) : Prop := ∃ a b xs ys, vs = [.ref a, .ref b] ∧ ((SqL K H1 a xs ∧ SqL K H1 b ys ∧ R (Itz K a b) H1) ∨ (SqT K H1 a xs ∧ SqT K H1 b ys ∧ R (ItzT K a b) H1))
theorem r_izip {ta : TA} {R : It → Hp → Prop} (h : ta σ H (IzR K R)) : iZipA K ta σ H R := h
theorem r_izt {R : It → Hp → Prop} {a b : Addr} {xs ys : List V} (e1 : SqT K H a xs) (e2 : SqT K H b ys) (h : R (ItzT K a b) H) : IzR K R [.ref a, .ref b] H := ⟨a, b, xs, ys, rfl, .inr ⟨e1, e2, h⟩⟩
theorem lp_by {J : It} {n : Nat} {G : Hp → Prop} {Y : Nat → Hp → V → Hp → Prop} (w : Walk J n G Y) {g : TG} {tb : TS} (Pv : Nat → L2.St → Hp → Prop) (h0 : Pv 0 σ H) (hG : ∀ i σ H, i ≤ n → Pv i σ H → G H)
    (hs : ∀ i x σ H H', i < n → Pv i σ H → Y i H x H' → g x σ H' fun σ2 H2 => tb { D with nx := Pv (i + 1), ct := Pv (i + 1), bk := D.nx } σ2 H2) (hd : ∀ σ H, Pv n σ H → D.nx σ H) : Lp J g tb D σ H := for_it w Pv h0 hG hs hd
/-- ways that meet: what holds of slots and heap where they do -/
theorem r_join {c : TT} {t u : TS} (G : L2.St → Hp → Prop) (h2 : ∀ σ' H', G σ' H' → D.nx σ' H') (h1 : ∀ N : L2.St → Hp → Prop, (∀ σ' H', G σ' H' → N σ' H') → tIfS c t u { D with nx := N } σ H) : tIfS c t u D σ H := h1 D.nx h2
theorem r_joinE {te : TE} (G : V → Hp → Prop) (h2 : ∀ v H', G v H' → Q v H') (h1 : ∀ Q' : VK, (∀ v H', G v H' → Q' v H') → te σ H Q') : te σ H Q := h1 Q h2
theorem r_joinT {te : TT} {R : Bool → Hp → Prop} (G : Bool → Hp → Prop) (h2 : ∀ v H', G v H' → R v H') (h1 : ∀ R' : Bool → Hp → Prop, (∀ v H', G v H' → R' v H') → te σ H R') : te σ H R := h1 R h2
theorem walk_zipT {a b : Addr} {xs ys : List V} {n : Nat} (hn : n = min xs.length ys.length) : Walk (ItzT K a b) n (fun H => SqT K H a xs ∧ SqT K H b ys) (YPair (fun i => xs[i]?) (fun i => ys[i]?)) where
  goes := fun i H hi h => ⟨xs, ys, xs[i]'(by omega), ys[i]'(by omega), h.1, h.2, List.getElem?_eq_getElem (by omega), List.getElem?_eq_getElem (by omega)⟩
  stops := fun H h => ⟨xs, ys, h.1, h.2, by omega⟩
  yields := fun i H x H' _ h y => by
    obtain ⟨T, x1, y1, e1, e2, e3, e4, e5⟩ := y
    exact ⟨T, x1, y1, e1, e2, e3, e4 xs h.1, e5 ys h.2⟩
/-- a comprehension's turns -/
def Lc (J : It) (g : TG) (tt : TT) (te : TE) (vs : List Nat) (σ : L2.St) (D : Addr) (Q : VK) (H1 : Hp) : Prop := ∃ W : Nat → Nat → Hp → Prop, (∃ m, W 0 m (upd H1 D (.lst []))) ∧ ∀ i m H, W i m H →
  (J.stop i H ∧ Q (.ref D) H) ∨ (J.go i H ∧ ∃ Nx : Hp → Prop, (∀ H', Nx H' → ∃ m', m' < m ∧ W (i + 1) m' H') ∧ ∀ x H', J.yld i H x H' → g x (wipe σ vs) H' fun σ2 H2 => wipe σ2 vs = wipe σ vs ∧ tt σ2 H2 fun b H3 =>
    if b = true then te σ2 H3 fun y H4 => ∃ acc, H4 D = some (.lst acc) ∧ acc.length < sizeLine ∧ Nx (upd H4 D (.lst (acc ++ [y]))) else Nx H3)
theorem r_lc {wi : TI} {g : TG} {tt : TT} {te : TE} {vs : List Nat} (h : wi σ H fun J H1 => ∀ D, H1 D = none → Lc J g tt te vs σ D Q H1) : tLc wi g tt te vs σ H Q := h
/-- what an item's part of a turn is to reach: kept with a value, or not kept -/
def LcT (g : TG) (tt : TT) (te : TE) (vs : List Nat) (σ : L2.St) (x : V) (H : Hp) (Y : V → Hp → Prop) (No : Hp → Prop) : Prop :=
  g x (wipe σ vs) H fun σ2 H2 => wipe σ2 vs = wipe σ vs ∧ tt σ2 H2 fun b H3 => if b = true then te σ2 H3 Y else No H3
/-- the list is made of the values kept: R i says what the i-th turn's part is -/
theorem lc_by {J : It} {n : Nat} {G : Hp → Prop} {Yd : Nat → Hp → V → Hp → Prop} (w : Walk J n G Yd) {g : TG} {tt : TT} {te : TE} {vs : List Nat} {D : Addr} (Pv : Nat → Hp → Prop) (h0 : Pv 0 (upd H D (.lst []))) (hG : ∀ i H, i ≤ n → Pv i H → G H)
    (hs : ∀ i x H H', i < n → Pv i H → Yd i H x H' → LcT g tt te vs σ x H' (fun y H4 => ∃ acc, H4 D = some (.lst acc) ∧ acc.length < sizeLine ∧ Pv (i + 1) (upd H4 D (.lst (acc ++ [y])))) (fun H3 => Pv (i + 1) H3)) (hd : ∀ H, Pv n H → Q (.ref D) H) : Lc J g tt te vs σ D Q H := by
  refine ⟨fun i m H => m = n - i ∧ i ≤ n ∧ Pv i H, ⟨n, by simp, Nat.zero_le _, h0⟩, ?_⟩
  rintro i m H ⟨rfl, hi, p⟩
  by_cases hlt : i < n
  · exact .inr ⟨w.goes i H hlt (hG i H hi p), Pv (i + 1), fun H' p' => ⟨n - (i + 1), by omega, rfl, hlt, p'⟩, fun x H' y => hs i x H H' hlt p (w.yields i H x H' hlt (hG i H hi p) y)⟩
  · have e : i = n := by omega
    subst e
    exact .inl ⟨w.stops H (hG _ H hi p), hd H p⟩
/-- every item is kept; its value is told by R, which new objects leave true; the source is left as it is -/
theorem lc_map {J : It} {n : Nat} {G : Hp → Prop} {Yd : Nat → Hp → V → Hp → Prop} (w : Walk J n G Yd) (hn : n ≤ 1000000) {g : TG} {tt : TT} {te : TE} {vs : List Nat} {D : Addr} (nD : H D = none) (R : Nat → V → Hp → Prop) (hR : ∀ i v H H', R i v H → Same H H' → R i v H')
    (hRD : ∀ i v H' acc acc', R i v H' → H' D = some (.lst acc) → R i v (upd H' D (.lst acc'))) (hG : ∀ H', Same H H' → G H') (hY : ∀ i H1 x H2, Yd i H1 x H2 → Same H1 H2)
    (hs : ∀ i x H1 H2 (Y : V → Hp → Prop) (No : Hp → Prop), i < n → Same H H1 → Yd i H1 x H2 → (∀ y H4, Same H2 H4 → R i y H4 → Y y H4) → LcT g tt te vs σ x H2 Y No)
    (hd : ∀ ys H', ys.length = n → Same H H' → H' D = some (.lst ys) → (∀ i y, ys[i]? = some y → R i y H') → Q (.ref D) H') : Lc J g tt te vs σ D Q H := by
  refine lc_by w (fun i H' => Same H H' ∧ ∃ ys : List V, ys.length = i ∧ H' D = some (.lst ys) ∧ ∀ j y, ys[j]? = some y → R j y H') ⟨Same.upd_new nD, [], rfl, upd_same, fun j y e => by simp at e⟩ (fun i H' _ p => hG H' p.1) (fun i x H1 H2 hi p y => ?_) (fun H' p => ?_)
  · obtain ⟨sm, ys, el, eD, hr⟩ := p
    have s2 := hY _ _ _ _ y
    refine hs i x H1 H2 _ _ hi sm y (fun v H4 q1 q2 => ?_)
    have s4 : Same H1 H4 := s2.trans q1
    have e4 : H4 D = some (.lst ys) := s4 _ _ eD
    refine ⟨ys, e4, by rw [el]; exact Nat.lt_of_lt_of_le (Nat.lt_of_lt_of_le hi hn) (by decide), fun b o e => ?_, ys ++ [v], by simp [el], upd_same, fun j y' e => ?_⟩
    · exact hl_set (ne_of_none e nD) (s4 _ _ (sm _ _ e))
    · by_cases hj : j < ys.length
      · rw [List.getElem?_append_left hj] at e
        exact hRD _ _ _ _ _ (hR _ _ _ _ (hr j y' e) s4) e4
      · rw [List.getElem?_append_right (by omega)] at e
        have hj2 : j - ys.length = 0 := by
          cases h : j - ys.length with
          | zero => rfl
          | succ m => rw [h] at e; simp at e
        rw [hj2] at e
        simp at e
        subst e
        have : j = i := by omega
        subst this
        exact hRD _ _ _ _ _ q2 e4
  · obtain ⟨sm, ys, el, eD, hr⟩ := p
    exact hd ys H' el sm eD hr
/-- items are kept or not: t tells which -/
theorem lc_filt {J : It} {n : Nat} {G : Hp → Prop} {Yd : Nat → Hp → V → Hp → Prop} (w : Walk J n G Yd) (hn : n ≤ 1000000) {g : TG} {tt : TT} {te : TE} {vs : List Nat} {D : Addr} (nD : H D = none) (t : Nat → Bool) (hG : ∀ H', Same H H' → G H') (hY : ∀ i H1 x H2, Yd i H1 x H2 → Same H1 H2)
    (hs : ∀ i x H1 H2 (Y : V → Hp → Prop) (No : Hp → Prop), i < n → Same H H1 → Yd i H1 x H2 → (t i = true → ∀ y H4, Same H2 H4 → Y y H4) → (t i = false → ∀ H4, Same H2 H4 → No H4) → LcT g tt te vs σ x H2 Y No)
    (hd : ∀ ys H', ys.isEmpty = (List.range n).all (fun i => !t i) → ys.length ≤ n → Same H H' → H' D = some (.lst ys) → Q (.ref D) H') : Lc J g tt te vs σ D Q H := by
  refine lc_by w (fun i H' => Same H H' ∧ ∃ ys : List V, ys.isEmpty = (List.range i).all (fun i => !t i) ∧ ys.length ≤ i ∧ H' D = some (.lst ys)) ⟨Same.upd_new nD, [], rfl, Nat.le_refl _, upd_same⟩ (fun i H' _ p => hG H' p.1) (fun i x H1 H2 hi p y => ?_) (fun H' p => ?_)
  · obtain ⟨sm, ys, ee, el, eD⟩ := p
    have s2 := hY _ _ _ _ y
    refine hs i x H1 H2 _ _ hi sm y (fun ht v H4 q => ?_) (fun ht H4 q => ?_)
    · have s4 : Same H1 H4 := s2.trans q
      refine ⟨ys, s4 _ _ eD, Nat.lt_of_le_of_lt el (Nat.lt_of_lt_of_le hi (Nat.le_trans hn (by decide))), fun b o e => hl_set (ne_of_none e nD) (s4 _ _ (sm _ _ e)), ys ++ [v], ?_, by simp; omega, upd_same⟩
      rw [List.range_succ, List.all_append, List.all_cons, ht]
      cases ys <;> simp
    · have s4 : Same H1 H4 := s2.trans q
      refine ⟨sm.trans s4, ys, ?_, by omega, s4 _ _ eD⟩
      rw [List.range_succ, List.all_append, List.all_cons, ht, ee]
      simp
  · obtain ⟨sm, ys, ee, el, eD⟩ := p
    exact hd ys H' ee el sm eD
theorem range_all {α : Type} (f : α → Bool) (d : α) : ∀ os : List α, (List.range os.length).all (fun i => f (os.getD i d)) = os.all f
  | [] => rfl
  | o :: os => by
    rw [List.length_cons, List.range_succ_eq_map, List.all_cons, List.all_map, List.all_cons, ← range_all f d os]
    rfl
end
/-! ### the rules with the written part told -/
section
variable {X : Cx} {K : PySem.W.Frag} {e l tg : Expr} {tl te : TE} {t ta : TA}
theorem ix_listK (q : X.K = K := by rfl) : IxR X (rIxL K) := q ▸ ix_list
theorem ix_tupK (q : X.K = K := by rfl) : IxR X (rIxT K) := q ▸ ix_tup
theorem pi_listK (h : PE X l tl) (q : X.K = K := by rfl) : PI X tg l (iList K tl) := q ▸ pi_list h
theorem pi_tupK (h : PE X l tl) (q : X.K = K := by rfl) : PI X tg l (iTup K tl) := q ▸ pi_tup h
theorem cr_lenK (q : X.K = K := by rfl) : CallR X (.builtin "len") (rLen K) := q ▸ cr_len
theorem cr_listOfK (q : X.K = K := by rfl) : CallR X (.type "list") (rListOf K) := q ▸ cr_listOf
theorem cr_tupOfK (q : X.K = K := by rfl) : CallR X (.type "tuple") (rTupOf K) := q ▸ cr_tupOf
theorem cr_allK (hc : X.calm = true) (q : X.K = K := by rfl) : CallR X (.builtin "all") (rAll K) := q ▸ cr_all hc
theorem cr_sumK (hc : X.calm = true) (q : X.K = K := by rfl) : CallR X (.builtin "sum") (rSum K) := q ▸ cr_sum hc
theorem cr_isiK (q : X.K = K := by rfl) : CallR X (.builtin "isinstance") (rIsi K) := q ▸ call_isi
theorem sl_listK (q : X.K = K := by rfl) : SlR X (rSlL K) := q ▸ sl_list
theorem sl_tupAK (q : X.K = K := by rfl) : SlR X (rSlA K) := q ▸ sl_tupA
theorem op_catAK (q : X.K = K := by rfl) : OpR X (binaryOp .Add) (rCatA K) := q ▸ op_catA
theorem castBM {e : Expr} {T : String} {r : V → List V → Hp → VK → Prop} {to : TE} (h : PE X e (tBM X.K T r to t)) (q : X.K = K := by rfl) : PE X e (tBM K T r to t) := q ▸ h
theorem castBM0 {e : Expr} {T : String} {r : V → List V → Hp → VK → Prop} {to : TE} (h : PE X e (tBM0 X.K T r to)) (q : X.K = K := by rfl) : PE X e (tBM0 K T r to) := q ▸ h
theorem castPI {iter : Expr} {wi : PySem.W.Frag → TI} (h : PI X tg iter (wi X.K)) (q : X.K = K := by rfl) : PI X tg iter (wi K) := q ▸ h
theorem castPG {n : Nat} {tg : Expr} {g : TGs} (h : PG X tg (gTup X.K n g)) (q : X.K = K := by rfl) : PG X tg (gTup K n g) := q ▸ h
end
/-! ### calls by keywords alone; keywords in any order -/
theorem pe_callK0 {X : Cx} {CX : CXT} {k : Nat} {f : Addr} {fd : FuncData} {ps ks : List Str} {sp : Sp} {E : XK} {x : Str} {p pos : Pos} {kws : List Keyword} {tk : TA} {g : List Value → List Value → List Value} {gV : List V → List V → List V}
    (F : FnOk X.prog X.w X.K X.mg X.base CX k f fd ps sp) (hr : Room k X.A) (hg : Gl X x) (hm : X.mg x = some (.ref f)) (hk : PySem.W.keepIn X.K (.ref f) = true) (hb : KBinds X.K fd ps ks g gV) (hx : Passes CX X E)
    (hkw : PK X kws tk) (hall : (backToKw pos (keywordEach kws X.env)).all (·.1.isSome) = true := by rfl) (hks : (backToKw pos (keywordEach kws X.env)).filterMap (·.1) = ks := by rfl)
    (hdb : (x == ("__debug__" : Str)) = false := by decide) (hpl : ((backTo pos (starEach [] X.env)).any (·.1) || (backToKw pos (keywordEach kws X.env)).any (·.1.isNone)) = false := by rfl) :
    PE X (.Call (.Name x p) [] kws pos) (tCallK sp gV E tNil tk) := by
  refine ⟨fun pins s σ H Q I h => wpAny_Call_Name_kw (ld_glob I hg hm ?_ hdb)⟩
  refine PySem.W.callWith_KW0 (h₀ := X.base) I.ok.mod.kin hk hall (thn (hkw.run pos pins s σ H _ I h) fun ws s2 ⟨zs, H2, I2, rz, q2⟩ => ⟨I2.kIn, ?_⟩) hpl
  rw [hks]
  exact run_fnk (us := []) F hr hb hx I2 .nil rz q2
def permV (na nb : Nat) (is : List Nat) (vs zs : List V) : List V := if vs.length = na ∧ zs.length = nb then is.map fun i => (vs ++ zs).getD i .non else []
def permU (na nb : Nat) (is : List Nat) (vs zs : List Value) : List Value := if vs.length = na ∧ zs.length = nb then is.map fun i => (vs ++ zs).getD i .none else []
theorem vals_getD : ∀ {xs : List V} {us : List Value} (i : Nat), Vals xs us → RelV (xs.getD i .non) (us.getD i .none)
  | _, _, _, .nil => rfl
  | _, _, 0, .cons r _ => r
  | _, _, i + 1, .cons _ t => by
    have := vals_getD i t
    simpa using this
theorem vals_map {xs : List V} {us : List Value} (r : Vals xs us) : ∀ is : List Nat, Vals (is.map fun i => xs.getD i .non) (is.map fun i => us.getD i .none)
  | [] => .nil
  | i :: is => .cons (vals_getD i r) (vals_map r is)
theorem kb_perm {K : PySem.W.Frag} {fd : FuncData} {ps ks : List Str} {us0 ws0 : Nat} {is : List Nat} (h0 : ps ≠ [])
    (h : ∀ (us ws : List Value), us.length = us0 → ws.length = ws0 → ∀ s : Shared, BindsTo s fd ⟨us, ks.zip ws⟩ (ps.zip (is.map fun i => (us ++ ws).getD i .none))) : KBinds K fd ps ks (permU us0 ws0 is) (permV us0 ws0 is) where
  to := fun s us ws _ hl => by
    unfold permU at hl ⊢
    by_cases c : us.length = us0 ∧ ws.length = ws0
    · rw [if_pos c]
      exact h us ws c.1 c.2 s
    · rw [if_neg c] at hl
      cases ps with
      | nil => exact absurd rfl h0
      | cons _ _ => simp at hl
  rel := fun {vs us zs ws} r1 r2 => by
    unfold permU permV
    rw [r1.length, r2.length]
    by_cases c : us.length = us0 ∧ ws.length = ws0
    · rw [if_pos c, if_pos c]
      exact vals_map (r1.append r2) is
    · rw [if_neg c, if_neg c]
      exact .nil
section
variable {K : PySem.W.Frag} {D : Ends} {σ : L2.St} {H : Hp} {Q : VK}
theorem r_callk {sp : Sp} {gV : List V → List V → List V} {E : XK} {t tk : TA} (h : t σ H fun vs H1 => tk σ H1 fun zs H2 => sp (gV vs zs) H2 Q E) : tCallK sp gV E t tk σ H Q := h
theorem r_perm {sp : Sp} {E : XK} {na nb : Nat} {is : List Nat} {vs zs : List V} (h1 : vs.length = na) (h2 : zs.length = nb) (h : sp (is.map fun i => (vs ++ zs).getD i .non) H Q E) : sp (permV na nb is vs zs) H Q E := by
  unfold permV; rw [if_pos ⟨h1, h2⟩]; exact h
end
theorem hu_of64 {A : Around} {k : Nat} (hr : Room k A) : A.units + 64 < cLine := hr.units
/-! ### against the empty list, the empty tuple -/
def rNil (K : PySem.W.Frag) (g : Bool → Bool) : R2 := fun x y H Q => ∃ a b xs, x = .ref a ∧ y = .ref b ∧ SqL K H a xs ∧ SqL K H b [] ∧ Q (.bl (g xs.isEmpty)) H
def rNilT (K : PySem.W.Frag) (g : Bool → Bool) : R2 := fun x y H Q => ∃ a b xs, x = .ref a ∧ y = .ref b ∧ SqT K H a xs ∧ SqT K H b [] ∧ Q (.bl (g xs.isEmpty)) H
theorem op_eqNil {X : Cx} (hu : X.A.units + 64 < cLine) : OpR X (compareOp .Eq) (rNil X.K id) := by
  intro pins s σ H x y v u Q I rx ry h
  obtain ⟨a, b, xs, rfl, rfl, h1, h2, q⟩ := h
  cases rx; cases ry
  obtain ⟨its, rv, p1, _⟩ := I.list h1
  obtain ⟨its2, rv2, p2, _⟩ := I.list h2
  cases rv2
  have e1 : xs.length = its.length := rv.length
  cases xs with
  | nil =>
    cases rv
    exact PySem.SeqAt.eq_listAt (e := fun _ => true) p1.isList p2.isList rfl (by omega) (fun j h => absurd h (Nat.not_lt_zero j)) ⟨.bl _, H, I, rfl, q⟩
  | cons z zs =>
    cases its with
    | nil => simp at e1
    | cons _ _ => exact PySem.SeqAt.eq_list_lengthsAt p1.isList p2.isList rfl (by omega) ⟨.bl false, H, I, rfl, q⟩
theorem op_neNil {X : Cx} (hu : X.A.units + 64 < cLine) : OpR X (compareOp .NotEq) (rNil X.K not) := by
  intro pins s σ H x y v u Q I rx ry h
  obtain ⟨a, b, xs, rfl, rfl, h1, h2, q⟩ := h
  cases rx; cases ry
  obtain ⟨its, rv, p1, _⟩ := I.list h1
  obtain ⟨its2, rv2, p2, _⟩ := I.list h2
  cases rv2
  have e1 : xs.length = its.length := rv.length
  cases xs with
  | nil =>
    cases rv
    exact PySem.SeqAt.RcNeAt.lists (e := fun _ => true) p1.isList p2.isList rfl (by omega) (fun j h => absurd h (Nat.not_lt_zero j)) _ _ _ _ ⟨.bl _, H, I, rfl, q⟩
  | cons z zs =>
    cases its with
    | nil => simp at e1
    | cons _ _ => exact PySem.SeqAt.RcNeAt.lists_lengths p1.isList p2.isList rfl (by omega) _ _ _ _ ⟨.bl true, H, I, rfl, q⟩
theorem op_eqNilT {X : Cx} (hu : X.A.units + 64 < cLine) : OpR X (compareOp .Eq) (rNilT X.K id) := by
  intro pins s σ H x y v u Q I rx ry h
  obtain ⟨a, b, xs, rfl, rfl, h1, h2, q⟩ := h
  cases rx; cases ry
  obtain ⟨its, rv, p1, _⟩ := I.tuple h1
  obtain ⟨its2, rv2, p2, _⟩ := I.tuple h2
  cases rv2
  have e1 : xs.length = its.length := rv.length
  refine PySem.SeqAt.eq_tupleAt (e := fun _ => true) (show s.heap.IsTuple a its.toArray from p1) (show s.heap.IsTuple b #[] from p2) (by omega) (fun j _ h => absurd h (Nat.not_lt_zero j)) ⟨.bl xs.isEmpty, H, I, ?_, q⟩
  cases xs with
  | nil =>
    cases rv
    rfl
  | cons z zs =>
    cases its with
    | nil => simp at e1
    | cons _ _ => rfl
theorem op_eqNilK {X : Cx} {K : PySem.W.Frag} (hu : X.A.units + 64 < cLine) (q : X.K = K := by rfl) : OpR X (compareOp .Eq) (rNil K id) := q ▸ op_eqNil hu
theorem op_neNilK {X : Cx} {K : PySem.W.Frag} (hu : X.A.units + 64 < cLine) (q : X.K = K := by rfl) : OpR X (compareOp .NotEq) (rNil K not) := q ▸ op_neNil hu
theorem op_eqNilTK {X : Cx} {K : PySem.W.Frag} (hu : X.A.units + 64 < cLine) (q : X.K = K := by rfl) : OpR X (compareOp .Eq) (rNilT K id) := q ▸ op_eqNilT hu
section
variable {K : PySem.W.Frag} {H : Hp} {Q : VK}
theorem r_nilL {g : Bool → Bool} {a b : Addr} {xs : List V} (h1 : SqL K H a xs) (h2 : SqL K H b []) (q : Q (.bl (g xs.isEmpty)) H) : rNil K g (.ref a) (.ref b) H Q := ⟨a, b, xs, rfl, rfl, h1, h2, q⟩
theorem r_nilT {g : Bool → Bool} {a b : Addr} {xs : List V} (h1 : SqT K H a xs) (h2 : SqT K H b []) (q : Q (.bl (g xs.isEmpty)) H) : rNilT K g (.ref a) (.ref b) H Q := ⟨a, b, xs, rfl, rfl, h1, h2, q⟩
end
theorem kt_NoneType_int {K : PySem.W.Frag} : PySem.W.kitOne K (.type "NoneType") (.type "int") = some false := kit_ty (by decide +kernel)
theorem kt_bool_int {K : PySem.W.Frag} : PySem.W.kitOne K (.type "bool") (.type "int") = some true := kit_ty (by decide +kernel)
theorem kt_int_int {K : PySem.W.Frag} : PySem.W.kitOne K (.type "int") (.type "int") = some true := kit_ty (by decide +kernel)
theorem kt_str_int {K : PySem.W.Frag} : PySem.W.kitOne K (.type "str") (.type "int") = some false := kit_ty (by decide +kernel)
theorem kt_tuple_int {K : PySem.W.Frag} : PySem.W.kitOne K (.type "tuple") (.type "int") = some false := kit_ty (by decide +kernel)
theorem kt_list_int {K : PySem.W.Frag} : PySem.W.kitOne K (.type "list") (.type "int") = some false := kit_ty (by decide +kernel)
theorem kt_dict_int {K : PySem.W.Frag} : PySem.W.kitOne K (.type "dict") (.type "int") = some false := kit_ty (by decide +kernel)
theorem kt_NoneType_bool {K : PySem.W.Frag} : PySem.W.kitOne K (.type "NoneType") (.type "bool") = some false := kit_ty (by decide +kernel)
theorem kt_bool_bool {K : PySem.W.Frag} : PySem.W.kitOne K (.type "bool") (.type "bool") = some true := kit_ty (by decide +kernel)
theorem kt_int_bool {K : PySem.W.Frag} : PySem.W.kitOne K (.type "int") (.type "bool") = some false := kit_ty (by decide +kernel)
theorem kt_str_bool {K : PySem.W.Frag} : PySem.W.kitOne K (.type "str") (.type "bool") = some false := kit_ty (by decide +kernel)
theorem kt_tuple_bool {K : PySem.W.Frag} : PySem.W.kitOne K (.type "tuple") (.type "bool") = some false := kit_ty (by decide +kernel)
theorem kt_list_bool {K : PySem.W.Frag} : PySem.W.kitOne K (.type "list") (.type "bool") = some false := kit_ty (by decide +kernel)
theorem kt_dict_bool {K : PySem.W.Frag} : PySem.W.kitOne K (.type "dict") (.type "bool") = some false := kit_ty (by decide +kernel)
theorem kt_NoneType_tuple {K : PySem.W.Frag} : PySem.W.kitOne K (.type "NoneType") (.type "tuple") = some false := kit_ty (by decide +kernel)
theorem kt_bool_tuple {K : PySem.W.Frag} : PySem.W.kitOne K (.type "bool") (.type "tuple") = some false := kit_ty (by decide +kernel)
theorem kt_int_tuple {K : PySem.W.Frag} : PySem.W.kitOne K (.type "int") (.type "tuple") = some false := kit_ty (by decide +kernel)
theorem kt_str_tuple {K : PySem.W.Frag} : PySem.W.kitOne K (.type "str") (.type "tuple") = some false := kit_ty (by decide +kernel)
theorem kt_tuple_tuple {K : PySem.W.Frag} : PySem.W.kitOne K (.type "tuple") (.type "tuple") = some true := kit_ty (by decide +kernel)
theorem kt_list_tuple {K : PySem.W.Frag} : PySem.W.kitOne K (.type "list") (.type "tuple") = some false := kit_ty (by decide +kernel)
theorem kt_dict_tuple {K : PySem.W.Frag} : PySem.W.kitOne K (.type "dict") (.type "tuple") = some false := kit_ty (by decide +kernel)
theorem kt_NoneType_str {K : PySem.W.Frag} : PySem.W.kitOne K (.type "NoneType") (.type "str") = some false := kit_ty (by decide +kernel)
theorem kt_bool_str {K : PySem.W.Frag} : PySem.W.kitOne K (.type "bool") (.type "str") = some false := kit_ty (by decide +kernel)
theorem kt_int_str {K : PySem.W.Frag} : PySem.W.kitOne K (.type "int") (.type "str") = some false := kit_ty (by decide +kernel)
theorem kt_str_str {K : PySem.W.Frag} : PySem.W.kitOne K (.type "str") (.type "str") = some true := kit_ty (by decide +kernel)
theorem kt_tuple_str {K : PySem.W.Frag} : PySem.W.kitOne K (.type "tuple") (.type "str") = some false := kit_ty (by decide +kernel)
theorem kt_list_str {K : PySem.W.Frag} : PySem.W.kitOne K (.type "list") (.type "str") = some false := kit_ty (by decide +kernel)
theorem kt_dict_str {K : PySem.W.Frag} : PySem.W.kitOne K (.type "dict") (.type "str") = some false := kit_ty (by decide +kernel)
theorem kt_NoneType_list {K : PySem.W.Frag} : PySem.W.kitOne K (.type "NoneType") (.type "list") = some false := kit_ty (by decide +kernel)
theorem kt_bool_list {K : PySem.W.Frag} : PySem.W.kitOne K (.type "bool") (.type "list") = some false := kit_ty (by decide +kernel)
theorem kt_int_list {K : PySem.W.Frag} : PySem.W.kitOne K (.type "int") (.type "list") = some false := kit_ty (by decide +kernel)
theorem kt_str_list {K : PySem.W.Frag} : PySem.W.kitOne K (.type "str") (.type "list") = some false := kit_ty (by decide +kernel)
theorem kt_tuple_list {K : PySem.W.Frag} : PySem.W.kitOne K (.type "tuple") (.type "list") = some false := kit_ty (by decide +kernel)
theorem kt_list_list {K : PySem.W.Frag} : PySem.W.kitOne K (.type "list") (.type "list") = some true := kit_ty (by decide +kernel)
theorem kt_dict_list {K : PySem.W.Frag} : PySem.W.kitOne K (.type "dict") (.type "list") = some false := kit_ty (by decide +kernel)
theorem kt_NoneType_dict {K : PySem.W.Frag} : PySem.W.kitOne K (.type "NoneType") (.type "dict") = some false := kit_ty (by decide +kernel)
theorem kt_bool_dict {K : PySem.W.Frag} : PySem.W.kitOne K (.type "bool") (.type "dict") = some false := kit_ty (by decide +kernel)
theorem kt_int_dict {K : PySem.W.Frag} : PySem.W.kitOne K (.type "int") (.type "dict") = some false := kit_ty (by decide +kernel)
theorem kt_str_dict {K : PySem.W.Frag} : PySem.W.kitOne K (.type "str") (.type "dict") = some false := kit_ty (by decide +kernel)
theorem kt_tuple_dict {K : PySem.W.Frag} : PySem.W.kitOne K (.type "tuple") (.type "dict") = some false := kit_ty (by decide +kernel)
theorem kt_list_dict {K : PySem.W.Frag} : PySem.W.kitOne K (.type "list") (.type "dict") = some false := kit_ty (by decide +kernel)
theorem kt_dict_dict {K : PySem.W.Frag} : PySem.W.kitOne K (.type "dict") (.type "dict") = some true := kit_ty (by decide +kernel)
local macro_rules | `(tactic| walk_at "ne") => `(tactic| first | assumption | (refine' Ne.symm ?h1; (case h1 => assumption)))
local macro_rules | `(tactic| walk_at "nin") => `(tactic| first | assumption | exact List.not_mem_nil)
local macro_rules | `(tactic| walk_at "hl") => `(tactic| first
  | assumption
  | exact upd_same
  | (refine' hl_new ?h1 ?h2; (case h2 => assumption); (case h1 => walk_at "hl"))
  | (refine' hl_set ?h2 ?h1; (case h2 => walk_at "ne"); (case h1 => walk_at "hl"))
  | (refine' hl_same ?h2 ?h1; (case h2 => assumption); (case h1 => walk_at "hl"))
  | (refine' hl_kp ?h2 ?h3 ?h1; (case h2 => assumption); (case h3 => walk_at "nin"); (case h1 => walk_at "hl")))
local macro_rules | `(tactic| walk_at "sq") => `(tactic| first | assumption | (refine' SqL.of ?h1; (case h1 => walk_at "hl")) | (refine' SqT.of ?h1; (case h1 => walk_at "hl")))
local macro_rules | `(tactic| walk_at "sc") => `(tactic| first | assumption | omega | (dsimp only; omega) | decide | exact .inl ⟨by omega, by omega⟩ | exact .inr ⟨by omega, by omega⟩ | exact ⟨by omega, by decide⟩)
local macro_rules | `(tactic| walk_at "sz") => `(tactic| first | assumption | ((try simp only [List.length_map, List.length_append, List.length_cons, List.length_nil]); have : (1000000 : Nat) ≤ sizeLine := (by decide); omega))
local macro_rules | `(tactic| walk_at "ty") => `(tactic| first | assumption | exact TyX.base (.int _) | exact TyX.base (.bl _) | exact TyX.base .non | exact TyX.base (.str _) | (refine' TyX.base (.tup ?h1); (case h1 => walk_at "hl")) | (refine' TyX.base (.lst ?h1); (case h1 => walk_at "hl")) | (refine' TyX.base (.dK ?h1); (case h1 => walk_at "hl")))
local macro_rules | `(tactic| walk_at "mem") => `(tactic| first | assumption | (simp; done) | (intro _ h; simp at h ⊢; first | exact h | exact .inr h | exact .inr (.inr h) | (rcases h with h | h <;> simp [h])))
local macro_rules | `(tactic| walk_at "stt") => `(tactic| first | assumption | (refine' St.new ?h1 ?h2; (case h2 => assumption); (case h1 => walk_at "stt")) | (refine' St.set ?h1 ?h2; (case h2 => assumption); (case h1 => walk_at "stt")) | (refine' St.same ?h1 ?h2; (case h2 => assumption); (case h1 => walk_at "stt")))
local macro_rules | `(tactic| walk_at "in") => `(tactic| first | assumption | exact List.mem_cons_self | exact List.mem_cons_of_mem _ List.mem_cons_self | exact List.mem_cons_of_mem _ (List.mem_cons_of_mem _ List.mem_cons_self))
local macro_rules | `(tactic| walk_at "kp") => `(tactic| first
  | exact Kp.refl
  | assumption
  | (refine' Kp.trans ?h1 (Kp.new ?h2); (case h2 => assumption); (case h1 => walk_at "kp"))
  | (refine' Kp.trans ?h1 (Kp.set ?h2); (case h2 => walk_at "in"); (case h1 => walk_at "kp"))
  | (refine' Kp.own ?h1 ?h2; (case h2 => assumption); (case h1 => walk_at "kp"))
  | (refine' Kp.trans ?h1 (Kp.sub ?h2 ?h3); (case h2 => assumption); (case h3 => walk_at "mem"); (case h1 => walk_at "kp"))
  | (refine' Kp.trans ?h1 (Kp.ofSame ?h2); (case h2 => assumption); (case h1 => walk_at "kp")))
local macro_rules | `(tactic| walk_at "sm") => `(tactic| first
  | exact Same.refl _
  | assumption
  | (refine' Same.trans ?h1 (Same.upd_new ?h2); (case h2 => assumption); (case h1 => walk_at "sm"))
  | (refine' Same.trans ?h1 ?h2; (case h2 => assumption); (case h1 => walk_at "sm")))
local macro_rules | `(tactic| walk_at "lf") => `(tactic| first
  | exact Lft.refl
  | (refine' Lft.trans ?h1 (Lft.new ?h2); (case h2 => assumption); (case h1 => walk_at "lf"))
  | (refine' Lft.trans ?h1 (Lft.set ?h2); (case h2 => walk_at "in"); (case h1 => walk_at "lf"))
  | (refine' Lft.trans ?h1 (Lft.kp ?h2 ?h3); (case h2 => assumption); (case h3 => walk_at "mem"); (case h1 => walk_at "lf"))
  | (refine' Lft.trans ?h1 (Lft.same ?h2); (case h2 => assumption); (case h1 => walk_at "lf"))
  | (refine' Lft.trans ?h1 (Lft.own ?h2); (case h2 => assumption); (case h1 => walk_at "lf")))
local macro_rules | `(tactic| walk_at "kt") => `(tactic| first | exact kt_NoneType_int | exact kt_bool_int | exact kt_int_int | exact kt_str_int | exact kt_tuple_int | exact kt_list_int | exact kt_dict_int | exact kt_NoneType_bool | exact kt_bool_bool | exact kt_int_bool | exact kt_str_bool | exact kt_tuple_bool | exact kt_list_bool | exact kt_dict_bool | exact kt_NoneType_tuple | exact kt_bool_tuple | exact kt_int_tuple | exact kt_str_tuple | exact kt_tuple_tuple | exact kt_list_tuple | exact kt_dict_tuple | exact kt_NoneType_str | exact kt_bool_str | exact kt_int_str | exact kt_str_str | exact kt_tuple_str | exact kt_list_str | exact kt_dict_str | exact kt_NoneType_list | exact kt_bool_list | exact kt_int_list | exact kt_str_list | exact kt_tuple_list | exact kt_list_list | exact kt_dict_list | exact kt_NoneType_dict | exact kt_bool_dict | exact kt_int_dict | exact kt_str_dict | exact kt_tuple_dict | exact kt_list_dict | exact kt_dict_dict)
local macro_rules | `(tactic| walk_at "st1") => `(tactic| first
  | with_reducible refine r_seq ?_
  | with_reducible refine r_for ?_
  | with_reducible refine r_irng1 ?_
  | ((with_reducible refine r_rg1 ?e1 ?_); (case e1 => omega))
  | with_reducible refine r_irng2 ?_
  | ((with_reducible refine r_rg2 ?e1 ?_); (case e1 => omega))
  | with_reducible refine r_ilist ?_
  | ((with_reducible refine' r_il ?e1 ?_); (case e1 => walk_at "sq"))
  | with_reducible refine r_itup ?_
  | ((with_reducible refine' r_it ?e1 ?_); (case e1 => walk_at "sq"))
  | with_reducible refine r_izip ?_
  | ((with_reducible refine' r_izt ?e1 ?e2 ?_); (case e1 => walk_at "sq"); (case e2 => walk_at "sq"))
  | with_reducible refine r_lc ?_
  | with_reducible refine r_tand ?_
  | with_reducible refine r_tor ?_
  | with_reducible refine r_tnot ?_
  | with_reducible refine r_andv ?_
  | with_reducible refine r_orv ?_
  | with_reducible refine r_notv ?_
  | with_reducible refine r_chain ?_
  | with_reducible refine' r_t ?_
  | with_reducible refine' r_f ?_
  | with_reducible refine r_bm ?_
  | with_reducible refine r_tb ?_
  | with_reducible refine r_yes ?_
  | ((with_reducible refine r_sz ?e1 ?_); (case e1 => rfl))
  | with_reducible refine r_sl ?_
  | ((with_reducible refine' r_sll ?e1 ?_); (case e1 => walk_at "sq"))
  | with_reducible refine r_nopart ?_
  | with_reducible refine r_part ?_
  | with_reducible refine r_parti ?_
  | with_reducible refine r_callk ?_
  | with_reducible refine r_perm (by rfl) (by rfl) ?_
  | ((with_reducible refine' r_nilL ?e1 ?e2 ?_); (case e1 => walk_at "sq"); (case e2 => walk_at "sq"))
  | ((with_reducible refine' r_nilT ?e1 ?e2 ?_); (case e1 => walk_at "sq"); (case e2 => walk_at "sq"))
  | ((with_reducible refine' r_app0 ?e1 ?e2 ?_); (case e1 => walk_at "hl"); (case e2 => walk_at "sz"))
  | ((with_reducible refine' r_ty ?e1 ?_); (case e1 => walk_at "hl"))
  | ((with_reducible refine' r_all ?e1 ?_); (case e1 => walk_at "sq"))
  | ((with_reducible refine' r_sum ?e1 ?_); (case e1 => walk_at "sq"))
  | ((with_reducible refine' r_isi ?e1 ?e2 ?e3 ?_); (case e1 => exact .ty _); (case e2 => walk_at "ty"); (case e3 => walk_at "kt"))
  | with_reducible refine r_asg ?_
  | with_reducible refine r_gname ?_
  | ((with_reducible refine' r_var ?e1 ?_); (case e1 => rfl))
  | with_reducible refine r_c ?_
  | with_reducible refine r_op ?_
  | with_reducible refine r_i0 ?_
  | ((with_reducible refine' r_i ?e1 ?_); (case e1 => walk_at "sc"))
  | ((with_reducible refine' r_ixl ?e1 ?e2 ?_); (case e1 => walk_at "sq"); (case e2 => first | assumption | rfl))
  | ((with_reducible refine' r_ixt ?e1 ?e2 ?_); (case e1 => walk_at "sq"); (case e2 => first | assumption | rfl))
  | with_reducible refine r_cb ?_
  | with_reducible refine r_cons ?_
  | with_reducible refine r_nil ?_
  | ((with_reducible refine' r_len ?e1 ?_); (case e1 => walk_at "sq"))
  | ((with_reducible refine' r_lent ?e1 ?_); (case e1 => walk_at "sq"))
  | with_reducible refine r_abs ?_
  | ((with_reducible refine' r_listl ?e1 ?_); (case e1 => walk_at "sq"))
  | ((with_reducible refine' r_listt ?e1 ?_); (case e1 => walk_at "sq"))
  | ((with_reducible refine' r_tupl ?e1 ?_); (case e1 => walk_at "sq"))
  | ((with_reducible refine' r_tupt ?e1 ?_); (case e1 => walk_at "sq"))
  | with_reducible refine r_ife ?_
  | with_reducible refine r_test ?_
  | with_reducible refine r_bl ?_
  | with_reducible refine r_ret ?_
  | with_reducible refine r_gsub ?_
  | ((with_reducible refine' r_setl ?e1 ?e2 ?_); (case e1 => walk_at "hl"); (case e2 => first | assumption | rfl))
  | with_reducible refine r_next ?_
  | with_reducible refine r_call ?_
  | with_reducible refine r_lst ?_
  | with_reducible refine r_tup ?_
  | with_reducible refine r_drop ?_
  | ((with_reducible refine' r_eq ?e1 ?_); (case e1 => rfl))
  | ((with_reducible refine' r_ne ?e1 ?_); (case e1 => rfl)))
local macro_rules | `(tactic| walk_at "st") => `(tactic| repeat (walk_at "st1"))
local macro_rules | `(tactic| walk_at "if") => `(tactic| ((first | refine r_if ?_ | (simp only []; refine r_if ?_)); walk_at "st"))
/-! ### len(set(texts)): how many unlike ones there are -/
def Dist (xs : List Str) (i c : Nat) : Prop := c ≤ i ∧ (c = i ↔ (xs.take i).Nodup)
def SetI (P : Program) (w : World) (h : Heap) (S : Addr) (xs : List Str) (i : Nat) : Prop := ∃ c, Dist xs i c ∧ h.SetOf (PySem.strKind P w) S (fun k => decide (k ∈ xs.take i)) c
theorem SetI.to {P : Program} {w : World} {h h' : Heap} {S : Addr} {xs : List Str} {i : Nat} (z : SetI P w h S xs i) (k : ∀ o, h.get? S = some o → h'.get? S = some o) : SetI P w h' S xs i := by
  obtain ⟨c, d, o, es, ep, tb, ho, rest⟩ := z
  exact ⟨c, d, o, es, ep, tb, k o ho, rest⟩
theorem Dist.step {xs : List Str} {i c : Nat} {x : Str} (d : Dist xs i c) (e : xs[i]? = some x) : Dist xs (i + 1) (if decide (x ∈ xs.take i) = true then c else c + 1) := by
  have tk : xs.take (i + 1) = xs.take i ++ [x] := by rw [List.take_succ, e]; rfl
  unfold Dist at d ⊢
  rw [tk]
  by_cases m : x ∈ xs.take i
  · rw [if_pos (decide_eq_true m)]
    refine ⟨by omega, fun z => by omega, fun nd => ?_⟩
    exact absurd rfl ((List.nodup_append.mp nd).2.2 x m x (by simp))
  · rw [if_neg fun z => m (of_decide_eq_true z)]
    refine ⟨by omega, fun z => ?_, fun nd => ?_⟩
    · refine List.nodup_append.mpr ⟨d.2.mp (by omega), by simp, fun a ha b hb e => m ?_⟩
      rw [← List.mem_singleton.mp hb, ← e]; exact ha
    · have := d.2.mpr (List.nodup_append.mp nd).1
      omega
section
variable {P : Program} {w : World} {A : Around} {R : Result → Shared → Prop} {I : Addr} {fp wr : List Addr} {G : Array GenState → Array GenState → Prop} {n : Nat} {Pv : Nat → Value → Prop} {St : Nat → Shared → Prop}
theorem set_loopS (W : WalksS P w A.in1 I fp wr G n Pv St) {S : Addr} (out : S ∉ fp) {xs : List Str} (hl : xs.length = n) (hb : n + 1 < scanBound) (hv : ∀ i v, Pv i v → ∃ x t, xs[i]? = some x ∧ v = .str x t)
    : ∀ (k i : Nat) (s : Shared), i + k = n → St i s → SetI P w s.heap S xs i → (∀ s', Moved (S :: wr) G s s' → SetI P w s'.heap S xs n → R (.ok (.ret .none)) s') →
      codeAny (model P w) A (.builtin "set.update.loop" ⟨[.ref S, .ref I], []⟩) R s := by
  have outw : S ∉ wr := fun z => out (W.sub _ z)
  have grow : ∀ b ∈ wr, b ∈ S :: wr := fun b z => .tail _ z
  intro k
  induction k with
  | zero =>
    intro i s hk st z fin
    obtain rfl : i = n := hk
    refine codeAny_builtin F.entry_set_update_loop ?_
    rw [Around.under_plainId F.plain_set_update_loop _]
    show wpAny _ _ (pyNext _ >>= _) _ _ _
    exact wpAny_bind (W.done s _ _ st fun s2 mv => wpAny_pure (fin s2 (mv.mono grow) (z.to fun o => mv.heap S o outw)))
  | succ k ih =>
    intro i s hk st z fin
    refine codeAny_builtin F.entry_set_update_loop ?_
    rw [Around.under_plainId F.plain_set_update_loop _]
    show wpAny _ _ (pyNext _ >>= _) _ _ _
    refine wpAny_bind (W.item i s _ _ (by omega) st fun v s2 pv st2 mv => ?_)
    obtain ⟨x, t, ex, rfl⟩ := hv i v pv
    obtain ⟨c, d, z2⟩ := z.to fun o => mv.heap S o outw
    show wpAny _ _ (holding _ (setAdd S _) >>= _) _ _ _
    refine wpAny_bind (wpAny_holding ?_)
    unfold setAdd
    refine wpAny_holding (wpAny_bind ((PySem.strKind P w).pyHash (k := x) (strKind_is _ _ _ _) ?_))
    have cb : c + 1 < scanBound := by have := d.1; omega
    refine wpAny_setAddHashed_of (knd := PySem.strKind P w) (s := { s2 with toks := s2.toks + 1 }) (strKind_is _ _ _ _) rfl z2 cb fun h' sb z3 => ?_
    have z4 : SetI P w h' S xs (i + 1) := by
      refine ⟨_, d.step ex, SetOf_congr z3 (fun y => ?_) rfl⟩
      rw [List.take_succ, ex, Option.toList_some]
      simp [List.mem_append]
    have ne : ∀ {b : Addr}, b ∉ S :: wr → b ≠ S := fun nm e => nm (by rw [e]; exact .head _)
    refine wpAny_pure ⟨plainId_quiet F.plain_set_update_loop _, ih (i + 1) _ (by omega) (W.frame _ s2 _ _ st2 (Nat.le_succ _) fun b mb o e => ?_) z4 fun s3 mv3 z5 => ?_⟩
    · exact (sb.2 b fun e => out (by rw [← e]; exact mb)).trans e
    · exact fin s3 (Moved.trans W.gtrans ((mv.mono grow).then_heap (Nat.le_succ _) fun b o nm e => (sb.2 b (ne nm)).trans e) mv3) z5
end
section
variable {P : Program} {w : World} {A : Around} {E : Value → Shared → Prop} {s : Shared}
set_option maxHeartbeats 0 in
/-- set(xs), xs a list of texts -/
theorem set_of_list {l : Addr} {items : Array Value} {xs : List Str} {Q : Value → Shared → Prop} (hh : A.handled = none) (hl : s.heap.IsList l items) (hi : PyProof.Rows.StrsAre items.toList xs) (hb : xs.length + 1 < scanBound)
    (fin : ∀ (h' : Heap) (tk : Nat), SetI P w h' s.heap.objs.size xs xs.length → (∀ b o, s.heap.get? b = some o → h'.get? b = some o) → Q (.ref s.heap.objs.size) { s with heap := h', toks := tk }) : wpAny (model P w) A (call (.type "set") [.ref l]) Q E s := by
  obtain ⟨_, _, mro1⟩ := PySem.F.called_set.mro; have made1 := PySem.F.called_set.made; have sub1 := PySem.F.called_set.sub
  refine wpAny_call (codeAny_of_tree ?_); show wpAny _ _ (callAny (.type "set") _) _ _ _
  refine wpAny_pure ⟨Code.quiet_builtin _ (by decide +kernel), codeAny_builtin PySem.F.entry_type_call ?_⟩; rw [Around.under_plain (weight_type_call_type "set" [.ref l] []) rfl]
  have c1 := PySem.F.called_set.notType; have c2 := PySem.F.called_set.canCreate; have c3 := PySem.F.typeCall_set_1 (.ref l)
  repeat (any_goals (first | assumption | wp_step))
  refine codeAny_mono (code_set_new_1 (.ref l) (E := E) (Q₁ := fun ob t1 => ∃ led : Bool, ob = .ref s.heap.objs.size ∧ t1 = { s with heap := s.heap.push { cls := .type "set", dict := none, data := .set #[] 0 (.fresh 0 0 led) } }) fun b => ⟨b, rfl, rfl⟩) fun rr t1 z => ?_
  cases rr with
  | error e => exact z
  | ok fl =>
    cases fl with
    | ret ob =>
      obtain ⟨led, rfl, rfl⟩ := z
      generalize hob : ({ cls := .type "set", dict := none, data := .set #[] 0 (.fresh 0 0 led) } : Obj) = ob0 at *
      have at0 : (s.heap.push ob0).get? s.heap.objs.size = some ob0 := Heap.get?_push_size _ (by rw [← hob]; rfl)
      have ty0 : Shared.TypeIs { s with heap := s.heap.push ob0 } (.ref s.heap.objs.size) "set" := ⟨_, at0, by rw [← hob]⟩
      have i1 := PySem.F.called_set.init.lookup; have i2 := PySem.F.called_set.init.bind (.ref s.heap.objs.size)
      repeat (any_goals (first | assumption | wp_step))
      refine codeAny_mono (codeAny_call_builtin (R := wants (fun r t2 => r = .none ∧ ∃ h' tk, t2 = { s with heap := h', toks := tk } ∧ SetI P w h' s.heap.objs.size xs xs.length ∧ (∀ b o, s.heap.get? b = some o → h'.get? b = some o)) E) PySem.F.called_set.init.plain PySem.F.entry_set_init (check_set_init_1 ty0 ?_)) fun rr t2 z => ?_
      · obtain ⟨⟨cl, di, da, sl⟩, hol, hcl, nl, hdl⟩ := hl
        simp only at hcl hdl; subst hcl; subst hdl
        have hol2 : (s.heap.push ob0).get? l = some { cls := .type "list", dict := di, data := .seq items nl, slots := sl } := Heap.get?_push_of_some _ hol
        have f1 := PySem.F.sub_list_set; have f2 := PySem.F.sub_list_frozenset; have f3 : (Value.type "list" == Value.type "dict") = false := by decide
        have hl1 : (s.heap.push ob0).IsList l items := ⟨_, hol2, rfl, nl, rfl⟩
        have ls : l < s.heap.objs.size := Heap.lt_size hol
        have szI : (s.heap.push ob0).objs.size = s.heap.objs.size + 1 := Heap.size_push ..
        have neI : l ≠ (s.heap.push ob0).objs.size := by rw [szI]; exact Nat.ne_of_lt (Nat.lt_succ_of_lt ls)
        have out : s.heap.objs.size ∉ [(s.heap.push ob0).objs.size, l] := by
          intro m; simp only [List.mem_cons, List.not_mem_nil, or_false] at m; rw [szI] at m; exact m.elim (Nat.ne_of_lt (Nat.lt_succ_self _)) (Nat.ne_of_gt ls)
        have szI2 := szI
        have at1 := Heap.get?_push_of_some { cls := .type "list_iterator", data := .fields #[.ref l, .int 0 0] } at0
        subst hob
        unfold Builtin.«set.__init__» noKeywords Builtin.Frozenset.updateFrom
        generalize hPI : pyIter = PI; wp_walk; subst hPI
        refine wpAny_pyIter_list hl1 ?_; refine wpAny_bind (wpAny_runValue ?_)
        have len : xs.length = items.size := by rw [← StrsAre.len_eq hi, Array.length_toList]
        have hv : ∀ (i : Nat) (v : Value), items[i]? = some v → ∃ x t, xs[i]? = some x ∧ v = .str x t := fun i v e => by
          obtain ⟨t, ev⟩ := SS.strs_at hi i v (by rw [Array.getElem?_toList]; exact e)
          have li : i < xs.length := by rw [len]; exact (Array.getElem?_eq_some_iff.mp e).1
          exact ⟨xs[i], t, List.getElem?_eq_getElem li, by rw [ev, List.getD_eq_getElem?_getD, List.getElem?_eq_getElem li]; rfl⟩
        have hh3 : A.in1.in1.in1.handled = none := by simp [hh]
        refine set_loopS ((Walks.list hh3 _ l neI items).toS) out len (by omega) hv items.size 0 _ (Nat.zero_add _) ⟨⟨_, Heap.get?_push_size _ rfl, rfl, rfl⟩, hl1.push _⟩ ?z0 ?zR
        case z0 =>
          refine ⟨0, ⟨Nat.le_refl _, by simp⟩, ?_⟩
          exact PyProof.Rows.SetOf_congr ((PyProof.Rows.setObjOf_fresh (knd := PySem.strKind P w) led).setOf at1 (by decide)) (fun k => by simp) rfl
        case zR =>
          rintro ⟨h', g', d', tk', os'⟩ mv z
          obtain rfl : g' = s.gens := mv.gens; obtain rfl : d' = s.drawn := mv.drawn; obtain rfl : os' = s.os := mv.os
          show wpAny _ _ _ _ _ _
          refine wpAny_pure ?_; show wpAny _ _ (ret Value.none) _ _ _
          refine wpAny_pure ⟨rfl, h', tk', rfl, by rw [len]; exact z, fun b o e => ?_⟩
          have lb := Heap.lt_size e
          refine mv.heap b o (fun m => ?_) (Heap.get?_push_of_some _ (Heap.get?_push_of_some _ e))
          simp only [List.mem_cons, List.not_mem_nil, or_false] at m
          exact m.elim (fun e => absurd e (Nat.ne_of_lt lb)) fun e => absurd (e.trans szI2) (Nat.ne_of_lt (Nat.lt_succ_of_lt lb))
      · cases rr with
        | error e => exact z
        | ok f2 =>
          cases f2 with
          | ret r =>
            obtain ⟨rfl, h', tk, rfl, z1, z2⟩ := z
            repeat (any_goals (first | assumption | wp_step))
            exact fin _ _ z1 z2
          | _ => exact z.elim
    | _ => exact z.elim
set_option maxHeartbeats 0 in
/-- set(xs), xs a tuple of texts -/
theorem set_of_tuple {l : Addr} {items : Array Value} {xs : List Str} {Q : Value → Shared → Prop} (hh : A.handled = none) (hl : s.heap.IsTuple l items) (hi : PyProof.Rows.StrsAre items.toList xs) (hb : xs.length + 1 < scanBound)
    (fin : ∀ (h' : Heap) (tk : Nat), SetI P w h' s.heap.objs.size xs xs.length → (∀ b o, s.heap.get? b = some o → h'.get? b = some o) → Q (.ref s.heap.objs.size) { s with heap := h', toks := tk }) : wpAny (model P w) A (call (.type "set") [.ref l]) Q E s := by
  obtain ⟨_, _, mro1⟩ := PySem.F.called_set.mro; have made1 := PySem.F.called_set.made; have sub1 := PySem.F.called_set.sub
  refine wpAny_call (codeAny_of_tree ?_); show wpAny _ _ (callAny (.type "set") _) _ _ _
  refine wpAny_pure ⟨Code.quiet_builtin _ (by decide +kernel), codeAny_builtin PySem.F.entry_type_call ?_⟩; rw [Around.under_plain (weight_type_call_type "set" [.ref l] []) rfl]
  have c1 := PySem.F.called_set.notType; have c2 := PySem.F.called_set.canCreate; have c3 := PySem.F.typeCall_set_1 (.ref l)
  repeat (any_goals (first | assumption | wp_step))
  refine codeAny_mono (code_set_new_1 (.ref l) (E := E) (Q₁ := fun ob t1 => ∃ led : Bool, ob = .ref s.heap.objs.size ∧ t1 = { s with heap := s.heap.push { cls := .type "set", dict := none, data := .set #[] 0 (.fresh 0 0 led) } }) fun b => ⟨b, rfl, rfl⟩) fun rr t1 z => ?_
  cases rr with
  | error e => exact z
  | ok fl =>
    cases fl with
    | ret ob =>
      obtain ⟨led, rfl, rfl⟩ := z
      generalize hob : ({ cls := .type "set", dict := none, data := .set #[] 0 (.fresh 0 0 led) } : Obj) = ob0 at *
      have at0 : (s.heap.push ob0).get? s.heap.objs.size = some ob0 := Heap.get?_push_size _ (by rw [← hob]; rfl)
      have ty0 : Shared.TypeIs { s with heap := s.heap.push ob0 } (.ref s.heap.objs.size) "set" := ⟨_, at0, by rw [← hob]⟩
      have i1 := PySem.F.called_set.init.lookup; have i2 := PySem.F.called_set.init.bind (.ref s.heap.objs.size)
      repeat (any_goals (first | assumption | wp_step))
      refine codeAny_mono (codeAny_call_builtin (R := wants (fun r t2 => r = .none ∧ ∃ h' tk, t2 = { s with heap := h', toks := tk } ∧ SetI P w h' s.heap.objs.size xs xs.length ∧ (∀ b o, s.heap.get? b = some o → h'.get? b = some o)) E) PySem.F.called_set.init.plain PySem.F.entry_set_init (check_set_init_1 ty0 ?_)) fun rr t2 z => ?_
      · obtain ⟨⟨cl, di, da, sl⟩, hol, hcl, nl, hdl⟩ := hl
        simp only at hcl hdl; subst hcl; subst hdl
        have hol2 : (s.heap.push ob0).get? l = some { cls := .type "tuple", dict := di, data := .seq items nl, slots := sl } := Heap.get?_push_of_some _ hol
        have f1 := PySem.F.sub_tuple_set; have f2 := PySem.F.sub_tuple_frozenset; have f3 : (Value.type "tuple" == Value.type "dict") = false := by decide
        have hl1 : (s.heap.push ob0).IsTuple l items := ⟨_, hol2, rfl, nl, rfl⟩
        have ls : l < s.heap.objs.size := Heap.lt_size hol
        have szI : (s.heap.push ob0).objs.size = s.heap.objs.size + 1 := Heap.size_push ..
        have neI : l ≠ (s.heap.push ob0).objs.size := by rw [szI]; exact Nat.ne_of_lt (Nat.lt_succ_of_lt ls)
        have out : s.heap.objs.size ∉ [(s.heap.push ob0).objs.size, l] := by
          intro m; simp only [List.mem_cons, List.not_mem_nil, or_false] at m; rw [szI] at m; exact m.elim (Nat.ne_of_lt (Nat.lt_succ_self _)) (Nat.ne_of_gt ls)
        have szI2 := szI
        have at1 := Heap.get?_push_of_some { cls := .type "tuple_iterator", data := .fields #[.ref l, .int 0 0] } at0
        subst hob
        unfold Builtin.«set.__init__» noKeywords Builtin.Frozenset.updateFrom
        generalize hPI : pyIter = PI; wp_walk; subst hPI
        refine wpAny_pyIter_tuple hl1 ?_; refine wpAny_bind (wpAny_runValue ?_)
        have len : xs.length = items.size := by rw [← StrsAre.len_eq hi, Array.length_toList]
        have hv : ∀ (i : Nat) (v : Value), items[i]? = some v → ∃ x t, xs[i]? = some x ∧ v = .str x t := fun i v e => by
          obtain ⟨t, ev⟩ := SS.strs_at hi i v (by rw [Array.getElem?_toList]; exact e)
          have li : i < xs.length := by rw [len]; exact (Array.getElem?_eq_some_iff.mp e).1
          exact ⟨xs[i], t, List.getElem?_eq_getElem li, by rw [ev, List.getD_eq_getElem?_getD, List.getElem?_eq_getElem li]; rfl⟩
        have hh3 : A.in1.in1.in1.handled = none := by simp [hh]
        refine set_loopS ((Walks.tuple hh3 _ l neI items).toS) out len (by omega) hv items.size 0 _ (Nat.zero_add _) ⟨⟨_, Heap.get?_push_size _ rfl, rfl, rfl⟩, hl1.push _⟩ ?z0 ?zR
        case z0 =>
          refine ⟨0, ⟨Nat.le_refl _, by simp⟩, ?_⟩
          exact PyProof.Rows.SetOf_congr ((PyProof.Rows.setObjOf_fresh (knd := PySem.strKind P w) led).setOf at1 (by decide)) (fun k => by simp) rfl
        case zR =>
          rintro ⟨h', g', d', tk', os'⟩ mv z
          obtain rfl : g' = s.gens := mv.gens; obtain rfl : d' = s.drawn := mv.drawn; obtain rfl : os' = s.os := mv.os
          show wpAny _ _ _ _ _ _
          refine wpAny_pure ?_; show wpAny _ _ (ret Value.none) _ _ _
          refine wpAny_pure ⟨rfl, h', tk', rfl, by rw [len]; exact z, fun b o e => ?_⟩
          have lb := Heap.lt_size e
          refine mv.heap b o (fun m => ?_) (Heap.get?_push_of_some _ (Heap.get?_push_of_some _ e))
          simp only [List.mem_cons, List.not_mem_nil, or_false] at m
          exact m.elim (fun e => absurd e (Nat.ne_of_lt lb)) fun e => absurd (e.trans szI2) (Nat.ne_of_lt (Nat.lt_succ_of_lt lb))
      · cases rr with
        | error e => exact z
        | ok f2 =>
          cases f2 with
          | ret r =>
            obtain ⟨rfl, h', tk, rfl, z1, z2⟩ := z
            repeat (any_goals (first | assumption | wp_step))
            exact fin _ _ z1 z2
          | _ => exact z.elim
    | _ => exact z.elim
end
/-! ### len(set(pairs)), no two alike, at most four: tuples of texts and numbers in a small set -/
abbrev khash (P : Program) (w : World) (k : List Key) : Int := tupleKeyHash (mixKind P w) k
abbrev IsK (P : Program) (w : World) (h : Heap) (k : List Key) (b : Addr) : Prop := IsTupleKey (mixKind P w) h k b
def Plain2 (v : Value) : Prop := (∃ i t, v = .int i t) ∨ ∃ z t, v = .str z t
section
variable {P : Program} {w : World} {A : Around} {E : Value → Shared → Prop} {s : Shared}
theorem IsK.to {h h' : Heap} {k : List Key} {b : Addr} (x : IsK P w h k b) (kp : ∀ o, h.get? b = some o → h'.get? b = some o) : IsK P w h' k b := by
  obtain ⟨o, it, n, ho, r⟩ := x
  exact ⟨o, it, n, kp o ho, r⟩
theorem mix_shape {k : Key} {v : Value} (e : (mixKind P w).is k v = true) : Plain2 v := by
  rw [mixKind_is] at e
  cases k <;> cases v <;> first | exact .inl ⟨_, _, rfl⟩ | exact .inr ⟨_, _, rfl⟩ | (exfalso; revert e; simp [keyIs, Value.isInt, Value.isStrOf])
theorem items_mix {k : List Key} {vs : List Value} (h : ItemsAre (mixKind P w) k vs) : ∀ v ∈ vs, Plain2 v := by
  induction h with
  | nil => exact fun v m => absurd m (by simp)
  | cons h1 _ ih =>
    intro v m
    rcases List.mem_cons.mp m with e | m
    · rw [e]; exact mix_shape h1
    · exact ih v m
theorem ofA_plain (n : Nat) {v : Value} (p : Plain2 v) : ofAClassStatement n v = pure false := by
  rcases p with ⟨i, t, rfl⟩ | ⟨z, t, rfl⟩ <;> cases n <;> rfl
theorem hashBy_plain (n : Nat) {v : Value} (p : Plain2 v) : ∃ b, hashByValue n v = pure b := by
  rcases p with ⟨i, t, rfl⟩ | ⟨z, t, rfl⟩
  · exact ⟨true, by cases n <;> rfl⟩
  · exact ⟨false, by cases n <;> rfl⟩
theorem ofA_key {k : List Key} {b : Addr} {Q : Bool → Shared → Prop} (hk : IsK P w s.heap k b) (q : Q false s) : wpAny (model P w) A (ofAClassStatement 8 (.ref b)) Q E s := by
  have ty := hk.typeIs
  obtain ⟨o, items, n, ho, _, hd, hi⟩ := hk
  unfold ofAClassStatement
  refine wpAny_bind (wpAny_typeOf ty ?_); dsimp only
  have e : (("tuple" : String) == "tuple") = true := by decide
  simp only [e, if_true, Bool.not_true, Bool.false_eq_true, if_false]
  try refine wpAny_bind (wpAny_pure ?_)
  try simp only [Bool.not_true, Bool.false_eq_true, if_false]
  show wpAny _ _ (seqItems? _ >>= _) _ _ _
  refine wpAny_bind (wpAny_seqItems ho hd ?_); dsimp only
  refine wpAny_bind ?_; show wpAny _ _ (forIn items _ _) _ _ _
  rw [← Array.forIn_toList]
  refine wpAny_forIn_list _ (fun rest r t => r.1 = none ∧ t = s ∧ ∀ v ∈ rest, Plain2 v) _ ?_ ?_ _ _ ⟨rfl, rfl, items_mix hi⟩
  · rintro v rest r t ⟨hr, rfl, all⟩
    rw [ofA_plain _ (all v List.mem_cons_self)]
    refine wpAny_bind (wpAny_pure ?_); simp only [Bool.false_eq_true, if_false]
    exact wpAny_pure ⟨rfl, rfl, fun u m => all u (List.mem_cons_of_mem _ m)⟩
  · rintro ⟨r1, r2⟩ t ⟨hr, rfl, _⟩
    obtain rfl : r1 = none := hr
    exact wpAny_pure q
theorem hashBy_key {k : List Key} {b : Addr} {Q : Bool → Shared → Prop} (hk : IsK P w s.heap k b) (q : ∀ r, Q r s) : wpAny (model P w) A (hashByValue 8 (.ref b)) Q E s := by
  have ty := hk.typeIs
  obtain ⟨o, items, n, ho, _, hd, hi⟩ := hk
  unfold hashByValue
  refine wpAny_bind (wpAny_specialOf ty F.slot_tuple_hash.lookup ?_); show wpAny _ _ (seqItems? _ >>= _) _ _ _
  refine wpAny_bind (wpAny_seqItems ho hd ?_); refine wpAny_bind ?_; show wpAny _ _ (forIn items _ _) _ _ _
  rw [← Array.forIn_toList]
  refine wpAny_forIn_list _ (fun rest r t => r.1 = none ∧ t = s ∧ ∀ v ∈ rest, Plain2 v) _ ?_ ?_ _ _ ⟨rfl, rfl, items_mix hi⟩
  · rintro v rest r t ⟨hr, rfl, all⟩
    obtain ⟨c, ec⟩ := hashBy_plain 7 (all v List.mem_cons_self)
    rw [ec]
    refine wpAny_bind (wpAny_pure ?_)
    cases c
    · simp only [Bool.not_false, if_true]
      exact wpAny_pure (wpAny_pure (q _))
    · simp only [Bool.not_true, Bool.false_eq_true, if_false]
      exact wpAny_pure ⟨rfl, rfl, fun u m => all u (List.mem_cons_of_mem _ m)⟩
  · rintro ⟨r1, r2⟩ t ⟨hr, rfl, _⟩
    obtain rfl : r1 = none := hr
    exact wpAny_pure (q _)
theorem seen_key {k : List Key} {b : Addr} {Q : Bool → Shared → Prop} (hk : IsK P w s.heap k b) {ys : List Value} (hy : ∀ y ∈ ys, ∃ k' c, y = Value.ref c ∧ IsK P w s.heap k' c) (q : Q false s) : wpAny (model P w) A (searchCouldBeSeen (.ref b) ys) Q E s := by
  unfold searchCouldBeSeen
  refine wpAny_bind ?_
  refine wpAny_forIn_list _ (fun rest r t => r.1 = none ∧ t = s ∧ ∀ y ∈ rest, ∃ k' c, y = Value.ref c ∧ IsK P w s.heap k' c) _ ?_ ?_ _ _ ⟨rfl, rfl, hy⟩
  · rintro v rest r t ⟨hr, rfl, all⟩
    obtain ⟨k', c, rfl, hc⟩ := all v List.mem_cons_self
    have all2 : ∀ y ∈ rest, ∃ k' c, y = Value.ref c ∧ IsK P w t.heap k' c := fun u m => all u (List.mem_cons_of_mem _ m)
    dsimp only
    by_cases hv : (b == c || (carriedByValue (.ref b) && carriedByValue (.ref c))) = true
    · exact wp_if_pos hv (wpAny_pure ⟨rfl, rfl, all2⟩)
    · refine wp_if_neg hv (wpAny_bind (wpAny_eqIsQuiet_tuple hk ?_)); simp only [Bool.not_true, Bool.false_eq_true, if_false]
      refine wpAny_bind (wpAny_eqIsQuiet_tuple hc ?_); simp only [Bool.not_true, Bool.false_eq_true, if_false]
      refine wpAny_bind (ofA_key hk ?_); simp only [Bool.false_eq_true, if_false]
      refine wpAny_bind (ofA_key hc ?_); simp only [Bool.false_eq_true, if_false]
      exact wpAny_pure ⟨rfl, rfl, all2⟩
  · rintro ⟨r1, r2⟩ t ⟨hr, rfl, _⟩
    obtain rfl : r1 = none := hr
    exact wpAny_pure q
end
/-- what stands in the set: unlike keys, at their addresses -/
def rowsP (P : Program) (w : World) (L : List (Addr × List Key)) : List (Int × Value) := L.map fun p => (khash P w p.2, Value.ref p.1)
structure SetP (P : Program) (w : World) (h : Heap) (a : Addr) (L : List (Addr × List Key)) (es : Array (Int × Value)) (ep : Nat) (t : SetTable) : Prop where
  ob : ∃ o, h.get? a = some o ∧ o.ExactSet ∧ o.data = .set es ep t
  rows : es.toList = rowsP P w L
  tab : TabOk t (L.map fun p => khash P w p.2)
  tup : ∀ p ∈ L, IsK P w h p.2 p.1
  few : L.length ≤ 4
section
variable {P : Program} {w : World} {A : Around} {E : Value → Shared → Prop} {s : Shared} {a : Addr} {L : List (Addr × List Key)} {es : Array (Int × Value)} {ep : Nat} {t : SetTable}
theorem SetP.size {h : Heap} (R : SetP P w h a L es ep t) : es.size = L.length := by
  have e := congrArg List.length R.rows
  unfold rowsP at e
  rwa [Array.length_toList, List.length_map] at e
theorem SetP.mask {h : Heap} (R : SetP P w h a L es ep t) : 7 ≤ t.mask := by
  rcases R.tab.mok with e | e | e <;> omega
theorem SetP.fits {h : Heap} (R : SetP P w h a L es ep t) : t.fits es.size = true := by
  have h1 := R.tab.sz
  rw [List.length_map] at h1
  have h2 := R.size; have h3 := R.mask; have h4 := R.few
  unfold SetTable.fits SetTable.fill
  rw [R.tab.dm, Bool.and_eq_true, beq_iff_eq, decide_eq_true_eq]
  show t.place.size = es.size ∧ t.place.size + 0 ≤ t.mask
  omega
theorem SetP.entry {h : Heap} (R : SetP P w h a L es ep t) {i : Nat} {p : Addr × List Key} (e : L[i]? = some p) : es[i]? = some (khash P w p.2, Value.ref p.1) := by
  rw [← Array.getElem?_toList, R.rows]
  unfold rowsP
  rw [List.getElem?_map, e]; rfl
/-- a thing that isn't there: the search ends at the first empty slot of its way -/
theorem find_new (R : SetP P w s.heap a L es ep t) {x : Addr} {k : List Key} (hx : IsK P w s.heap k x) (hu : A.units < cLine) (new : k ∉ L.map (·.2)) {K : Nat} (hKf : K < 10 * SetTable.turns t.mask)
    (hK : way t.mask (khash P w k) K ∉ t.place.toList) (hKb : ∀ c, c < K → way t.mask (khash P w k) c ∈ t.place.toList) {Q : SetFound → Shared → Prop} (q : Q (.free (way t.mask (khash P w k) K) false) s) :
    ∀ (f c : Nat) (st : Option SetTable.Probe), st.getD (t.probeStart (khash P w k)) = nth t.mask (runAt t.mask (SetTable.bits (khash P w k) % (t.mask + 1)) (SetTable.bits (khash P w k))) c → c ≤ K → K - c < f →
      wpAny (model P w) A (setSearchFrom a (.ref x) (khash P w k) true f st) Q E s
  | 0, c, st, _, _, hf => absurd hf (Nat.not_lt_zero _)
  | f + 1, c, st, hst, hc, hf => by
    obtain ⟨o, ho, hex, hd⟩ := R.ob
    generalize hh : khash P w k = hk at *
    generalize hp0 : runAt t.mask (SetTable.bits hk % (t.mask + 1)) (SetTable.bits hk) = p0 at *
    rw [setSearchFrom_succ]
    refine wpAny_bind (wpAny_setState_of ho hd R.fits ?_); dsimp only
    have gw : ¬ t.gaveWay = true := by
      unfold SetTable.gaveWay
      rw [mask_odd R.tab.mok]; decide
    refine wp_if_neg gw ?_
    try refine wpAny_bind (wpAny_pure ?_)
    have nod : (nth t.mask p0 c).dummy = none := by
      have key : ∀ (n : Nat) (p : SetTable.Probe), p.dummy = none → (nth t.mask p n).dummy = none := by
        intro n
        induction n with
        | zero => exact fun p h => h
        | succ n ih => exact fun p h => ih (adv t.mask p) (by unfold adv; split <;> exact h)
      exact key c _ (by rw [← hp0]; rfl)
    have sh : ∀ q, nth t.mask (nth t.mask p0 c) q = nth t.mask p0 (c + q) := fun q => (nth_add t.mask c _ q).symm
    have wj : ∀ q, (nth t.mask (nth t.mask p0 c) q).j = way t.mask hk (c + q) := fun q => by rw [sh, ← hp0] <;> rfl
    rcases go_spec t R.tab.ris R.tab.dm (fun i => (es[i]?.map (·.1)).getD 0) hk (10 * SetTable.turns t.mask) (K - c) _ nod (by omega)
      (fun q hq => by rw [wj]; exact hKb (c + q) (by omega)) (by rw [wj, show c + (K - c) = K by omega]; exact hK) with ⟨q, i, hq, hi, h1, hno, hpr⟩ | ⟨hno, hpr⟩
    · have hpr2 : t.probe (fun i => (es[i]?.map (·.1)).getD 0) hk (st.getD (t.probeStart hk)) = some (.candidate (way t.mask hk (c + q)) i (nth t.mask p0 (c + (q + 1)))) := by
        rw [hst, ← wj, ← sh]; exact hpr
      rw [hpr2]; dsimp only
      rw [wj] at hi
      have hil : i < L.length := by
        have z1 := (List.getElem?_eq_some_iff.mp hi).1
        have z2 := R.tab.sz
        rw [List.length_map] at z2
        rw [Array.length_toList] at z1
        omega
      obtain ⟨p, hp⟩ : ∃ p, L[i]? = some p := ⟨_, List.getElem?_eq_getElem hil⟩
      have mp := List.mem_of_getElem? hp
      have ne : ¬ p.2 = k := fun e => new (List.mem_map.mpr ⟨p, mp, e⟩)
      have rest : wpAny (model P w) A (searchRest a (.ref x) hk true f es t (way t.mask hk (c + q)) i (nth t.mask p0 (c + (q + 1)))) Q E s := by
        unfold searchRest
        rw [R.entry hp]; dsimp only
        refine wpAny_bind (wpAny_holding (wpAny_eqBool_tuple hu (R.tup p mp) hx ?_)); refine wpAny_bind (wpAny_setState_of ho hd R.fits ?_); dsimp only
        refine wp_if_neg (by simp [ne]) ?_
        try refine wpAny_bind (wpAny_pure ?_)
        rw [sameMem]; dsimp only
        simp only [if_true, slot_live R.tab.ris hi, R.entry hp]
        refine wpAny_bind (wpAny_isSame_ref_self (wpAny_bind (wpAny_pure ?_))); simp only [if_true]
        refine wp_if_neg (by simp [ne]) ?_
        rw [← hh]
        exact find_new R hx hu new hKf (by rw [hh]; exact hK) (by rw [hh]; exact hKb) (by rw [hh]; exact ‹Q _ s›) f (c + (q + 1)) _ (by rw [hh, hp0]; rfl) (by omega) (by omega)
      by_cases hl : t.led = true
      · refine wp_if_neg (by simp [hl]) ?_
        try refine wpAny_bind (wpAny_pure ?_)
        exact rest
      · refine wp_if_pos (by simp [hl]) (wpAny_bind (seen_key hx (fun y my => ?_) ?_))
        · obtain ⟨e, he, ee⟩ := List.mem_map.mp my
          have he1 : e ∈ es ∧ e.1 = hk := by simpa using he
          have he2 : e ∈ es.toList := by simpa using he1.1
          rw [R.rows] at he2
          obtain ⟨p2, hp2, e2⟩ := List.mem_map.mp he2
          exact ⟨p2.2, p2.1, by rw [← ee, ← e2], R.tup p2 hp2⟩
        · refine wp_if_neg (by decide) ?_
          try refine wpAny_bind (wpAny_pure ?_)
          exact rest
    · have hpr2 : t.probe (fun i => (es[i]?.map (·.1)).getD 0) hk (st.getD (t.probeStart hk)) = some (.empty (way t.mask hk K) none) := by
        have e2 : way t.mask hk K = (nth t.mask (nth t.mask p0 c) (K - c)).j := by rw [wj, show c + (K - c) = K by omega]
        rw [hst, e2]; exact hpr
      rw [hpr2]; dsimp only
      exact wpAny_pure q
end
section
variable {P : Program} {w : World} {A : Around} {E : Value → Shared → Prop} {s : Shared} {a : Addr} {L : List (Addr × List Key)} {es : Array (Int × Value)} {ep : Nat} {t : SetTable}
theorem find_key (R : SetP P w s.heap a L es ep t) {x : Addr} {k : List Key} (hx : IsK P w s.heap k x) (hu : A.units < cLine) (new : k ∉ L.map (·.2)) {Q : SetFound → Shared → Prop}
    (q : ∀ K, way t.mask (khash P w k) K ∉ t.place.toList → (∀ c, c < K → way t.mask (khash P w k) c ∈ t.place.toList) → Q (.free (way t.mask (khash P w k) K) false) s) :
    wpAny (model P w) A (setSearch a (.ref x) (khash P w k) true) Q E s := by
  have h3 := R.mask; have h4 := R.few
  obtain ⟨K, hKf, hK, hKb⟩ := R.tab.first (by rw [List.length_map]; omega) (khash P w k)
  have big : K < 100000 := by
    have : 10 * SetTable.turns t.mask ≤ 1420 := by
      unfold SetTable.turns
      rcases R.tab.mok with e | e | e <;> omega
    omega
  unfold setSearch
  exact find_new R hx hu new hKf hK hKb (q K hK hKb) 100000 0 none rfl (Nat.zero_le _) (by omega)
theorem IsK.beside {h h' : Heap} {k : List Key} {a b : Addr} {o : Obj} {es : Array (Int × Value)} {ep : Nat} {t : SetTable} (x : IsK P w h k b) (ho : h.get? a = some o) (hd : o.data = .set es ep t) (sb : Heap.SameBut a h h') : IsK P w h' k b := by
  refine x.to fun o2 h2 => ?_
  refine (sb.2 b fun e => ?_).trans h2
  obtain ⟨o3, it, n, h3, _, d3, _⟩ := x
  rw [e, ho] at h3
  obtain rfl := Option.some.inj h3
  rw [hd] at d3; exact nomatch d3
theorem tab_unplain {t : SetTable} {hs : List Int} (T : TabOk t hs) : TabOk { t with plain := false } hs := ⟨T.ris, T.dm, T.sz, T.mok, T.bd, T.reach⟩
theorem add_new (R : SetP P w s.heap a L es ep t) {x : Addr} {k : List Key} (hx : IsK P w s.heap k x) (hu : A.units < cLine) (new : k ∉ L.map (·.2)) (room : L.length + 1 ≤ 4) {Q : Bool → Shared → Prop}
    (q : ∀ h' L' es' ep' t', Heap.SameBut a s.heap h' → SetP P w h' a L' es' ep' t' → L'.Perm ((x, k) :: L) → Q true { s with heap := h' }) :
    wpAny (model P w) A (setAddHashed a (.ref x) (khash P w k)) Q E s := by
  obtain ⟨o, ho, hex, hd⟩ := R.ob
  have hsl := R.size; have hmask := R.mask
  unfold setAddHashed
  refine wpAny_holding ?_
  rw [show (100000 : Nat) = 99999 + 1 from rfl, setAddHashedIn_succ]
  refine wpAny_bind (wpAny_setState_of ho hd R.fits ?_); dsimp only
  refine wp_if_neg (by simp [byScan, Value.scannable]) ?_
  try refine wpAny_bind (wpAny_pure ?_)
  refine wpAny_bind (find_key R hx hu new fun K hK hb => ?_); dsimp only
  refine wpAny_bind (wpAny_setState_of ho hd R.fits ?_); dsimp only
  obtain ⟨q1, q2, q3, q4, q5, q6, q7, q8, q9⟩ := R.tab.put hK hb
  generalize t.put (way t.mask (khash P w k) K) = pt at q1 q3 q4 q5 q6 q7 q8 q9 ⊢
  obtain ⟨t1, p⟩ := pt
  dsimp only at q1 q3 q4 q5 q6 q7 q8 q9 ⊢
  subst q1
  have onto : ∀ t2 : SetTable, t2.mask = t1.mask → t2.fill = t1.fill → TabOk t2 ((L.map fun p => khash P w p.2).take (SetTable.below t.place (way t.mask (khash P w k) K)) ++ khash P w k :: (L.map fun p => khash P w p.2).drop (SetTable.below t.place (way t.mask (khash P w k) K))) →
      wpAny (model P w) A (do
        storeSet a (SetTable.insertAt es (SetTable.below t.place (way t.mask (khash P w k) K)) (khash P w k, Value.ref x)) t2
        if !false && t2.tooFull then setRelay a (SetTable.grown (es.size + 1))
        return true) Q E s := fun t2 z1 z2 z3 => by
    have rows2 : (SetTable.insertAt es (SetTable.below t.place (way t.mask (khash P w k) K)) (khash P w k, Value.ref x)).toList = rowsP P w (L.take (SetTable.below t.place (way t.mask (khash P w k) K)) ++ (x, k) :: L.drop (SetTable.below t.place (way t.mask (khash P w k) K))) := by
      rw [SetTable.toList_insertAt, R.rows]
      simp only [rowsP, List.map_append, List.map_cons, List.map_take, List.map_drop]
    generalize SetTable.below t.place (way t.mask (khash P w k) K) = p at z3 rows2 ⊢
    have pm := put_perm L p (x, k)
    have len : (L.take p ++ (x, k) :: L.drop p).length = L.length + 1 := pm.length_eq
    have hs2 : (L.take p ++ (x, k) :: L.drop p).map (fun p => khash P w p.2) = (L.map fun p => khash P w p.2).take p ++ khash P w k :: (L.map fun p => khash P w p.2).drop p := by
      rw [List.map_append, List.map_cons, List.map_take, List.map_drop]
    rw [← hs2] at z3
    have esz : (SetTable.insertAt es p (khash P w k, Value.ref x)).size = L.length + 1 := by
      have e := congrArg List.length rows2
      unfold rowsP at e
      rwa [Array.length_toList, List.length_map, len] at e
    generalize SetTable.insertAt es p (khash P w k, Value.ref x) = es1 at rows2 esz ⊢
    generalize L.take p ++ (x, k) :: L.drop p = L1 at pm len z3 rows2
    refine wpAny_bind (wpAny_storeSet_of ho hd ?_ (by rw [esz, sizeLine_eq]; omega))
    have sb : Heap.SameBut a s.heap (s.heap.update a (Obj.putSet es1 t2)) := Heap.SameBut.update ..
    have ho1 := store_at (es' := es1) (t' := t2) ho hd
    generalize s.heap.update a (Obj.putSet es1 t2) = h1 at sb ho1 ⊢
    have tup1 : ∀ p ∈ L1, IsK P w h1 p.2 p.1 := fun p hp => by
      rcases List.mem_cons.mp (pm.mem_iff.mp hp) with e | hp
      · rw [e]; exact hx.beside ho hd sb
      · exact (R.tup p hp).beside ho hd sb
    have nf : ¬ t2.tooFull = true := fun z => by
      unfold SetTable.tooFull at z
      rw [decide_eq_true_eq, z2, z1, q4, q9, List.length_map] at z
      omega
    have done : Q true { s with heap := h1 } := q h1 L1 es1 (ep + 1) t2 sb ⟨⟨_, ho1, ⟨hex.1, hex.2.1, hex.2.2⟩, rfl⟩, rows2, z3, tup1, by omega⟩ pm
    first
      | exact wp_if_neg (by simp [nf]) (wpAny_pure done)
      | exact wpAny_bind (wp_if_neg (by simp [nf]) (wpAny_pure (wpAny_pure done)))
  by_cases pl : t1.plain = true
  · have go : ∀ r : Bool, wpAny (model P w) A (do
        storeSet a (SetTable.insertAt es (SetTable.below t.place (way t.mask (khash P w k) K)) (khash P w k, Value.ref x)) (if r = true then t1 else { t1 with plain := false })
        if !false && (if r = true then t1 else { t1 with plain := false }).tooFull then setRelay a (SetTable.grown (es.size + 1))
        return true) Q E s := fun r => by
      cases r
      · exact onto _ rfl rfl (tab_unplain q3)
      · exact onto _ rfl rfl q3
    first
      | exact wp_if_pos pl (wpAny_bind (hashBy_key hx go))
      | exact wpAny_bind (wp_if_pos pl (hashBy_key hx go))
  · first
      | exact wp_if_neg pl (wpAny_bind (wpAny_pure (onto _ rfl rfl q3)))
      | exact wpAny_bind (wp_if_neg pl (wpAny_pure (onto _ rfl rfl q3)))
      | exact wp_if_neg pl (onto _ rfl rfl q3)
end
/-! ### set(pairs), no two alike -/
def PairI (P : Program) (w : World) (h : Heap) (S : Addr) (ks : List (Addr × List Key)) (i : Nat) : Prop := ∃ (L : List (Addr × List Key)) (es : Array (Int × Value)) (ep : Nat) (t : SetTable), SetP P w h S L es ep t ∧ L.Perm (ks.take i)
def Kept (h h' : Heap) : Prop := ∀ b o, h.get? b = some o → h'.get? b = some o
theorem PairI.keep {P : Program} {w : World} {h0 h h' : Heap} {S : Addr} {ks : List (Addr × List Key)} {i : Nat} (z : PairI P w h S ks i) (hk : ∀ p ∈ ks, IsK P w h0 p.2 p.1) (kp : Kept h0 h') (k : ∀ o, h.get? S = some o → h'.get? S = some o) : PairI P w h' S ks i := by
  obtain ⟨L, es, ep, t, R, pm⟩ := z
  obtain ⟨o, ho, rest⟩ := R.ob
  exact ⟨L, es, ep, t, ⟨⟨o, k o ho, rest⟩, R.rows, R.tab, fun p m => (hk p (List.mem_of_mem_take (pm.mem_iff.mp m))).to fun o e => kp _ o e, R.few⟩, pm⟩
theorem setP_fresh {P : Program} {w : World} {h : Heap} {a : Addr} {led : Bool} (ho : h.get? a = some { cls := .type "set", dict := none, data := .set #[] 0 (.fresh 0 0 led) }) : SetP P w h a [] #[] 0 (.fresh 0 0 led) where
  ob := ⟨_, ho, ⟨rfl, rfl, rfl⟩, rfl⟩
  rows := rfl
  tab := ⟨List.Pairwise.nil, rfl, rfl, .inl rfl, fun x hx => (by cases hx), fun i h j hi => by simp at hi⟩
  tup := fun p m => by cases m
  few := Nat.zero_le 4
section
variable {P : Program} {w : World} {A : Around} {R : Result → Shared → Prop} {I : Addr} {fp wr : List Addr} {G : Array GenState → Array GenState → Prop} {n : Nat} {Pv : Nat → Value → Prop} {St : Nat → Shared → Prop}
theorem set_loopP (W : WalksS P w A.in1 I fp wr G n Pv St) {S : Addr} (out : S ∉ fp) {ks : List (Addr × List Key)} (hl : ks.length = n) (few : n ≤ 4) (nd : (ks.map (·.2)).Nodup) (hv : ∀ i v, Pv i v → ∃ p, ks[i]? = some p ∧ v = .ref p.1)
    {h0 : Heap} (hk : ∀ p ∈ ks, IsK P w h0 p.2 p.1) (hS0 : h0.get? S = none) (hw0 : ∀ b ∈ wr, h0.get? b = none) (hu : A.in1.units < cLine)
    : ∀ (k i : Nat) (s : Shared), i + k = n → St i s → Kept h0 s.heap → PairI P w s.heap S ks i → (∀ s', Moved (S :: wr) G s s' → PairI P w s'.heap S ks n → R (.ok (.ret .none)) s') →
      codeAny (model P w) A (.builtin "set.update.loop" ⟨[.ref S, .ref I], []⟩) R s := by
  have outw : S ∉ wr := fun z => out (W.sub _ z)
  have grow : ∀ b ∈ wr, b ∈ S :: wr := fun b z => .tail _ z
  have over : ∀ {s s' : Shared}, Moved wr G s s' → Kept h0 s.heap → Kept h0 s'.heap := fun mv kp b o e => mv.heap b o (fun z => by rw [hw0 b z] at e; cases e) (kp b o e)
  intro k
  induction k with
  | zero =>
    intro i s hki st kp z fin
    obtain rfl : i = n := hki
    refine codeAny_builtin F.entry_set_update_loop ?_
    rw [Around.under_plainId F.plain_set_update_loop _]
    show wpAny _ _ (pyNext _ >>= _) _ _ _
    exact wpAny_bind (W.done s _ _ st fun s2 mv => wpAny_pure (fin s2 (mv.mono grow) (z.keep hk (over mv kp) fun o => mv.heap S o outw)))
  | succ k ih =>
    intro i s hki st kp z fin
    refine codeAny_builtin F.entry_set_update_loop ?_
    rw [Around.under_plainId F.plain_set_update_loop _]
    show wpAny _ _ (pyNext _ >>= _) _ _ _
    refine wpAny_bind (W.item i s _ _ (by omega) st fun v s2 pv st2 mv => ?_)
    obtain ⟨p, ep, rfl⟩ := hv i v pv
    have kp2 := over mv kp
    obtain ⟨L, es, epo, t, RS, pm⟩ := z.keep hk kp2 fun o => mv.heap S o outw
    have mp := List.mem_of_getElem? ep
    have hx : IsK P w s2.heap p.2 p.1 := (hk p mp).to fun o e => kp2 _ o e
    show wpAny _ _ (holding _ (setAdd S _) >>= _) _ _ _
    refine wpAny_bind (wpAny_holding ?_)
    unfold setAdd
    refine wpAny_holding (wpAny_bind (wpAny_pyHash_tuple hu hx ?_))
    have len := pm.length_eq
    rw [List.length_take, Nat.min_eq_left (by omega)] at len
    have new : p.2 ∉ L.map (·.2) := fun m => by
      rw [(pm.map (·.2)).mem_iff, List.map_take] at m
      obtain ⟨j, hj⟩ := List.getElem?_of_mem m
      rw [List.getElem?_take] at hj
      split at hj
      · rename_i lt
        have ei : (ks.map (·.2))[i]? = some p.2 := by rw [List.getElem?_map, ep]; rfl
        have li := (List.getElem?_eq_some_iff.mp hj).1
        have := (List.getElem?_inj li nd).mp (hj.trans ei.symm)
        omega
      · cases hj
    refine add_new (s := { s2 with toks := s2.toks + (p.2.length + 1) }) RS hx hu new (by omega) fun h' L' es' ep' t' sb R2 pm2 => ?_
    have tk : ks.take (i + 1) = ks.take i ++ [p] := by rw [List.take_succ, ep]; rfl
    have z4 : PairI P w h' S ks (i + 1) := ⟨L', es', ep', t', R2, by
      rw [tk]
      exact pm2.trans ((pm.cons p).trans (List.perm_append_singleton p _).symm)⟩
    have ne : ∀ {b : Addr}, b ∉ S :: wr → b ≠ S := fun nm e => nm (by rw [e]; exact .head _)
    have kp3 : Kept h0 h' := fun b o e => (sb.2 b fun q => by rw [q, hS0] at e; cases e).trans (kp2 b o e)
    refine wpAny_pure ⟨plainId_quiet F.plain_set_update_loop _, ih (i + 1) _ (by omega) (W.frame _ s2 _ _ st2 (Nat.le_add_right _ _) fun b mb o e => ?_) kp3 z4 fun s3 mv3 z5 => ?_⟩
    · exact (sb.2 b fun e => out (by rw [← e]; exact mb)).trans e
    · exact fin s3 (Moved.trans W.gtrans ((mv.mono grow).then_heap (Nat.le_add_right _ _) fun b o nm e => (sb.2 b (ne nm)).trans e) mv3) z5
end
section
variable {P : Program} {w : World} {A : Around} {E : Value → Shared → Prop} {s : Shared}
set_option maxHeartbeats 0 in
/-- set(ps), ps a list of unlike tuples of texts and numbers -/
theorem set_of_pairs {l : Addr} {items : Array Value} {ks : List (Addr × List Key)} {Q : Value → Shared → Prop} (hh : A.handled = none) (hl : s.heap.IsList l items) (hi : items.toList = ks.map fun p => Value.ref p.1) (few : ks.length ≤ 4) (nd : (ks.map (·.2)).Nodup) (hk : ∀ p ∈ ks, IsK P w s.heap p.2 p.1) (hu : A.units + 8 < cLine)
    (fin : ∀ (h' : Heap) (tk : Nat), PairI P w h' s.heap.objs.size ks ks.length → (∀ b o, s.heap.get? b = some o → h'.get? b = some o) → Q (.ref s.heap.objs.size) { s with heap := h', toks := tk }) : wpAny (model P w) A (call (.type "set") [.ref l]) Q E s := by
  obtain ⟨_, _, mro1⟩ := PySem.F.called_set.mro; have made1 := PySem.F.called_set.made; have sub1 := PySem.F.called_set.sub
  refine wpAny_call (codeAny_of_tree ?_); show wpAny _ _ (callAny (.type "set") _) _ _ _
  refine wpAny_pure ⟨Code.quiet_builtin _ (by decide +kernel), codeAny_builtin PySem.F.entry_type_call ?_⟩; rw [Around.under_plain (weight_type_call_type "set" [.ref l] []) rfl]
  have c1 := PySem.F.called_set.notType; have c2 := PySem.F.called_set.canCreate; have c3 := PySem.F.typeCall_set_1 (.ref l)
  repeat (any_goals (first | assumption | wp_step))
  refine codeAny_mono (code_set_new_1 (.ref l) (E := E) (Q₁ := fun ob t1 => ∃ led : Bool, ob = .ref s.heap.objs.size ∧ t1 = { s with heap := s.heap.push { cls := .type "set", dict := none, data := .set #[] 0 (.fresh 0 0 led) } }) fun b => ⟨b, rfl, rfl⟩) fun rr t1 z => ?_
  cases rr with
  | error e => exact z
  | ok fl =>
    cases fl with
    | ret ob =>
      obtain ⟨led, rfl, rfl⟩ := z
      generalize hob : ({ cls := .type "set", dict := none, data := .set #[] 0 (.fresh 0 0 led) } : Obj) = ob0 at *
      have at0 : (s.heap.push ob0).get? s.heap.objs.size = some ob0 := Heap.get?_push_size _ (by rw [← hob]; rfl)
      have ty0 : Shared.TypeIs { s with heap := s.heap.push ob0 } (.ref s.heap.objs.size) "set" := ⟨_, at0, by rw [← hob]⟩
      have i1 := PySem.F.called_set.init.lookup; have i2 := PySem.F.called_set.init.bind (.ref s.heap.objs.size)
      repeat (any_goals (first | assumption | wp_step))
      refine codeAny_mono (codeAny_call_builtin (R := wants (fun r t2 => r = .none ∧ ∃ h' tk, t2 = { s with heap := h', toks := tk } ∧ PairI P w h' s.heap.objs.size ks ks.length ∧ (∀ b o, s.heap.get? b = some o → h'.get? b = some o)) E) PySem.F.called_set.init.plain PySem.F.entry_set_init (check_set_init_1 ty0 ?_)) fun rr t2 z => ?_
      · obtain ⟨⟨cl, di, da, sl⟩, hol, hcl, nl, hdl⟩ := hl
        simp only at hcl hdl; subst hcl; subst hdl
        have hol2 : (s.heap.push ob0).get? l = some { cls := .type "list", dict := di, data := .seq items nl, slots := sl } := Heap.get?_push_of_some _ hol
        have f1 := PySem.F.sub_list_set; have f2 := PySem.F.sub_list_frozenset; have f3 : (Value.type "list" == Value.type "dict") = false := by decide
        have hl1 : (s.heap.push ob0).IsList l items := ⟨_, hol2, rfl, nl, rfl⟩
        have ls : l < s.heap.objs.size := Heap.lt_size hol
        have szI : (s.heap.push ob0).objs.size = s.heap.objs.size + 1 := Heap.size_push ..
        have neI : l ≠ (s.heap.push ob0).objs.size := by rw [szI]; exact Nat.ne_of_lt (Nat.lt_succ_of_lt ls)
        have out : s.heap.objs.size ∉ [(s.heap.push ob0).objs.size, l] := by
          intro m; simp only [List.mem_cons, List.not_mem_nil, or_false] at m; rw [szI] at m; exact m.elim (Nat.ne_of_lt (Nat.lt_succ_self _)) (Nat.ne_of_gt ls)
        have szI2 := szI
        have at1 := Heap.get?_push_of_some { cls := .type "list_iterator", data := .fields #[.ref l, .int 0 0] } at0
        subst hob
        unfold Builtin.«set.__init__» noKeywords Builtin.Frozenset.updateFrom
        generalize hPI : pyIter = PI; wp_walk; subst hPI
        refine wpAny_pyIter_list hl1 ?_; refine wpAny_bind (wpAny_runValue ?_)
        have len : ks.length = items.size := by rw [← Array.length_toList, hi, List.length_map]
        have hv : ∀ (i : Nat) (v : Value), items[i]? = some v → ∃ p, ks[i]? = some p ∧ v = .ref p.1 := fun i v e => by
          rw [← Array.getElem?_toList, hi, List.getElem?_map] at e
          cases q : ks[i]? with
          | none => rw [q] at e; cases e
          | some p => rw [q] at e; exact ⟨p, rfl, (Option.some.inj e).symm⟩
        have gone : ∀ b, s.heap.objs.size ≤ b → s.heap.get? b = none := fun b lb => by
          cases q : s.heap.get? b with
          | none => rfl
          | some o => exact absurd (Nat.lt_of_lt_of_le (Heap.lt_size q) lb) (Nat.lt_irrefl _)
        have hh3 : A.in1.in1.in1.handled = none := by simp [hh]
        refine set_loopP ((Walks.list hh3 _ l neI items).toS) out len (by omega) nd hv hk (gone _ (Nat.le_refl _)) (fun b m => gone b (by rw [List.mem_singleton.mp m, szI]; exact Nat.le_succ _)) ?zU items.size 0 _ (Nat.zero_add _) ⟨⟨_, Heap.get?_push_size _ rfl, rfl, rfl⟩, hl1.push _⟩ (fun b o e => Heap.get?_push_of_some _ (Heap.get?_push_of_some _ e)) ?z0 ?zR
        case zU => show _ < cLine; simp; omega
        case z0 =>
          exact ⟨[], #[], 0, _, setP_fresh at1, .refl _⟩
        case zR =>
          rintro ⟨h', g', d', tk', os'⟩ mv z
          obtain rfl : g' = s.gens := mv.gens; obtain rfl : d' = s.drawn := mv.drawn; obtain rfl : os' = s.os := mv.os
          show wpAny _ _ _ _ _ _
          refine wpAny_pure ?_; show wpAny _ _ (ret Value.none) _ _ _
          refine wpAny_pure ⟨rfl, h', tk', rfl, by rw [len]; exact z, fun b o e => ?_⟩
          have lb := Heap.lt_size e
          refine mv.heap b o (fun m => ?_) (Heap.get?_push_of_some _ (Heap.get?_push_of_some _ e))
          simp only [List.mem_cons, List.not_mem_nil, or_false] at m
          exact m.elim (fun e => absurd e (Nat.ne_of_lt lb)) fun e => absurd (e.trans szI2) (Nat.ne_of_lt (Nat.lt_succ_of_lt lb))
      · cases rr with
        | error e => exact z
        | ok f2 =>
          cases f2 with
          | ret r =>
            obtain ⟨rfl, h', tk, rfl, z1, z2⟩ := z
            repeat (any_goals (first | assumption | wp_step))
            exact fin _ _ z1 z2
          | _ => exact z.elim
    | _ => exact z.elim
end
theorem refs_keys : ∀ {ks : List (Addr × List Key)} {us : List Value}, Vals (ks.map fun p => V.ref p.1) us → us = ks.map fun p => Value.ref p.1
  | [], _, .nil => rfl
  | _ :: _, _, .cons h r => by cases h; rw [refs_keys r]; rfl
def tLenSetU (K : PySem.W.Frag) (ta : TE) : TE := fun σ H Q => ta σ H fun x H1 => (∃ (l : Addr) (xs : List Str), x = .ref l ∧ (SqL K H1 l (xs.map V.str) ∨ SqT K H1 l (xs.map V.str)) ∧ xs.length ≤ 4000 ∧ ∀ c : Nat, (c = xs.length ↔ xs.Nodup) → Q (.int (c : Nat)) H1) ∨
  ∃ (l : Addr) (ks : List (Addr × List Key)), x = .ref l ∧ SqL K H1 l (ks.map fun p => V.ref p.1) ∧ (∀ p ∈ ks, H1 p.1 = some (.tup (p.2.map kV))) ∧ (ks.map (·.2)).Nodup ∧ ks.length ≤ 4 ∧ Q (.int (ks.length : Nat)) H1
theorem pe_lenSetU {X : Cx} {K : PySem.W.Frag} {a : Expr} {ta : TE} {p p2 q pos : Pos} (kk : X.K = K) (hu : X.A.units + 64 < cLine) (hc : X.calm = true) (hg : Gl X "len") (hm : X.mg "len" = none) (hg2 : Gl X "set") (hm2 : X.mg "set" = none) (ha : PE X a ta)
    (na : starEach [a] X.env = (false, eval a X.env) :: starEach [] X.env := by rfl) : PE X (.Call (.Name "len" p) [.Call (.Name "set" p2) [a] [] q] [] pos) (tLenSetU K ta) := by
  subst kk
  refine ⟨fun pins s σ H Q I h => Call_ (ld_blt I hg hm boot_len (PyProof.Rows.callWith_builtin1 (PyProof.Rows.args_cons ?_ rfl) rfl rfl))⟩
  refine Call_ (ld_blt I hg2 hm2 boot_set (PyProof.Rows.callWith_type1 (PyProof.Rows.args_cons (thn (ha.run pins s σ H _ I h) fun v s1 ⟨x, H1, I1, r1, q1⟩ => PyProof.Rows.args_nil ?_) na) na rfl))
  rcases q1 with ⟨l, xs, rfl, hq, h1, q1⟩ | ⟨l, ks, rfl, hq, hks, nd, few, q1⟩
  rotate_left
  · cases r1
    obtain ⟨its, r, pl, hz⟩ := I1.list hq
    have hi : its = ks.map fun p => Value.ref p.1 := refs_keys r
    refine set_of_pairs (I1.ok.hd hc) pl.isList (by simpa using hi) few nd (fun p m => key_of I1.hok (hks p m)) (Nat.lt_of_le_of_lt (Nat.add_le_add_left (by decide) _) hu) fun h' tk z k => ?_
    obtain ⟨L, es, ep, t, R, pm⟩ := z
    have sz := R.size
    have pl := pm.length_eq
    rw [List.take_length] at pl
    obtain ⟨o, ho, hex, hd⟩ := R.ob
    have I2 : Inv X pins σ H1 { s1 with heap := h', toks := tk } := I1.kept k
    exact PyProof.Rows.args_nil (call_len_set ho hex hd R.fits (by omega) ⟨.int (ks.length : Nat), H1, I2.tok _, ⟨_, by rw [← pl, ← sz]⟩, q1⟩)
  cases r1
  have lim : xs.length + 1 < scanBound := Nat.lt_of_le_of_lt (Nat.succ_le_succ h1) (by decide)
  have fin : ∀ (h' : Heap) (tk : Nat), SetI X.prog X.w h' s1.heap.objs.size xs xs.length → (∀ b o, s1.heap.get? b = some o → h'.get? b = some o) →
      wpAny (model X.prog X.w) X.A (spliced (backTo pos (starEach [] X.env))) (fun vs t => wpAny (model X.prog X.w) X.A (call (.builtin "len") (Value.ref s1.heap.objs.size :: vs)) (EP X pins σ Q) X.xe t) X.xe { s1 with heap := h', toks := tk } := fun h' tk z k => by
    obtain ⟨c, d, o, es, ep, t, ho, hex, hd, _, _, hb, hf, hn⟩ := z
    have I2 : Inv X pins σ H1 { s1 with heap := h', toks := tk } := I1.kept k
    refine PyProof.Rows.args_nil (call_len_set ho hex hd hf (by rw [hn]; have := d.1; omega) ⟨.int (c : Nat), H1, I2.tok _, ⟨_, by rw [hn]⟩, q1 c ?_⟩)
    have d2 := d.2
    rwa [List.take_length] at d2
  rcases hq with hq | hq
  · obtain ⟨its, r, pl, hz⟩ := I1.list hq
    exact set_of_list (I1.ok.hd hc) pl.isList (by simpa using strsAre_of r) lim fin
  · obtain ⟨its, r, pl, hz⟩ := I1.tuple hq
    exact set_of_tuple (I1.ok.hd hc) pl (by simpa using strsAre_of r) lim fin
/-! ### == and != by an own __eq__, whatever stands on the other side -/
inductive AnyK (H : Hp) (C : Addr) : V → Value → Prop
  | int (i : Int) : AnyK H C (.int i) (.type "int")
  | tup {a : Addr} {xs : List V} (h : H a = some (.tup xs)) : AnyK H C (.ref a) (.type "tuple")
  | ins {a dx : Addr} {fs : List (Str × V)} (h : H a = some (.ins C dx fs)) : AnyK H C (.ref a) (.ref C)
def rEqO (C : Addr) (sp : Sp) (E : XK) (b0 : Bool) : R2 := fun x y H Q => ∃ (a dx : Addr) (fs : List (Str × V)) (tb : Value), x = .ref a ∧ H a = some (.ins C dx fs) ∧ AnyK H C y tb ∧ sp [.ref a, y] H (fun v H' => ∃ b : Bool, v = .bl b ∧ Q (.bl (b0 == b)) H') E
theorem sub_int {K : PySem.W.Frag} {C : Addr} : PySem.W.subIn K (.type "int") (.ref C) = some false := by
  have e : fastBuiltinMro "int" = some [.type "int", .type "object"] := by decide +kernel
  show (fastBuiltinMro "int").map (·.contains (.ref C)) = some false
  rw [e]; first | rfl | simp
theorem sub_tuple {K : PySem.W.Frag} {C : Addr} : PySem.W.subIn K (.type "tuple") (.ref C) = some false := by
  have e : fastBuiltinMro "tuple" = some [.type "tuple", .type "object"] := by decide +kernel
  show (fastBuiltinMro "tuple").map (·.contains (.ref C)) = some false
  rw [e]; first | rfl | simp
section
variable {X : Cx} {CX : CXT} {k : Nat} {f C : Addr} {fd : FuncData} {ps : List Str} {sp : Sp} {E : XK}
theorem any_looks {pins : List (Addr × Obj)} {σ : L2.St} {H : Hp} {s : Shared} {y : V} {u tb : Value} {M : Model} (I : Inv X pins σ H s) (r : RelV y u) (h : AnyK H C y tb) : PySem.W.Looks M s.heap (typeOf u) tb ∧ PySem.W.notFirst X.K C tb = true := by
  cases h with
  | int i =>
    obtain ⟨t, e⟩ := (show ∃ t, u = Value.int i t from r)
    cases e
    exact ⟨PySem.W.Looks.of_pure rfl, by unfold PySem.W.notFirst; rw [sub_int]; rfl⟩
  | @tup a xs ha =>
    cases (show u = Value.ref a from r)
    obtain ⟨_, _, _, o, h1, h2, _⟩ := (show ObjOk X.prog X.w H s.heap a (.tup xs) from I.hok a _ ha)
    refine ⟨?_, by unfold PySem.W.notFirst; rw [sub_tuple]; rfl⟩
    rw [← h2]
    exact (PySem.W.Looks.ld h1).andThen .now
  | @ins a dx fs ha =>
    cases (show u = Value.ref a from r)
    obtain ⟨mA, J, _⟩ := ins_get I.hok ha
    obtain ⟨od, J, _⟩ := J.look
    exact ⟨J.type, by simp [PySem.W.notFirst]⟩
theorem own_run {A : Around} (G : FnOk X.prog X.w X.K X.mg X.base CX k f fd ps sp) (sb : Sub X k A) (hb : Binds X.K fd ps []) (hx : Passes CX X E) {pins : List (Addr × Obj)} {σ : L2.St} {H : Hp} {s : Shared} {vs : List V} {us : List Value} {Q : VK}
    (I : Inv X pins σ H s) (r : Vals vs us) (h : sp vs H Q E) : wpAny (model X.prog X.w) A (call (.ref f) us) (EP X pins σ Q) X.xe s := by
  have e0 : Env0 X.prog X.w X.K X.mg X.base A X.stack s H := by
    have e := I.env0
    exact ⟨by rw [sb.fr]; exact e.frames, e.mod, e.bs, e.bsz, e.funs, e.frf, e.hok, e.bare⟩
  have hl : us.length = ps.length := by rw [← r.length]; exact G.len _ _ _ _ h
  refine wpAny_call (codeAny_mono (G.run A X.stack s H ⟨us, []⟩ us vs Q E sb.room e0 (by
    have := hb s us I.kIn (by simpa using hl)
    simpa using this) r h) fun r s' hq => ?_)
  cases r with
  | error e => exact hx pins σ H s e s' I hq
  | ok fl =>
    cases fl with
    | ret u => exact I.after hq
    | next => exact False.elim hq
    | brk => exact False.elim hq
    | cont => exact False.elim hq
theorem op_eqOwn (hm : Meth X.K C "__eq__" f) (G : FnOk X.prog X.w X.K X.mg X.base CX k f fd ps sp) (hr : Room k X.A) (hb : Binds X.K fd ps []) (hx : Passes CX X E) : OpR X (compareOp .Eq) (rEqO C sp E true) := by
  intro pins s σ H x y v u Q I rx ry h
  obtain ⟨a, dx, fs, tb, rfl, ha, ky, q⟩ := h
  cases (show v = Value.ref a from rx)
  obtain ⟨mA, J, _⟩ := ins_get I.hok ha
  obtain ⟨od, J, _⟩ := J.look
  obtain ⟨m, hF⟩ := I.fr
  obtain ⟨lk, nf⟩ := any_looks (M := model X.prog X.w) I ry ky
  show wpAny (model X.prog X.w) X.A (richCompare .Eq (.ref a) u) _ _ _
  refine PySem.W.cmp_K (op := .Eq) hr.units0 hF I.ok.mod.kin J lk nf hm.at_ hm.fn ?_
  refine wpAny_mono (own_run (us := [.ref a, u]) (vs := [.ref a, y]) G ⟨hr, rfl⟩ hb hx I (.cons rfl (.cons ry .nil)) q) (fun z s' hz => ?_) fun _ _ e => e
  obtain ⟨v, H', I', rv, b, rfl, q'⟩ := hz
  cases (show z = Value.bool b from rv)
  refine ⟨.bl b, H', I', rfl, ?_⟩
  simpa using q'
theorem ifBound_bi {M : Model} {A : Around} {Z : Value → Shared → Prop} {s : Shared} {K : PySem.W.Frag} {x : Addr} {ox : Obj} {od : Option Obj} {args : List Value} {Q : Option Value → Shared → Prop} (X : K.In s.heap) (I : PySem.W.InstAt s.heap x ox C od)
    (hs : PySem.W.findIn K (.ref C) "__ne__" = some (some (.builtin "object.__ne__"))) (h : wpAny M A (call (.builtin "object.__ne__") (.ref x :: args)) (fun v => Q (some v)) Z s) : wpAny M A (callSpecialIfBound? (.ref x) "__ne__" args) Q Z s := by
  unfold callSpecialIfBound? bindSpecialIfBound?
  refine wpAny_holding (wpAny_bind (wpAny_bind (wpAny_bind (I.type.here ((PySem.W.looks_findIn X hs).here ?_)))))
  refine wpAny_bind (wpAny_askSetting (wpAny_ite ?_))
  have last : wpAny M A (call (.builtin "object.__ne__") ([.ref x] ++ args) >>= fun v => pure (some v)) Q Z s := wpAny_bind (wpAny_mono h (fun v s' h' => wpAny_pure h') fun _ _ h' => h')
  split
  · exact wpAny_bind (wpAny_of_eq (F.cmp_object.ne.bind _) (wpAny_pure (by exact last)))
  · exact wpAny_tryCatch (wpAny_bind (wpAny_of_eq (F.cmp_object.ne.bind _) (wpAny_pure (by exact last))))
theorem op_neOwn (hm : Meth X.K C "__eq__" f) (hne : PySem.W.findIn X.K (.ref C) "__ne__" = some (some (.builtin "object.__ne__"))) (ho : PySem.W.mroIn X.K C (.type "object") = some true)
    (G : FnOk X.prog X.w X.K X.mg X.base CX k f fd ps sp) (hr : Room (k + 1) X.A) (hb : Binds X.K fd ps []) (hx : Passes CX X E) : OpR X (compareOp .NotEq) (rEqO C sp E false) := by
  intro pins s σ H x y v u Q I rx ry h
  obtain ⟨a, dx, fs, tb, rfl, ha, ky, q⟩ := h
  cases (show v = Value.ref a from rx)
  obtain ⟨mA, J, _⟩ := ins_get I.hok ha
  obtain ⟨od, J, _⟩ := J.look
  obtain ⟨lk, nf⟩ := any_looks (M := model X.prog X.w) I ry ky
  have KI := I.kIn
  have run : wpAny (model X.prog X.w) X.A.in1 (call (.ref f) [.ref a, u]) (fun z s' => ∃ b : Bool, z = .bool b ∧ EP X pins σ Q (.bool (!b)) s') X.xe s := by
    refine wpAny_mono (own_run (us := [.ref a, u]) (vs := [.ref a, y]) G (Sub.in1 ⟨hr, rfl⟩) hb hx I (.cons rfl (.cons ry .nil)) q) (fun z s' hz => ?_) fun _ _ e => e
    obtain ⟨v, H', I', rv, b, rfl, q'⟩ := hz
    cases (show z = Value.bool b from rv)
    exact ⟨b, rfl, .bl (!b), H', I', rfl, by cases b <;> exact q'⟩
  have hu1 : X.A.in1.units < cLine := by have := hr.units; show X.A.units + 1 < cLine; omega
  have one : wpAny (model X.prog X.w) X.A (tryCompare (.ref a) "__ne__" u) (fun r s' => ∃ v, r = some v ∧ EP X pins σ Q v s') X.xe s := by
    unfold tryCompare
    refine wpAny_bind (ifBound_bi KI J hne ?_)
    refine wpAny_call (codeAny_call_builtin F.cmp_object.ne.plain F.cmpEntry_ne (PySem.W.check_slot F.cmpKind_ne F.cmpSplit_ne (J.type.andThen (PySem.W.looks_mroIn KI ho)) (F.cmpArgs_ne _ _) ?_))
    unfold Builtin.«object.__ne__»
    repeat (first
      | with_reducible refine wpAny_cRoomFor hu1 ?_
      | (refine wpAny_bind (m := callSpecialIfBound? (.ref a) (Str.ofString "__eq__") [u])
          (PySem.W.ifBound_K KI J hm.at_ hm.fn (wpAny_mono run (fun r s' hz => by
            obtain ⟨b, rfl, hq⟩ := hz
            repeat (first | exact ⟨_, rfl, hq⟩ | exact wpAny_pure ⟨_, rfl, hq⟩ | exact wpAny_truthy_bool ⟨_, rfl, hq⟩ | (refine wpAny_bind (m := truthy (.bool _)) (wpAny_truthy_bool ?_)) | wp_step)) fun _ _ e => e)))
      | wp_step)
  show wpAny (model X.prog X.w) X.A (richCompare .NotEq (.ref a) u) _ _ _
  unfold richCompare
  simp only [oneThing_ref]
  refine wpAny_holding (wpAny_bind (wpAny_cRoomFor hr.units0 ?_))
  rw [cmpInfo_NotEq]; dsimp only
  refine wpAny_bind (J.type.here (wpAny_bind (lk.here ?_)))
  have fin : ∀ {α : Type} {Y : α → Shared → Prop} {m : Option Value → Sem α}, (∀ v s', EP X pins σ Q v s' → wpAny (model X.prog X.w) X.A (m (some v)) Y X.xe s') → wpAny (model X.prog X.w) X.A (tryCompare (.ref a) "__ne__" u >>= m) Y X.xe s := fun h => by
    refine wpAny_bind (wpAny_mono one (fun r s' z => ?_) fun _ _ e => e)
    obtain ⟨v, rfl, hq⟩ := z
    exact h v s' hq
  split
  · rename_i qq
    have e : PySem.W.subIn X.K tb (.ref C) = some false := by
      rcases Bool.or_eq_true_iff.mp nf with e | e
      · rw [beq_iff_eq.mp e] at qq; simp at qq
      · exact beq_iff_eq.mp e
    refine wpAny_bind ((PySem.W.looks_subIn KI e).here ?_)
    simp only [Bool.false_eq_true, if_false]
    exact fin fun v s' hq => wpAny_pure hq
  · refine wpAny_bind (wpAny_pure ?_)
    simp only [Bool.false_eq_true, if_false]
    exact fin fun v s' hq => wpAny_pure hq
end
/-! ### zip of a text and a tuple -/
def ItzS (K : PySem.W.Frag) (a : Str) (b : Addr) : It :=
  ⟨fun i H => ∃ (ys : List V) (c : Nat) (y : V), SqT K H b ys ∧ a.cps[i]? = some c ∧ ys[i]? = some y,
    fun i H v H' => ∃ T c y, v = .ref T ∧ H T = none ∧ H' = upd H T (.tup [.str ⟨#[c]⟩, y]) ∧ a.cps[i]? = some c ∧ ∀ ys, SqT K H b ys → ys[i]? = some y,
    fun i H => ∃ ys : List V, SqT K H b ys ∧ i = min a.cps.size ys.length⟩
theorem turn_zipS {P : Program} {w : World} {K : PySem.W.Frag} {elts : List Expr} {kk : Nat} {tpos : Pos} {a : Str} {tk0 : Tok} {b z TI TO i1 i2 : Addr} (D : ZipSep2 z TI TO i1 i2 [i1] [i2, b]) (n2 : b ≠ i2) :
    Turn P w K (.Tuple elts kk tpos) (ItzS K a b) [z, TI, TO, i1, i2] z (fun i h => IsZip h z TI TO .none ∧ IsTupOf2 h TI (.ref i1) (.ref i2) ∧ (∃ x y, IsTupOf2 h TO x y) ∧ h.IsStrIter i1 (strIterType a) a tk0 i ∧ h.IsTupleIter i2 b i) where
  mem := List.mem_cons_self
  obj := fun i h st c hc => by
    obtain ⟨q1, q2, ⟨x, y, q3⟩, ⟨o1, e1, _, d1⟩, ⟨o2, e2, _, d2⟩⟩ := st
    have e' : c = z ∨ c = TI ∨ c = TO ∨ c = i1 ∨ c = i2 := by simpa using hc
    rcases e' with q | q | q | q | q <;> rw [q]
    · exact ⟨_, q1, fun v u => nomatch u⟩
    · exact ⟨_, q2, fun v u => nomatch u⟩
    · exact ⟨_, q3, fun v u => nomatch u⟩
    · exact ⟨o1, e1, fun v u => by rw [d1] at u; cases u⟩
    · exact ⟨o2, e2, fun v u => by rw [d2] at u; cases u⟩
  keep := fun i h h' st k => by
    obtain ⟨q1, q2, ⟨x, y, q3⟩, h1, h2⟩ := st
    exact ⟨k z (by simp) _ q1, k TI (by simp) _ q2, ⟨x, y, k TO (by simp) _ q3⟩, (by obtain ⟨o, ho, r⟩ := h1; exact ⟨o, k i1 (by simp) o ho, r⟩), h2.at fun o q => k i2 (by simp) o q⟩
  item := by
    intro X hP hw hK hc i pins s σ H E I hf st hg
    subst hP hw hK
    obtain ⟨q1, q2, q3, h1, h2⟩ := st
    obtain ⟨ys, c0, y, hqy, hx, hy⟩ := hg
    obtain ⟨its2, rv2, p2, _⟩ := I.tuple hqy
    obtain ⟨u2, hu2, ru2⟩ := rv2.get hy
    have W := WalksT.zipD2 (A := X.A) D (Draws.text (prog := X.prog) (w := X.w) (A := X.A.in1) (I.ok.hd hc) i1 a tk0) (Draws.tuple (A := X.A.in1) (I.ok.hd hc) i2 b n2 its2.toArray)
    have lt : i < min a.cps.size its2.toArray.size := by
      obtain ⟨z1, _⟩ := Array.getElem?_eq_some_iff.mp hx
      obtain ⟨z2, _⟩ := List.getElem?_eq_some_iff.mp hu2
      simp only [List.size_toArray]
      omega
    refine W.item i s _ _ lt ⟨q1, q2, q3, h1, ⟨h2, p2⟩⟩ fun T vals h' tk hP hT0 hT hM hk => ⟨_, rfl, W.go _ _ _ i T { s with heap := h', toks := tk } _ _ hM fun h2' st2 hk2 => ?_⟩
    obtain ⟨x', y', e1, e2, rfl⟩ := hP
    obtain ⟨c1, u1, e1, rfl⟩ := e1
    obtain rfl : c0 = c1 := Option.some.inj (hx.symm.trans e1)
    obtain rfl : y' = u2 := by
      have e2 : its2.toArray[i]? = some y' := e2
      rw [List.getElem?_toArray, hu2] at e2
      exact (Option.some.inj e2).symm
    have hT2 : h2'.IsTuple T #[.str ⟨#[c0]⟩ u1, y'] := hT.at fun o e => hk2 T o (W.apart i T _ hM) e
    have sub : ∀ c, c ∉ [z, TI, TO, i1, i2] → c ∉ [z, TO, i1, i2] := fun c hc q => hc (by
      have e' : c = z ∨ c = TO ∨ c = i1 ∨ c = i2 := by simpa using q
      rcases e' with q | q | q | q <;> simp [q])
    have okn : ObjOk X.prog X.w (upd H T (.tup [.str ⟨#[c0]⟩, y])) h2' T (.tup [.str ⟨#[c0]⟩, y]) := by
      refine ⟨?_, [.str ⟨#[c0]⟩ u1, y'], .cons ⟨u1, rfl⟩ (.cons ru2 .nil), hT2⟩
      show 2 ≤ sizeLine
      decide
    refine ⟨.ref T, _, I.turnedNew (t' := tk) (ch := [z, TI, TO, i1, i2]) (fun c o hb q => hk2 c o (sub c hb) (hk c o (sub c hb) q)) hf hT0 okn, rfl, ⟨_, c0, y, rfl, I.hok.fresh hT0, rfl, hx, fun l hl => by rw [I.tuple_inj hl hqy]; exact hy⟩, ⟨st2.1, st2.2.1, st2.2.2.1, st2.2.2.2.1, st2.2.2.2.2.1⟩, fun c hcm => ?_⟩
    have hlt : c < s.heap.objs.size := by
      obtain ⟨xx, yy, q3'⟩ := q3
      have e' : c = z ∨ c = TI ∨ c = TO ∨ c = i1 ∨ c = i2 := by simpa using hcm
      rcases e' with q | q | q | q | q <;> rw [q]
      · exact Heap.lt_size q1
      · exact Heap.lt_size q2
      · exact Heap.lt_size q3'
      · obtain ⟨_, e1, _⟩ := h1; exact Heap.lt_size e1
      · obtain ⟨_, e2, _⟩ := h2; exact Heap.lt_size e2
    rw [upd_ne (Nat.ne_of_lt (Nat.lt_of_lt_of_le hlt hT0))]
    exact (hf c hcm).1
  done := by
    intro X hP hw hK hc i pins s σ H E I hf st hg
    subst hP hw hK
    obtain ⟨q1, q2, q3, h1, h2⟩ := st
    obtain ⟨ys, hqy, rfl⟩ := hg
    obtain ⟨its2, rv2, p2, _⟩ := I.tuple hqy
    have W := WalksT.zipD2 (A := X.A) D (Draws.text (prog := X.prog) (w := X.w) (A := X.A.in1) (I.ok.hd hc) i1 a tk0) (Draws.tuple (A := X.A.in1) (I.ok.hd hc) i2 b n2 its2.toArray)
    have el : min a.cps.size ys.length = min a.cps.size its2.toArray.size := by rw [rv2.length, ← List.size_toArray]
    rw [el] at h1 h2
    refine W.done s _ _ ⟨q1, q2, q3, h1, ⟨h2, p2⟩⟩ fun h' tk hk => ⟨rfl, I.turnedL (t' := tk) (ch := [z, TI, TO, i1, i2]) (fun c o hb q => hk c o (fun y => hb ?_) q) hf⟩
    have e' : c = z ∨ c = TO ∨ c = i1 ∨ c = i2 := by simpa using y
    rcases e' with q | q | q | q <;> simp [q]
  self := fun A i s Q E st h => wpAny_pyIter_zip st.1 h
def ZpS (K : PySem.W.Frag) (R : It → Hp → Prop) (vs : List V) (H : Hp) : Prop := ∃ (a : Str) (b : Addr) (ys : List V), vs = [.str a, .ref b] ∧ SqT K H b ys ∧ R (ItzS K a b) H
def iZipS (K : PySem.W.Frag) (ta : TA) : TI := fun σ H R => ta σ H (ZpS K R)
theorem pi_zipTx {X : Cx} {e e2 : Expr} {ta : TA} {p pos tpos : Pos} {elts : List Expr} {kk : Nat} (hg : Gl X "zip") (hm : X.mg "zip" = none) (ha : PA X [e, e2] ta)
    (hs : starEach [e, e2] X.env = (false, eval e X.env) :: starEach [e2] X.env := by rfl) (hpl : (backTo pos (starEach [e2] X.env)).any (·.1) = false := by rfl) :
    PI X (.Tuple elts kk tpos) (.Call (.Name "zip" p) [e, e2] [] pos) (iZipS X.K ta) := by
  refine ⟨fun pins s σ H R I h => ?_⟩
  refine Call_ (ld_blt I hg hm PyProof.Rows.boot_zip (PyProof.Rows.callWith_type1 (thn (ha.run pos pins s σ H _ I h) fun us t ⟨vs, H1, J, r1, q1⟩ => ?_) hs hpl))
  obtain ⟨a, b, ys, rfl, hqy, q⟩ := q1
  obtain ⟨u, v, rfl, ru, rv⟩ := vals2 r1
  obtain ⟨tk0, rfl⟩ := ru
  obtain rfl : v = Value.ref b := rv
  have fr : ∀ c, c ∈ [t.heap.objs.size + 4, t.heap.objs.size + 2, t.heap.objs.size + 3, t.heap.objs.size, t.heap.objs.size + 1] → FpOk X pins H1 c := fun c hcm => by
    have le : t.heap.objs.size ≤ c := by
      have e' : c = t.heap.objs.size + 4 ∨ c = t.heap.objs.size + 2 ∨ c = t.heap.objs.size + 3 ∨ c = t.heap.objs.size ∨ c = t.heap.objs.size + 1 := by simpa using hcm
      rcases e' with z | z | z | z | z <;> rw [z]
      · exact Nat.le_add_right _ _
      · exact Nat.le_add_right _ _
      · exact Nat.le_add_right _ _
      · exact Nat.le_refl _
      · exact Nat.le_add_right _ _
    exact J.fpOk le (J.hok.fresh le)
  obtain ⟨its2, w2, p2, _⟩ := J.tuple hqy
  have lb : b < t.heap.objs.size := by obtain ⟨_, z, _⟩ := p2; exact Heap.lt_size z
  refine zip_begins2 (begins_text a tk0) (begins_tuple b its2.toArray) trivial p2 fun g hz hTI hTO h1 h2 _ hk => wpAny_pyIter_zip hz ?_
  exact ⟨t.heap.objs.size + 4, _, _, _, H1, rfl, J.kept (t' := t.toks) hk, turn_zipS (tk0 := tk0) (zip_sep2 (N := t.heap.objs.size) (fp1 := []) (fp2 := [b]) (by simp) (by simpa using lb)) (Nat.ne_of_lt (Nat.lt_succ_of_lt lb)),
    ⟨hz, hTI, ⟨_, _, hTO⟩, ⟨_, h1, rfl, rfl⟩, ⟨_, h2, rfl, rfl⟩⟩, fr, q⟩
section
variable {K : PySem.W.Frag}
theorem walk_zipS {a : Str} {b : Addr} {ys : List V} {n : Nat} (hn : n = min a.cps.size ys.length) : Walk (ItzS K a b) n (fun H => SqT K H b ys) (YPair (fun i => a.cps[i]?.map fun c => V.str ⟨#[c]⟩) (fun i => ys[i]?)) where
  goes := fun i H hi h => ⟨ys, a.cps[i]'(by omega), ys[i]'(by omega), h, Array.getElem?_eq_getElem (by omega), List.getElem?_eq_getElem (by omega)⟩
  stops := fun H h => ⟨ys, h, hn⟩
  yields := fun i H x H' _ h y => by
    obtain ⟨T, c, y1, e1, e2, e3, e4, e5⟩ := y
    exact ⟨T, .str ⟨#[c]⟩, y1, e1, e2, e3, by show a.cps[i]?.map _ = _; rw [e4]; rfl, e5 ys h⟩
theorem r_izs {ta : TA} {σ : L2.St} {H : Hp} {R : It → Hp → Prop} (h : ta σ H (ZpS K R)) : iZipS K ta σ H R := h
theorem r_zxs {R : It → Hp → Prop} {a : Str} {b : Addr} {ys : List V} {H : Hp} (e : SqT K H b ys) (h : R (ItzS K a b) H) : ZpS K R [.str a, .ref b] H := ⟨a, b, ys, rfl, e, h⟩
end
/-! ### sorted(xs), sorted(d): triples that begin with a text, these all unlike -/
def PrS (h : Heap) (v : Value) (z : Str) : Prop := ∃ (b : Addr) (ob : Obj) (tk : Tok) (y y2 : Value) (m : Nat), v = Value.ref b ∧ h.get? b = some ob ∧ ob.cls = Value.type "tuple" ∧ ob.data = Data.seq #[Value.str z tk, y, y2] m
theorem PrS.mono {h g : Heap} {v : Value} {z : Str} (p : PrS h v z) (k : ∀ b o, h.get? b = some o → o.cls = Value.type "tuple" → g.get? b = some o) : PrS g v z := by
  obtain ⟨b, ob, tk, y, y2, m, e, e1, e2, e3⟩ := p
  exact ⟨b, ob, tk, y, y2, m, e, k b ob e1 e2, e2, e3⟩
theorem PrS.heads {h : Heap} {k : Value → Str} : ∀ {vs : List Value}, (∀ v ∈ vs, PrS h v (k v)) → ∃ fs : List Value, PySem.W.KatTups h vs fs ∧ fs.length = vs.length ∧ ∀ f ∈ fs, ∃ z tk, f = Value.str z tk
  | [], _ => ⟨[], trivial, rfl, fun f m => absurd m (by simp)⟩
  | v :: vs, hp => by
    obtain ⟨fs, a1, a2, a3⟩ := PrS.heads (vs := vs) fun u m => hp u (List.mem_cons_of_mem _ m)
    obtain ⟨b, ob, tk, y, y2, m, e, e1, e2, e3⟩ := hp v List.mem_cons_self
    refine ⟨Value.str (k v) tk :: fs, ?_, by simp [a2], fun f z => ?_⟩
    · rw [e]
      rw [e] at e3
      exact PySem.W.KatTups.cons e1 e2 e3 rfl a1
    · rcases List.mem_cons.mp z with q | q
      · exact ⟨_, _, q⟩
      · exact a3 f q
def byS {α : Type} (k : α → Str) (x y : α) : Bool := decide ((k x).cps.toList < (k y).cps.toList)
theorem byS_swo {α : Type} (k : α → Str) : SrtO.Swo (byS k) := by
  refine ⟨fun x y h => ?_, fun x y z h g => ?_⟩
  · have := of_decide_eq_true h
    exact decide_eq_false fun q => List.lt_asymm this q
  · have h := List.not_lt.mp (of_decide_eq_false h)
    have g := List.not_lt.mp (of_decide_eq_false g)
    exact decide_eq_false (List.not_lt.mpr (List.le_trans h g))
section
variable {prog : Program} {w : World} {A : Around} {s : Shared}
theorem PrS.cmp {vs : List Value} {k : Value → Str} (hp : ∀ v ∈ vs, PrS s.heap v (k v)) (inj : ∀ v ∈ vs, ∀ u ∈ vs, k v = k u → v = u) :
    SrtO.Cmp prog w A s (PyProof.Rows.tuples' true) (fun p => p.1 ∈ vs) (SrtO.lt2 (byS k)) := by
  intro p q m1 m2
  have l1 : p.1 ∈ vs := m1
  have l2 : q.1 ∈ vs := m2
  show wpAny (model prog w) A (PyProof.Rows.keyLt' (PyProof.Rows.tuples' true) p.1 q.1) (fun r t => t = s ∧ r = byS k p.1 q.1) (fun _ _ => False) s
  by_cases c : k p.1 = k q.1
  · have ev := inj _ l1 _ l2 c
    have ef : byS k p.1 q.1 = false := decide_eq_false (by rw [c]; exact List.lt_irrefl _)
    rw [ef, ← ev]
    obtain ⟨b, ob, tk, y, y2, m, e, e1, e2, e3⟩ := hp _ l1
    rw [e]
    refine PySem.W.kat_lt e1 e3 e1 e3 (PySem.W.kat_cons (SeqAt.EqAt.same _ prog w _ _ (PySem.W.kat_yes ?_)))
    refine PySem.W.kat_cons (SeqAt.EqAt.same _ prog w _ _ (PySem.W.kat_yes ?_))
    exact PySem.W.kat_cons (SeqAt.EqAt.same _ prog w _ _ (PySem.W.kat_yes (PySem.W.kat_nil ⟨rfl, by rfl⟩)))
  · have ef : byS k p.1 q.1 = decide ((k p.1).cps.toList < (k q.1).cps.toList) := rfl
    rw [ef]
    generalize he : k p.1 = i at c ⊢
    generalize he' : k q.1 = j at c ⊢
    obtain ⟨b, ob, tk, y, y2, m, e, e1, e2, e3⟩ := hp _ l1
    obtain ⟨b', ob', tk', y', y2', m', e', e1', e2', e3'⟩ := hp _ l2
    rw [he] at e3
    rw [he'] at e3'
    rw [e, e']
    have en : (i == j) = false := by simpa using c
    refine PySem.W.kat_lt e1 e3 e1' e3' (PySem.W.kat_cons (SeqAt.EqAt.str_str i tk j tk' prog w _ _ ?_))
    rw [en]
    exact PySem.W.kat_no (PyProof.Rows.oneLt_str ⟨rfl, rfl⟩)
theorem PrS.sortable {a : Addr} {vs : List Value} {k : Value → Str} (n : 0 < vs.length) (hp : ∀ v ∈ vs, PrS s.heap v (k v)) (inj : ∀ v ∈ vs, ∀ u ∈ vs, k v = k u → v = u)
    (ha : ∀ o, s.heap.get? a = some o → o.cls ≠ Value.type "tuple") : SrtO.SortableO prog w A s a vs (byS k) := by
  intro g kk
  have hg : ∀ v ∈ vs, PrS g v (k v) := fun v m => (hp v m).mono fun b o e c => kk b o (by rintro rfl; exact ha o e c) e
  obtain ⟨fs, a1, a2, a3⟩ := PrS.heads hg
  refine ⟨_, fun Q E z => ?_, PrS.cmp hg inj⟩
  refine PySem.W.kat_kind (T := Value.type "str") a1 (by omega) (fun f m => ?_) (by rfl) z
  obtain ⟨i, tk, rfl⟩ := a3 f m
  exact PySem.W.Looks.now
end
/-- a triple's text -/
def heS (H : Hp) : V → Str
  | .ref t => match H t with
    | some (.tup (.str z :: _)) => z
    | _ => Str.empty
  | _ => Str.empty
theorem heS_is {H : Hp} {t : Addr} {z : Str} {r : List V} (h : H t = some (.tup (.str z :: r))) : heS H (.ref t) = z := by
  show (match H t with
    | some (.tup (.str z :: _)) => z
    | _ => Str.empty) = z
  rw [h]
def Tr3 (H : Hp) (x : V) : Prop := ∃ t z y1 y2, x = V.ref t ∧ H t = some (.tup [.str z, y1, y2])
def rSortS (K : PySem.W.Frag) : List V → Hp → VK → Prop := fun vs H Q => ∃ (a : Addr) (xs : List V), vs = [V.ref a] ∧ SqL K H a xs ∧ (∀ x ∈ xs, Tr3 H x) ∧
  (∀ x ∈ xs, ∀ y ∈ xs, heS H x = heS H y → x = y) ∧ ∀ ys p, ys.Perm xs → ys.Pairwise (fun x y => ¬ (heS H y).cps.toList < (heS H x).cps.toList) → H p = none → Q (.ref p) (upd H p (.lst ys))
theorem cr_sortS {X : Cx} : CallR X (.builtin "sorted") (rSortS X.K) := by
  intro pins s σ H vs us Q I r h
  obtain ⟨a, xs, rfl, hs, hx, inj, q⟩ := h
  obtain ⟨its, rv, hl, hz⟩ := I.list hs
  obtain ⟨u, rfl, ru⟩ := vals1 r
  obtain rfl : u = Value.ref a := ru
  obtain ⟨e1, e2⟩ := refs_back rv fun x m => (hx x m).imp fun t z => z.choose_spec.choose_spec.choose_spec.1
  have bk : ∀ v ∈ its, backV v ∈ xs := fun v m => by rw [e1]; exact List.mem_map_of_mem m
  have hp : ∀ v ∈ its, PrS s.heap v (heS H (backV v)) := fun v m => by
    obtain ⟨t, z, y1, y2, e, ht⟩ := hx _ (bk v m)
    obtain ⟨t', rfl⟩ := e2 v m
    cases e
    rw [show heS H (backV (.ref t)) = z from heS_is ht]
    obtain ⟨_, its2, r2, o, ho, hc, n, hd⟩ := I.hok _ _ ht
    obtain ⟨u1, u2, u3, rfl, ri⟩ : ∃ u1 u2 u3, its2 = [u1, u2, u3] ∧ RelV (.str z) u1 := by
      cases r2 with
      | cons h1 r2 =>
        cases r2 with
        | cons h2 r2 =>
          cases r2 with
          | cons h3 r2 =>
            cases r2
            exact ⟨_, _, _, rfl, h1⟩
    obtain ⟨t1, rfl⟩ := ri
    exact ⟨t, o, t1, u2, u3, n, rfl, ho, hc, hd⟩
  have inj' : ∀ v ∈ its, ∀ u ∈ its, heS H (backV v) = heS H (backV u) → v = u := fun v m u m' c => by
    have z := inj _ (bk v m) _ (bk u m') c
    obtain ⟨t, rfl⟩ := e2 v m
    obtain ⟨t', rfl⟩ := e2 u m'
    cases z
    rfl
  refine SrtO.sorted_ord (byS_swo fun v => heS H (backV v)) hl.isList (by rw [← rv.length]; exact hz) (fun n h₁ b hb kk => ?_) fun out so st => ?_
  · refine PrS.sortable (s := { s with heap := h₁ }) (by omega) (fun v m => (hp v m).mono fun c o e _ => (kk c o e).2) inj' fun o e => ?_
    cases (show some o = some (seqObj "list" its.toArray 0) from e.symm.trans hb)
    intro c
    exact absurd (Value.type.inj c) (by decide)
  · have h3 : ∀ u ∈ out, ∃ a, u = Value.ref a := fun u m => e2 u (st.perm.mem_iff.mp m)
    obtain ⟨n, hn⟩ := PyProof.Rows.sortedAll_at s.heap its out.toArray
    have hb : (out.map backV).Perm xs := by rw [e1]; exact st.perm.map _
    refine ⟨.ref _, upd H _ (.lst (out.map backV)), I.laid (t' := s.toks) (fun b o e => sortedAll_old e) (Nat.le_succ _) ⟨?_, out, n, vals_back h3, hn⟩, rfl, q _ _ hb ?_ (I.hok.fresh (Nat.le_succ _))⟩
    · rw [hb.length_eq]; exact hz
    · exact List.pairwise_map.mpr (so.imp fun {x y} z => of_decide_eq_false z)
theorem cr_sortSK {X : Cx} {K : PySem.W.Frag} (q : X.K = K := by rfl) : CallR X (.builtin "sorted") (rSortS K) := q ▸ cr_sortS
/-! ### sorted(d), the keys of d triples that begin with a text -/
def rSortDS : List V → Hp → VK → Prop := fun xs H Q => ∃ (d : Addr) (kvs : List (List Key × V)), xs = [V.ref d] ∧ Rd H d (.dT kvs) ∧ (∀ kv ∈ kvs, ∃ z k2 k3, kv.1 = [Sum.inr z, k2, k3]) ∧ (∀ bs : List Addr, IsKeys H kvs bs → ∀ x ∈ bs, ∀ y ∈ bs, heS H (.ref x) = heS H (.ref y) → x = y) ∧
  ∀ (bs : List Addr) ys p, IsKeys H kvs bs → ys.Perm (bs.map V.ref) → ys.Pairwise (fun x y => ¬ (heS H y).cps.toList < (heS H x).cps.toList) → H p = none → Q (.ref p) (upd H p (.lst ys))
theorem cr_sortDS {X : Cx} (hc : X.calm = true) : CallR X (.builtin "sorted") rSortDS := by
  intro pins s σ H xs us Q I r h
  obtain ⟨d, kvs, rfl, hd, hp, inj, q⟩ := h
  obtain ⟨u, rfl, rx⟩ := r.one
  cases rx
  obtain ⟨z, hs, ks, pr, o, es, ep, ho, hx, hdt, he, hn⟩ := (show ObjOk X.prog X.w H s.heap d (.dT kvs) from hd.ok I.hok)
  have l1 : es.size = ks.length := size_of_entries he
  have l2 : kvs.length = ks.length := Paired.length pr
  refine Calls.call_function_entry PyProof.Rows.kind_sorted PyProof.Rows.plain_sorted PyProof.Rows.entry_sorted (PyProof.Rows.args_sorted1 _) ?_
  unfold Builtin.«sorted»
  refine wpAny_bind (m := checkCount "sorted" 1 1 _) (wpAny_pure ?_)
  refine wpAny_bind (PySem.W.kdu_collect (A := X.A.in1) (kdl_raw hs hx hdt) (I.ok.hd hc) ho (by omega) fun h' tk acc' hk it => ?_)
  have ea : acc'.toList = ks.map fun x => Value.ref x.2.1 := by
    have hl : acc'.toList.length = ks.length := by rw [Array.length_toList, it.1]; exact l1
    apply List.ext_getElem?
    intro j
    rw [List.getElem?_map]
    cases hj : acc'.toList[j]? with
    | none =>
      have h1 := List.getElem?_eq_none_iff.mp hj
      rw [List.getElem?_eq_none (by omega)]
      all_goals rfl
    | some v =>
      obtain ⟨en, hen, hv⟩ := it.2 j v (by rw [← Array.getElem?_toList]; exact hj)
      have qe := entry_at he j
      rw [hen] at qe
      cases hb : ks[j]? with
      | none =>
        rw [hb] at qe
        exact nomatch (show some en = none from qe)
      | some b =>
        rw [hb] at qe
        have e2 : en = entryOfKey (tupleKind (mixKind X.prog X.w)) b := Option.some.inj qe
        rw [hv, e2]
        all_goals rfl
  have eb : acc'.toList = (ks.map fun x => x.2.1).map Value.ref := by rw [ea, List.map_map]; all_goals rfl
  have hz : acc'.toList.length ≤ sizeLine := by rw [eb, List.length_map, List.length_map]; omega
  have I1 : Inv X pins σ H { s with heap := h', toks := tk } := I.kept hk
  refine wpAny_bind (wpAny_newList ?_ hz)
  have hoL : (h'.push (seqObj "list" acc'.toList.toArray 0)).get? h'.objs.size = some (seqObj "list" acc'.toList.toArray 0) := Heap.get?_push_size _ rfl
  show wpAny _ _ _ _ _ { s with heap := h'.push (seqObj "list" acc'.toList.toArray 0), toks := tk }
  have ik := isKeys_of pr
  have mk : ∀ v ∈ acc'.toList, ∃ t z y1 y2, v = Value.ref t ∧ t ∈ (ks.map fun x => x.2.1) ∧ H t = some (.tup [.str z, y1, y2]) := by
    rw [eb]
    clear hn he hdt hx ho l1 l2 it ea eb hz hoL
    intro v hv
    obtain ⟨t, ht, rfl⟩ := List.mem_map.mp hv
    have all : ∀ {kvs : List (List Key × V)} {bs : List Addr}, IsKeys H kvs bs → (∀ kv ∈ kvs, ∃ z k2 k3, kv.1 = [Sum.inr z, k2, k3]) → ∀ t ∈ bs, ∃ z y1 y2, H t = some (.tup [.str z, y1, y2]) := by
      intro kvs bs ik
      induction ik with
      | nil => intro _ t m; cases m
      | @cons p b ps bs hq _ ih =>
        intro hp t m
        rcases List.mem_cons.mp m with e | m
        · subst e
          obtain ⟨z, k2, k3, e⟩ := hp p List.mem_cons_self
          rw [e] at hq
          exact ⟨z, kV k2, kV k3, hq⟩
        · exact ih (fun kv m => hp kv (List.mem_cons_of_mem _ m)) t m
    obtain ⟨z, y1, y2, e⟩ := all ik hp t ht
    exact ⟨t, z, y1, y2, rfl, ht, e⟩
  have injv : ∀ v ∈ acc'.toList, ∀ u ∈ acc'.toList, heS H (backV v) = heS H (backV u) → v = u := fun v mv u mu c => by
    obtain ⟨t, _, _, _, rfl, mt, _⟩ := mk v mv
    obtain ⟨t', _, _, _, rfl, mt', _⟩ := mk u mu
    rw [inj _ ik t mt t' mt' c]
  refine wpAny_bind (wpAny_holding (wpAny_call_entry PyProof.Rows.slot_list_sort ⟨_, hoL, rfl⟩ PyProof.Rows.entry_list_sort
    (SrtO.list_sort_ord (ltv := byS fun v => heS H (backV v)) (byS_swo fun v => heS H (backV v)) hoL hz (fun h2 => PrS.sortable (k := fun v => heS H (backV v)) (by omega) (fun v hv => ?_) injv (fun o e c => ?_)) fun out hs hb => ⟨_, rfl, ?_⟩) (PyProof.Rows.args_list_sort _)))
  · obtain ⟨t, z, y1, y2, rfl, mt, ht⟩ := mk v hv
    show PrS _ (Value.ref t) (heS H (.ref t))
    rw [heS_is ht]
    obtain ⟨_, its2, r2, o, ho, hc, n, hd⟩ := I1.hok _ _ ht
    obtain ⟨u1, u2, u3, rfl, ri⟩ : ∃ u1 u2 u3, its2 = [u1, u2, u3] ∧ RelV (.str z) u1 := by
      cases r2 with
      | cons h1 r2 =>
        cases r2 with
        | cons h2 r2 =>
          cases r2 with
          | cons h3 r2 =>
            cases r2
            exact ⟨_, _, _, rfl, h1⟩
    obtain ⟨t1, rfl⟩ := ri
    exact ⟨t, o, t1, u2, u3, n, rfl, Heap.get?_push_of_some _ ho, hc, hd⟩
  · have e' : some o = some (seqObj "list" acc'.toList.toArray 0) := e.symm.trans hoL
    cases e'
    exact absurd (Value.type.inj c) (by decide)
  · have h3 : ∀ u ∈ out, ∃ a, u = Value.ref a := fun u hu => by
      obtain ⟨t, _, _, _, e, _⟩ := mk u (hb.perm.mem_iff.mp hu)
      exact ⟨t, e⟩
    obtain ⟨e', he'⟩ := PyProof.Rows.sortedHeap_at (vs := acc'.toList) (out := out.toArray) hoL
    have hb2 : (out.map backV).Perm ((ks.map fun x => x.2.1).map V.ref) := by
      have e5 : (ks.map fun x => x.2.1).map V.ref = acc'.toList.map backV := by
        rw [eb, List.map_map, List.map_map, List.map_map]; rfl
      rw [e5]
      exact hb.perm.map _
    have hlen : (out.map backV).length ≤ sizeLine := by
      rw [List.length_map, hb.perm.length_eq]; exact hz
    refine wpAny_pure ⟨_, rfl, .ref h'.objs.size, upd H h'.objs.size (.lst (out.map backV)), I1.laid (t' := tk) (fun b u e => ?_) (Nat.le_refl _)
      (show ObjOk X.prog X.w _ _ _ (.lst (out.map backV)) from ⟨hlen, out, e', vals_back h3, he'⟩), rfl, q _ _ _ ik hb2 (List.pairwise_map.mpr (hs.imp fun {x y} z => of_decide_eq_false z)) (I1.hok.fresh (Nat.le_refl _))⟩
    have hb : b < h'.objs.size := Heap.lt_size e
    rw [PyProof.Rows.sortedHeap_old (Nat.ne_of_lt hb) (by rw [PyProof.Rows.size_push']; exact Nat.lt_succ_of_lt hb)]
    exact Heap.get?_push_of_some _ e
/-! ### what the top has written: tuples, the shapes of instructions -/
def KTup (K : PySem.W.Frag) (a : Addr) (xs : List V) : Prop := ∃ (o : Obj) (its : Array Value) (n : Nat), K.lookup a = some o ∧ o.cls = .type "tuple" ∧ o.data = .seq its n ∧ its.size ≤ sizeLine ∧ Vals xs its.toList
theorem KTup.sq {K : PySem.W.Frag} {H : Hp} {a : Addr} {xs : List V} (h : KTup K a xs) : SqT K H a xs := .inr h
def regsL : List Str := ["a", "b", "c", "d", "e", "f", "g", "h"]
def cellsL : List Str := ["x", "y", "z"]
def shapesS : List (Str × Str) := [("set", "un"), ("copy", "uu"), ("plus", "uu"), ("times", "un"), ("push", "u"), ("pop", "u"), ("go", "t"), ("pick", "w"), ("take", "u"), ("out", "u"), ("ask", "ddmt"), ("ret", ""), ("fail", "d")]
def ShpK (K : PySem.W.Frag) (w : World) (d : Addr) : Prop := (∃ es n, KDict K w d es n) ∧ ∀ p ∈ shapesS, ∃ t, PySem.W.nsIn K d p.1 = some (some (.str p.2 t))
def rNinKD (K : PySem.W.Frag) (d : Addr) : R2 := fun x y H Q => ∃ (z : Str) (r : Option Value), x = .str z ∧ y = .ref d ∧ PySem.W.nsIn K d z = some r ∧ Q (.bl (!r.isSome)) H
theorem op_ninKD {X : Cx} {K : PySem.W.Frag} {w : World} {d : Addr} (h : ∃ es n, KDict K w d es n) (q : X.K = K := by rfl) (q2 : X.w = w := by rfl) : OpR X (compareOp .NotIn) (rNinKD K d) := by
  subst q q2
  obtain ⟨es, n, D⟩ := h
  exact op_notIn_kd D
theorem ix_kdK {X : Cx} {K : PySem.W.Frag} {w : World} (q : X.K = K := by rfl) (q2 : X.w = w := by rfl) : IxR X (rIxD K w) := by
  subst q q2
  exact ix_kdict
theorem ShpK.get {K : PySem.W.Frag} {w : World} {d : Addr} (h : ShpK K w d) {p : Str × Str} (m : p ∈ shapesS) : KDct K w d p.1 (.str p.2) := by
  obtain ⟨⟨es, n, D⟩, f⟩ := h
  obtain ⟨t, e⟩ := f p m
  exact ⟨es, n, _, D.at_, D.lit, e, ⟨t, rfl⟩⟩
/-! ### coded units -/
inductive Arg
  | w (z : Str)
  | n (i : Int)
  | ways (l : List (Str × Int))
  deriving DecidableEq
abbrev Ins := Str × List Arg
abbrev Deed := Str × Int × List Ins
def knownL (hid : Nat) : List Str := regsL ++ cellsL.take hid
inductive Fits (hid : Nat) (many p : Int) (Nm : Str → Prop) (Ri : List Str → Prop) : Nat → Arg → Prop
  | u {z : Str} (h : z ∈ knownL hid) : Fits hid many p Nm Ri 117 (.w z)
  | n {i : Int} (h : 0 ≤ i ∧ i < p) : Fits hid many p Nm Ri 110 (.n i)
  | t {i : Int} (h : 0 ≤ i ∧ i < many) : Fits hid many p Nm Ri 116 (.n i)
  | m {i : Int} (h : 0 ≤ i ∧ i < 4) : Fits hid many p Nm Ri 109 (.n i)
  | d {z : Str} (h : Nm z) : Fits hid many p Nm Ri 100 (.w z)
  | w {l : List (Str × Int)} (h1 : 1 ≤ l.length ∧ l.length ≤ 6) (h2 : ∀ x ∈ l, Nm x.1 ∧ 0 ≤ x.2 ∧ x.2 < many) (h3 : Ri (l.map (·.1))) : Fits hid many p Nm Ri 119 (.ways l)
structure Tx (K : PySem.W.Frag) (mg : Str → Option Value) (c_Coded : Addr) (c_Machine : Addr) (c_CodeReader : Addr) (c_REGISTERS : Addr) (c_CELLS : Addr) (c_SHAPES : Addr) (w : World) : Prop where
  c_FIGURES : ∃ t, mg "FIGURES" = some (.str "0123456789" t)
  c_HIGHEST_PRIME : ∃ t, mg "HIGHEST_PRIME" = some (.int 997 t)
  c_LETTERS : ∃ t, mg "LETTERS" = some (.str "abcdefghijklmnopqrstuvwxyz" t)
  c_LONGEST_NAME : ∃ t, mg "LONGEST_NAME" = some (.int 8 t)
  c_MOST_CODE : ∃ t, mg "MOST_CODE" = some (.int 400 t)
  c_MOST_DEEDS : ∃ t, mg "MOST_DEEDS" = some (.int 4 t)
  c_MOST_FIGURES : ∃ t, mg "MOST_FIGURES" = some (.int 3 t)
  c_MOST_NUMBERS : ∃ t, mg "MOST_NUMBERS" = some (.int 3 t)
  c_MOST_WAYS : ∃ t, mg "MOST_WAYS" = some (.int 6 t)
  c_PRIME : ∃ t, mg "PRIME" = some (.int 97 t)
  c_PRIME_FIGURES : ∃ t, mg "PRIME_FIGURES" = some (.int 3 t)
  m_abs : mg "abs" = none
  m_all : mg "all" = none
  m_bool : mg "bool" = none
  m_enumerate : mg "enumerate" = none
  m_int : mg "int" = none
  m_isinstance : mg "isinstance" = none
  m_len : mg "len" = none
  m_list : mg "list" = none
  m_range : mg "range" = none
  m_set : mg "set" = none
  m_sorted : mg "sorted" = none
  m_str : mg "str" = none
  m_tuple : mg "tuple" = none
  m_zip : mg "zip" = none
  g_Coded : mg "Coded" = some (.ref c_Coded)
  cl_Coded : Cls K c_Coded
  na__hidden : NoAttr K c_Coded "_hidden"
  na__deeds : NoAttr K c_Coded "_deeds"
  na__prime : NoAttr K c_Coded "_prime"
  na__asks : NoAttr K c_Coded "_asks"
  g_Machine : mg "Machine" = some (.ref c_Machine)
  cl_Machine : Cls K c_Machine
  na_known : NoAttr K c_Machine "known"
  na_many : NoAttr K c_Machine "many"
  na_p : NoAttr K c_Machine "p"
  g_CodeReader : mg "CodeReader" = some (.ref c_CodeReader)
  cl_CodeReader : Cls K c_CodeReader
  na_CodeReader_p : NoAttr K c_CodeReader "p"
  na_cells : NoAttr K c_CodeReader "cells"
  na_heads : NoAttr K c_CodeReader "heads"
  na_codes : NoAttr K c_CodeReader "codes"
  na_within : NoAttr K c_CodeReader "within"
  g_REGISTERS : mg "REGISTERS" = some (.ref c_REGISTERS)
  g_CELLS : mg "CELLS" = some (.ref c_CELLS)
  g_SHAPES : mg "SHAPES" = some (.ref c_SHAPES)
  rg_REGISTERS : KTup K c_REGISTERS (regsL.map V.str)
  ce_CELLS : KTup K c_CELLS (cellsL.map V.str)
  sh_SHAPES : ShpK K w c_SHAPES
  oc_Coded : PySem.W.findIn K (.ref c_Coded) "__class__" = some (some (.builtin "object.__class__"))
  gd_object : PySem.W.specialIn K (.builtin "object.__class__") "__get__" = some (some (.builtin "getset_descriptor.__get__"))
  td_object : PySem.W.takesIn K (.builtin "object.__class__") = some true
  mo_Coded : PySem.W.mroIn K c_Coded (.type "object") = some true
  ne_Coded : PySem.W.findIn K (.ref c_Coded) "__ne__" = some (some (.builtin "object.__ne__"))
  ic_Coded : PySem.W.isClsIn K c_Coded = true
  tc_Coded : PySem.W.typeIn K (.ref c_Coded) = some (.type "type")
def topS (i : Nat) : Stmt := PySem.Challenge.pw_onetrace_k29_codes_written.main.body.getD i (.Pass ⟨0, 0, 0, 0⟩)
abbrev s_is_whole : Stmt := topS 10
theorem sc_is_whole : FnScope ["thing"] ["thing"] (defScope s_is_whole) := ⟨rfl, rfl, rfl, by decide +kernel, rfl, by decide +kernel, by decide +kernel⟩
abbrev s_is_prime : Stmt := topS 11
theorem sc_is_prime : FnScope ["thing", "k"] ["thing"] (defScope s_is_prime) := ⟨rfl, rfl, rfl, by decide +kernel, rfl, by decide +kernel, by decide +kernel⟩
abbrev s_is_number : Stmt := topS 12
theorem sc_is_number : FnScope ["thing", "p"] ["thing", "p"] (defScope s_is_number) := ⟨rfl, rfl, rfl, by decide +kernel, rfl, by decide +kernel, by decide +kernel⟩
abbrev s_is_name : Stmt := topS 13
theorem sc_is_name : FnScope ["thing"] ["thing"] (defScope s_is_name) := ⟨rfl, rfl, rfl, by decide +kernel, rfl, by decide +kernel, by decide +kernel⟩
abbrev s_has_only : Stmt := topS 14
theorem sc_has_only : FnScope ["text", "signs", "sign"] ["text", "signs"] (defScope s_has_only) := ⟨rfl, rfl, rfl, by decide +kernel, rfl, by decide +kernel, by decide +kernel⟩
abbrev s_read_figures : Stmt := topS 15
theorem sc_read_figures : FnScope ["text", "most"] ["text", "most"] (defScope s_read_figures) := ⟨rfl, rfl, rfl, by decide +kernel, rfl, by decide +kernel, by decide +kernel⟩
abbrev s_is_tuple : Stmt := topS 16
theorem sc_is_tuple : FnScope ["thing", "least", "most"] ["thing", "least", "most"] (defScope s_is_tuple) := ⟨rfl, rfl, rfl, by decide +kernel, rfl, by decide +kernel, by decide +kernel⟩
abbrev s_are_unlike : Stmt := topS 17
theorem sc_are_unlike : FnScope ["things"] ["things"] (defScope s_are_unlike) := ⟨rfl, rfl, rfl, by decide +kernel, rfl, by decide +kernel, by decide +kernel⟩
abbrev s_do_rise : Stmt := topS 18
theorem sc_do_rise : FnScope ["things", "one", "other"] ["things"] (defScope s_do_rise) := ⟨rfl, rfl, rfl, by decide +kernel, rfl, by decide +kernel, by decide +kernel⟩
abbrev s_are_ways : Stmt := topS 19
theorem sc_are_ways : FnScope ["thing", "most", "size", "way", "words", "word"] ["thing", "most", "size"] (defScope s_are_ways) := ⟨rfl, rfl, rfl, by decide +kernel, rfl, by decide +kernel, by decide +kernel⟩
abbrev s_leads_round : Stmt := topS 21
theorem sc_leads_round : FnScope ["goals", "many", "_", "row", "to", "free", "number", "n", "left", "at"] ["goals"] (defScope s_leads_round) := ⟨rfl, rfl, rfl, by decide +kernel, rfl, by decide +kernel, by decide +kernel⟩
abbrev s_Coded___init__ : Stmt := inClass (topS 30) 0
theorem sc_Coded___init__ : FnScope ["self", "hidden", "deeds", "prime", "deed", "name", "_", "asks", "unit"] ["self", "hidden", "deeds", "prime"] (defScope s_Coded___init__) := ⟨rfl, rfl, rfl, by decide +kernel, rfl, by decide +kernel, by decide +kernel⟩
abbrev s_Coded_hidden : Stmt := inClass (topS 30) 1
theorem sc_Coded_hidden : FnScope ["self"] ["self"] (defScope s_Coded_hidden) := ⟨rfl, rfl, rfl, by decide +kernel, rfl, by decide +kernel, by decide +kernel⟩
abbrev s_Coded_deeds : Stmt := inClass (topS 30) 2
theorem sc_Coded_deeds : FnScope ["self"] ["self"] (defScope s_Coded_deeds) := ⟨rfl, rfl, rfl, by decide +kernel, rfl, by decide +kernel, by decide +kernel⟩
abbrev s_Coded_prime : Stmt := inClass (topS 30) 3
theorem sc_Coded_prime : FnScope ["self"] ["self"] (defScope s_Coded_prime) := ⟨rfl, rfl, rfl, by decide +kernel, rfl, by decide +kernel, by decide +kernel⟩
abbrev s_Coded_asks : Stmt := inClass (topS 30) 4
theorem sc_Coded_asks : FnScope ["self"] ["self"] (defScope s_Coded_asks) := ⟨rfl, rfl, rfl, by decide +kernel, rfl, by decide +kernel, by decide +kernel⟩
abbrev s_Coded___eq__ : Stmt := inClass (topS 30) 5
theorem sc_Coded___eq__ : FnScope ["self", "other"] ["self", "other"] (defScope s_Coded___eq__) := ⟨rfl, rfl, rfl, by decide +kernel, rfl, by decide +kernel, by decide +kernel⟩
abbrev s_Machine___init__ : Stmt := inClass (topS 31) 0
theorem sc_Machine___init__ : FnScope ["self", "hidden", "many", "p"] ["self", "hidden", "many", "p"] (defScope s_Machine___init__) := ⟨rfl, rfl, rfl, by decide +kernel, rfl, by decide +kernel, by decide +kernel⟩
abbrev s_Machine_fits : Stmt := inClass (topS 31) 1
theorem sc_Machine_fits : FnScope ["self", "sign", "thing", "_", "to"] ["self", "sign", "thing"] (defScope s_Machine_fits) := ⟨rfl, rfl, rfl, by decide +kernel, rfl, by decide +kernel, by decide +kernel⟩
abbrev s_is_deed : Stmt := topS 32
theorem sc_is_deed : FnScope ["thing", "hidden", "p", "name", "many", "code", "machine", "step", "at"] ["thing", "hidden", "p"] (defScope s_is_deed) := ⟨rfl, rfl, rfl, by decide +kernel, rfl, by decide +kernel, by decide +kernel⟩
abbrev s_is_instruction : Stmt := topS 33
theorem sc_is_instruction : FnScope ["thing", "machine", "shape", "sign", "inner"] ["thing", "machine"] (defScope s_is_instruction) := ⟨rfl, rfl, rfl, by decide +kernel, rfl, by decide +kernel, by decide +kernel⟩
abbrev s_idle_goals : Stmt := topS 34
theorem sc_idle_goals : FnScope ["code", "at", "step", "following"] ["code", "at"] (defScope s_idle_goals) := ⟨rfl, rfl, rfl, by decide +kernel, rfl, by decide +kernel, by decide +kernel⟩
abbrev s_asks_in : Stmt := topS 35
theorem sc_asks_in : FnScope ["deeds", "found", "_", "code", "step"] ["deeds"] (defScope s_asks_in) := ⟨rfl, rfl, rfl, by decide +kernel, rfl, by decide +kernel, by decide +kernel⟩
abbrev s_words_row : Stmt := topS 38
theorem sc_words_row : FnScope ["words", "depth"] ["words", "depth"] (defScope s_words_row) := ⟨rfl, rfl, rfl, by decide +kernel, rfl, by decide +kernel, by decide +kernel⟩
abbrev s_text_rows : Stmt := topS 39
theorem sc_text_rows : FnScope ["text", "parts", "rest"] ["text"] (defScope s_text_rows) := ⟨rfl, rfl, rfl, by decide +kernel, rfl, by decide +kernel, by decide +kernel⟩
abbrev s_parted_row : Stmt := topS 40
theorem sc_parted_row : FnScope ["row", "bare", "blanks"] ["row"] (defScope s_parted_row) := ⟨rfl, rfl, rfl, by decide +kernel, rfl, by decide +kernel, by decide +kernel⟩
abbrev s_prime_told : Stmt := topS 41
theorem sc_prime_told : FnScope ["words", "p"] ["words"] (defScope s_prime_told) := ⟨rfl, rfl, rfl, by decide +kernel, rfl, by decide +kernel, by decide +kernel⟩
abbrev s_coded_text : Stmt := topS 44
theorem sc_coded_text : FnScope ["unit", "rows", "name", "many", "code", "step", "row"] ["unit"] (defScope s_coded_text) := ⟨rfl, rfl, rfl, by decide +kernel, rfl, by decide +kernel, by decide +kernel⟩
abbrev s_words_of : Stmt := topS 45
theorem sc_words_of : FnScope ["step", "way", "thing"] ["step"] (defScope s_words_of) := ⟨rfl, rfl, rfl, by decide +kernel, rfl, by decide +kernel, by decide +kernel⟩
abbrev s_thing_told : Stmt := topS 46
theorem sc_thing_told : FnScope ["word", "sign", "p", "n"] ["word", "sign", "p"] (defScope s_thing_told) := ⟨rfl, rfl, rfl, by decide +kernel, rfl, by decide +kernel, by decide +kernel⟩
abbrev s_things_told : Stmt := topS 47
theorem sc_things_told : FnScope ["words", "shape", "p", "things", "word", "sign"] ["words", "shape", "p"] (defScope s_things_told) := ⟨rfl, rfl, rfl, by decide +kernel, rfl, by decide +kernel, by decide +kernel⟩
abbrev s_instruction_told : Stmt := topS 48
theorem sc_instruction_told : FnScope ["words", "p", "things", "many"] ["words", "p"] (defScope s_instruction_told) := ⟨rfl, rfl, rfl, by decide +kernel, rfl, by decide +kernel, by decide +kernel⟩
abbrev s_CodeReader___init__ : Stmt := inClass (topS 49) 0
theorem sc_CodeReader___init__ : FnScope ["self"] ["self"] (defScope s_CodeReader___init__) := ⟨rfl, rfl, rfl, by decide +kernel, rfl, by decide +kernel, by decide +kernel⟩
abbrev s_CodeReader_rests : Stmt := inClass (topS 49) 1
theorem sc_CodeReader_rests : FnScope ["self"] ["self"] (defScope s_CodeReader_rests) := ⟨rfl, rfl, rfl, by decide +kernel, rfl, by decide +kernel, by decide +kernel⟩
abbrev s_CodeReader_unit_told : Stmt := inClass (topS 49) 2
theorem sc_CodeReader_unit_told : FnScope ["self", "deeds", "head", "code"] ["self"] (defScope s_CodeReader_unit_told) := ⟨rfl, rfl, rfl, by decide +kernel, rfl, by decide +kernel, by decide +kernel⟩
abbrev s_CodeReader_reads : Stmt := inClass (topS 49) 3
theorem sc_CodeReader_reads : FnScope ["self", "row", "depth", "words"] ["self", "row"] (defScope s_CodeReader_reads) := ⟨rfl, rfl, rfl, by decide +kernel, rfl, by decide +kernel, by decide +kernel⟩
abbrev s_CodeReader_reads_instruction : Stmt := inClass (topS 49) 4
theorem sc_CodeReader_reads_instruction : FnScope ["self", "words", "step"] ["self", "words"] (defScope s_CodeReader_reads_instruction) := ⟨rfl, rfl, rfl, by decide +kernel, rfl, by decide +kernel, by decide +kernel⟩
abbrev s_CodeReader_reads_outer : Stmt := inClass (topS 49) 5
theorem sc_CodeReader_reads_outer : FnScope ["self", "words", "told", "head"] ["self", "words"] (defScope s_CodeReader_reads_outer) := ⟨rfl, rfl, rfl, by decide +kernel, rfl, by decide +kernel, by decide +kernel⟩
abbrev s_read_coded : Stmt := topS 50
theorem sc_read_coded : FnScope ["text", "rows", "is_whole", "reader", "at", "row"] ["text"] (defScope s_read_coded) := ⟨rfl, rfl, rfl, by decide +kernel, rfl, by decide +kernel, by decide +kernel⟩
abbrev s_law_begin : Stmt := topS 52
theorem sc_law_begin : FnScope ["script", "cells", "cell"] ["script"] (defScope s_law_begin) := ⟨rfl, rfl, rfl, by decide +kernel, rfl, by decide +kernel, by decide +kernel⟩
abbrev s_law_draw : Stmt := topS 53
theorem sc_law_draw : FnScope ["state", "many", "cells", "at", "cell"] ["state", "many"] (defScope s_law_draw) := ⟨rfl, rfl, rfl, by decide +kernel, rfl, by decide +kernel, by decide +kernel⟩
abbrev s_law_pick : Stmt := topS 54
theorem sc_law_pick : FnScope ["state", "some"] ["state", "some"] (defScope s_law_pick) := ⟨rfl, rfl, rfl, by decide +kernel, rfl, by decide +kernel, by decide +kernel⟩
abbrev s_law_words : Stmt := topS 55
theorem sc_law_words : FnScope ["state", "many", "own", "got", "word", "k", "spare", "sign", "one"] ["state", "many"] (defScope s_law_words) := ⟨rfl, rfl, rfl, by decide +kernel, rfl, by decide +kernel, by decide +kernel⟩
abbrev s_law_spots : Stmt := topS 56
theorem sc_law_spots : FnScope ["cells"] ["cells"] (defScope s_law_spots) := ⟨rfl, rfl, rfl, by decide +kernel, rfl, by decide +kernel, by decide +kernel⟩
abbrev s_law_number : Stmt := topS 57
theorem sc_law_number : FnScope ["state", "p"] ["state", "p"] (defScope s_law_number) := ⟨rfl, rfl, rfl, by decide +kernel, rfl, by decide +kernel, by decide +kernel⟩
abbrev s_law_instruction : Stmt := topS 58
theorem sc_law_instruction : FnScope ["state", "kit", "at", "size", "spots", "p", "u", "v", "way", "ahead", "to", "words", "word", "lender", "deed", "many"] ["state", "kit", "at", "size"] (defScope s_law_instruction) := ⟨rfl, rfl, rfl, by decide +kernel, rfl, by decide +kernel, by decide +kernel⟩
abbrev s_law_parts : Stmt := topS 59
theorem sc_law_parts : FnScope ["state", "longest", "p", "cells", "words", "asked", "k", "kit", "pages", "name", "size", "code", "at"] ["state", "longest"] (defScope s_law_parts) := ⟨rfl, rfl, rfl, by decide +kernel, rfl, by decide +kernel, by decide +kernel⟩
abbrev s_law_line : Stmt := topS 60
theorem sc_law_line : FnScope ["row", "words", "one", "word", "to"] ["row"] (defScope s_law_line) := ⟨rfl, rfl, rfl, by decide +kernel, rfl, by decide +kernel, by decide +kernel⟩
abbrev s_law_written : Stmt := topS 61
theorem sc_law_written : FnScope ["parts", "cells", "pages", "p", "rows", "name", "many", "code", "row"] ["parts"] (defScope s_law_written) := ⟨rfl, rfl, rfl, by decide +kernel, rfl, by decide +kernel, by decide +kernel⟩
abbrev s_law : Stmt := topS 62
theorem sc_law : FnScope ["script", "state", "turn", "some", "k", "made", "parts", "row", "one", "got"] ["script"] (defScope s_law) := ⟨rfl, rfl, rfl, by decide +kernel, rfl, by decide +kernel, by decide +kernel⟩
theorem kb_coded_text_0 {K : PySem.W.Frag} {f : Addr} {fd : FuncData} (F : Fun K "coded_text" "coded_text" s_coded_text f fd) : ∀ (us ws : List Value), us.length = 0 → ws.length = 1 → ∀ s : Shared, BindsTo s fd ⟨us, (["unit"] : List Str).zip ws⟩ ((["unit"] : List Str).zip (([0] : List Nat).map fun i => (us ++ ws).getD i .none)) := by
  obtain ⟨oc, od, kV, doc, pm, an, cdv, ct, osl, rfl, lk, hcd⟩ := F.ex
  intro us ws h1 h2 s
  match us, h1, ws, h2 with
  | [], _, [w0], _ => exact .of_eq rfl
theorem kb_read_coded_0 {K : PySem.W.Frag} {f : Addr} {fd : FuncData} (F : Fun K "read_coded" "read_coded" s_read_coded f fd) : ∀ (us ws : List Value), us.length = 0 → ws.length = 1 → ∀ s : Shared, BindsTo s fd ⟨us, (["text"] : List Str).zip ws⟩ ((["text"] : List Str).zip (([0] : List Nat).map fun i => (us ++ ws).getD i .none)) := by
  obtain ⟨oc, od, kV, doc, pm, an, cdv, ct, osl, rfl, lk, hcd⟩ := F.ex
  intro us ws h1 h2 s
  match us, h1, ws, h2 with
  | [], _, [w0], _ => exact .of_eq rfl
/-! ### methods of a class of the program -/
structure CalM (P : Program) (w : World) (K : PySem.W.Frag) (mg : Str → Option Value) (base : Heap) (C : Addr) (x : Str) (k : Nat) (ps : List Str) (sp : Sp) (st : Stmt) (f : Addr) (fd : FuncData) : Prop where
  ok : FnOk P w K mg base CX0 k f fd ps sp
  me : Meth K C x f
  b : Binds K fd ps []
structure CalI (P : Program) (w : World) (K : PySem.W.Frag) (mg : Str → Option Value) (base : Heap) (C : Addr) (x : Str) (k : Nat) (ps : List Str) (sp : Sp) (st : Stmt) (f : Addr) (fd : FuncData) : Prop where
  ok : FnOk P w K mg base CX0 k f fd ps sp
  mkk : Mk K C f
  b : Binds K fd ps []
structure HereM (K : PySem.W.Frag) (C : Addr) (x q : Str) (st : Stmt) (ps : List Str) (f : Addr) (fd : FuncData) : Prop where
  fn : Fun K x q st f fd
  me : Meth K C x f
  b : Binds K fd ps []
structure HereI (K : PySem.W.Frag) (C : Addr) (x q : Str) (st : Stmt) (ps : List Str) (f : Addr) (fd : FuncData) : Prop where
  fn : Fun K x q st f fd
  mkk : Mk K C f
  b : Binds K fd ps []
section
variable {P : Program} {w : World} {K : PySem.W.Frag} {mg : Str → Option Value} {base : Heap}
theorem HereM.cal {C : Addr} {x q : Str} {st : Stmt} {ps N : List Str} {f : Addr} {fd : FuncData} {k : Nat} {sp : Sp} (F : HereM K C x q st ps f fd) (S : FnScope N ps (defScope st)) (len : ∀ vs H Q E, sp vs H Q E → vs.length = ps.length)
    (hbody : ∀ (cdv : Value) (A : Around) (outer : List Env) (s : Shared) (H : Hp) (vs : List V) (Q : VK) (E : XK), Room k (A.deeper (envOfC q (defScope st) s.heap.objs.size f cdv)) → sp vs H Q E →
      ∃ t, PSs (cxOf CX0 P w K mg base N q (defScope st) f cdv A outer s H E).nox (defBody st) t ∧ t { nx := fun _ H' => Q .non H', rt := Q } (L2.start N vs) H) : CalM P w K mg base C x (k + 1) ps sp st f fd :=
  ⟨F.fn.ok S len hbody, F.me, F.b⟩
theorem HereI.cal {C : Addr} {x q : Str} {st : Stmt} {ps N : List Str} {f : Addr} {fd : FuncData} {k : Nat} {sp : Sp} (F : HereI K C x q st ps f fd) (S : FnScope N ps (defScope st)) (len : ∀ vs H Q E, sp vs H Q E → vs.length = ps.length)
    (hbody : ∀ (cdv : Value) (A : Around) (outer : List Env) (s : Shared) (H : Hp) (vs : List V) (Q : VK) (E : XK), Room k (A.deeper (envOfC q (defScope st) s.heap.objs.size f cdv)) → sp vs H Q E →
      ∃ t, PSs (cxOf CX0 P w K mg base N q (defScope st) f cdv A outer s H E).nox (defBody st) t ∧ t { nx := fun _ H' => Q .non H', rt := Q } (L2.start N vs) H) : CalI P w K mg base C x (k + 1) ps sp st f fd :=
  ⟨F.fn.ok S len hbody, F.mkk, F.b⟩
end
theorem pe_fldK {X : Cx} {K : PySem.W.Frag} {e : Expr} {f : Str} {pos : Pos} {ta : TE} (he : PE X e ta) (hb : attributeBase e f X.env (eval e X.env) = eval e X.env) (q : X.K = K := by rfl) : PE X (.Attribute e f pos) (tFld K ta f) := q ▸ pe_fld he hb
theorem ps_fldK {X : Cx} {K : PySem.W.Frag} {o value : Expr} {f : Str} {pos pos' : Pos} {ta tv : TE} (ha : PE X o ta) (hv : PE X value tv) (hs : swapsWith value (some (.Attribute o f pos')) pos.line X.env = pure false) (q : X.K = K := by rfl) : PS X (.Assign [.Attribute o f pos'] value pos) (sFld K ta tv f) := q ▸ ps_fld ha hv hs
def FldR (K : PySem.W.Frag) (f : Str) (Q : VK) (x : V) (H1 : Hp) : Prop := ∃ a C dx fs v, x = .ref a ∧ H1 a = some (.ins C dx fs) ∧ Cls K C ∧ NoAttr K C f ∧ fs.lookup f = some v ∧ Q v H1
def SfR (K : PySem.W.Frag) (f : Str) (D : Ends) (σ : L2.St) (y x : V) (H2 : Hp) : Prop := ∃ a C dx fs, x = .ref a ∧ H2 a = some (.ins C dx fs) ∧ Cls K C ∧ NoAttr K C f ∧ fs.length < 1000 ∧ D.nx σ (upd H2 a (.ins C dx (putF f y fs)))
section
variable {K : PySem.W.Frag} {σ : L2.St} {H : Hp} {Q : VK} {D : Ends}
theorem r_fld {ta : TE} {f : Str} (h : ta σ H (FldR K f Q)) : tFld K ta f σ H Q := h
theorem r_fldr {f : Str} {p C dx : Addr} {fs : List (Str × V)} {v : V} (hp : H p = some (.ins C dx fs)) (c : Cls K C) (n : NoAttr K C f) (l : fs.lookup f = some v) (q : Q v H) : FldR K f Q (.ref p) H := ⟨p, C, dx, fs, v, rfl, hp, c, n, l, q⟩
theorem r_sfld {ta tv : TE} {f : Str} (h : tv σ H fun y H1 => ta σ H1 (SfR K f D σ y)) : sFld K ta tv f D σ H := h
theorem r_sfr {f : Str} {p C dx : Addr} {fs : List (Str × V)} {y : V} (hp : H p = some (.ins C dx fs)) (c : Cls K C) (n : NoAttr K C f) (l : fs.length < 1000) (q : D.nx σ (upd H p (.ins C dx (putF f y fs)))) : SfR K f D σ y (.ref p) H := ⟨p, C, dx, fs, rfl, hp, c, n, l, q⟩
end
/-! ### a class whose __init__ takes one keyword-only parameter with a default -/
structure CalD (P : Program) (w : World) (K : PySem.W.Frag) (mg : Str → Option Value) (base : Heap) (C : Addr) (x q : Str) (k : Nat) (ps : List Str) (kws : List (Str × V)) (sp : Sp) (st : Stmt) (f : Addr) (fd : FuncData) : Prop where
  ok : FnOk P w K mg base CX0 k f fd ps sp
  mkk : Mk K C f
  fn : FunD K x q (defArgs st) (defBody st) (defScope st) [] kws f fd
structure HereD (K : PySem.W.Frag) (C : Addr) (x q : Str) (kws : List (Str × V)) (st : Stmt) (ps : List Str) (f : Addr) (fd : FuncData) : Prop where
  fn : FunD K x q (defArgs st) (defBody st) (defScope st) [] kws f fd
  mkk : Mk K C f
section
variable {P : Program} {w : World} {K : PySem.W.Frag} {mg : Str → Option Value} {base : Heap}
theorem HereD.cal {C : Addr} {x q : Str} {kws : List (Str × V)} {st : Stmt} {ps N : List Str} {f : Addr} {fd : FuncData} {k : Nat} {sp : Sp} (F : HereD K C x q kws st ps f fd) (S : FnScope N ps (defScope st)) (len : ∀ vs H Q E, sp vs H Q E → vs.length = ps.length)
    (walk : ∀ (cdv : Value) (A : Around) (outer : List Env) (s : Shared) (H : Hp) (vs : List V) (Q : VK) (E : XK), Room k (A.deeper (envOfC q (defScope st) s.heap.objs.size f cdv)) → sp vs H Q E →
      ∃ t, PSs (cxOf CX0 P w K mg base N q (defScope st) f cdv A outer s H E) (defBody st) t ∧ t { nx := fun _ H' => Q .non H', rt := Q } (L2.start N vs) H) : CalD P w K mg base C x q (k + 1) ps kws sp st f fd :=
  ⟨F.fn.ok S len walk, F.mkk, F.fn⟩
end
/-! ### == of data -/
theorem eqvAll_map {α : Type} [DecidableEq α] {g : α → PyData} (h : ∀ x y, PyData.eqv (g x) (g y) = decide (x = y)) : ∀ a b : List α, PyData.eqvAll (a.map g) (b.map g) = decide (a = b)
  | [], [] => by simp [PyData.eqvAll]
  | [], y :: b => by simp [PyData.eqvAll]
  | x :: a, [] => by simp [PyData.eqvAll]
  | x :: a, y :: b => by
    rw [List.map_cons, List.map_cons, PyData.eqvAll, h, eqvAll_map h a b]
    simp [List.cons.injEq]
theorem canLay_all {ds : List PyData} (h : ∀ d ∈ ds, d.canLay0 = true) : PyData.canLayAll0 ds = true := by
  induction ds with
  | nil => rw [PyData.canLayAll0]
  | cons d ds ih => rw [PyData.canLayAll0, h d List.mem_cons_self, ih fun e m => h e (List.mem_cons_of_mem _ m)]; rfl
theorem depth_all {ds : List PyData} {n : Nat} (h : ∀ d ∈ ds, d.depth ≤ n) : PyData.depthAll ds ≤ n := by
  induction ds with
  | nil => rw [PyData.depthAll]; exact Nat.zero_le _
  | cons d ds ih => rw [PyData.depthAll]; exact Nat.max_le.mpr ⟨h d List.mem_cons_self, ih fun e m => h e (List.mem_cons_of_mem _ m)⟩
theorem op_eqDK {X : Cx} {K : PySem.W.Frag} (hu : X.A.units + 64 < cLine) (q : X.K = K := by rfl) : OpR X (compareOp .Eq) (rEqD K) := q ▸ op_eqD hu
theorem op_neDK {X : Cx} {K : PySem.W.Frag} (hu : X.A.units + 64 < cLine) (q : X.K = K := by rfl) : OpR X (compareOp .NotEq) (rNeD K) := q ▸ op_neD hu
theorem kit_cls {K : PySem.W.Frag} {t : Value} {C : Addr} {b : Bool} (ne : t ≠ .ref C) (h2 : PySem.W.isClsIn K C = true) (h3 : PySem.W.typeIn K (.ref C) = some (.type "type")) (h4 : PySem.W.subIn K t (.ref C) = some b) : PySem.W.kitOne K t (.ref C) = some b := by
  have e2 : ((PySem.W.clsIn K C).isSome && PySem.W.typeIn K (.ref C) == some (.type "type")) = true := by
    have h5 : (PySem.W.clsIn K C).isSome = true := h2
    rw [h5, h3] <;> rfl
  unfold PySem.W.kitOne
  rw [if_neg (by simpa using ne)]
  show (if ((PySem.W.clsIn K C).isSome && PySem.W.typeIn K (.ref C) == some (.type "type")) = true then PySem.W.subIn K t (.ref C) else none) = some b
  rw [if_pos e2]
  exact h4
theorem kit_same {K : PySem.W.Frag} {D : Addr} : PySem.W.kitOne K (.ref D) (.ref D) = some true := by
  unfold PySem.W.kitOne
  rw [if_pos (by simp)]
theorem vals_rev : ∀ {vs : List V} {us : List Value}, Vals vs us → Vals vs.reverse us.reverse
  | _, _, .nil => .nil
  | _, _, .cons h r => by rw [List.reverse_cons, List.reverse_cons]; exact (vals_rev r).append (.cons h .nil)
section
variable {K : PySem.W.Frag} {D : Ends} {σ : L2.St} {H : Hp} {Q : VK}
theorem r_par {i j : Nat} {ta : TA} (h : ta σ H fun vs H1 => ∃ v w, vs = [v, w] ∧ D.nx ((σ.set i (some v)).set j (some w)) H1) : tPar i j ta D σ H := h
theorem r_parx {v w : V} {R : V → V → Prop} (h : R v w) : ∃ v' w', [v, w] = [v', w'] ∧ R v' w' := ⟨v, w, rfl, h⟩
theorem r_gtup {n : Nat} {t : TGs} {a : Addr} {xs : List V} {N : L2.St → Hp → Prop} (h : SqT K H a xs) (e : xs.length = n) (q : t xs σ H N) : gTup K n t (.ref a) σ H N := ⟨a, xs, rfl, h, e, q⟩
theorem r_gcons {t : TG} {u : TGs} {v : V} {r : List V} {N : L2.St → Hp → Prop} (q : t v σ H fun σ' H' => u r σ' H' N) : gCons t u (v :: r) σ H N := ⟨v, r, rfl, q⟩
theorem r_gnil {N : L2.St → Hp → Prop} (q : N σ H) : gNil [] σ H N := ⟨rfl, q⟩
end
section
variable {K : PySem.W.Frag} {σ : L2.St} {H : Hp} {Q : VK}
theorem walk_zipL {a b : Addr} {xs ys : List V} {n : Nat} (hn : n = min xs.length ys.length) : Walk (Itz K a b) n (fun H => SqL K H a xs ∧ SqL K H b ys) (YPair (fun i => xs[i]?) (fun i => ys[i]?)) where
  goes := fun i H hi h => ⟨xs, ys, xs[i]'(by omega), ys[i]'(by omega), h.1, h.2, List.getElem?_eq_getElem (by omega), List.getElem?_eq_getElem (by omega)⟩
  stops := fun H h => ⟨xs, ys, h.1, h.2, by omega⟩
  yields := fun i H x H' _ h y => by
    obtain ⟨T, x1, y1, e1, e2, e3, e4, e5⟩ := y
    exact ⟨T, x1, y1, e1, e2, e3, e4 xs h.1, e5 ys h.2⟩
theorem r_izl {R : It → Hp → Prop} {a b : Addr} {xs ys : List V} (e1 : SqL K H a xs) (e2 : SqL K H b ys) (h : R (Itz K a b) H) : IzR K R [.ref a, .ref b] H := ⟨a, b, xs, ys, rfl, .inl ⟨e1, e2, h⟩⟩
end
/-! ### texts -/
def rLenS : List V → Hp → VK → Prop := fun xs H Q => ∃ z, xs = [.str z] ∧ z.length ≤ sizeLine ∧ Q (.int z.length) H
theorem cr_lenS {X : Cx} : CallR X (.builtin "len") rLenS := call_len_str
def rInS : R2 := fun x y H Q => ∃ (c : Nat) (z : Str), x = .str ⟨#[c]⟩ ∧ y = .str z ∧ Q (.bl (decide (c ∈ z.cps.toList))) H
theorem op_inS {X : Cx} : OpR X (compareOp .In) rInS := op_in_sign
def rNinS : R2 := fun x y H Q => ∃ (c : Nat) (z : Str), x = .str ⟨#[c]⟩ ∧ y = .str z ∧ Q (.bl (!decide (c ∈ z.cps.toList))) H
theorem op_ninS {X : Cx} : OpR X (compareOp .NotIn) rNinS := op_notIn_sign
def rAddS : R2 := fun x y H Q => ∃ i j, x = .str i ∧ y = .str j ∧ i.length + j.length ≤ sizeLine ∧ Q (.str (i ++ j)) H
theorem op_addS {X : Cx} : OpR X (binaryOp .Add) rAddS := op_add_str
section
variable {K : PySem.W.Frag} {σ : L2.St} {H : Hp} {Q : VK}
theorem r_lenS {z : Str} (h : z.length ≤ sizeLine) (q : Q (.int z.length) H) : rLenS [.str z] H Q := ⟨z, rfl, h, q⟩
theorem r_inS {c : Nat} {z : Str} (q : Q (.bl (decide (c ∈ z.cps.toList))) H) : rInS (.str ⟨#[c]⟩) (.str z) H Q := ⟨c, z, rfl, rfl, q⟩
theorem r_ninS {c : Nat} {z : Str} (q : Q (.bl (!decide (c ∈ z.cps.toList))) H) : rNinS (.str ⟨#[c]⟩) (.str z) H Q := ⟨c, z, rfl, rfl, q⟩
theorem r_addS {a b : Str} (h : a.length + b.length ≤ sizeLine) (q : Q (.str (a ++ b)) H) : rAddS (.str a) (.str b) H Q := ⟨a, b, rfl, rfl, h, q⟩
theorem r_ixS {z : Str} {i : Int} {c : Nat} (h : z.length ≤ sizeLine) (e : atI z.cps.toList i = some c) (q : Q (.str ⟨#[c]⟩) H) : rIxS (.str z) (.int i) H Q := ⟨z, i, c, rfl, rfl, h, e, q⟩
def IsR (R : It → Hp → Prop) (v : V) (H : Hp) : Prop := ∃ x, v = .str x ∧ R (Its x) H
theorem r_istr {te : TE} {R : It → Hp → Prop} (h : te σ H (IsR R)) : iStr te σ H R := h
theorem r_is {R : It → Hp → Prop} {x : Str} (h : R (Its x) H) : IsR R (.str x) H := ⟨x, rfl, h⟩
end
theorem str_small {z : Str} (h : z.length ≤ 1000) : z.length ≤ sizeLine := Nat.le_trans h (by decide)
local macro_rules | `(tactic| walk_at "ssz") => `(tactic| first | decide | exact str_small (by assumption) | (have : (1000000 : Nat) ≤ sizeLine := (by decide); omega))
local macro_rules | `(tactic| walk_at "st1") => `(tactic| first
  | with_reducible refine' r_nt ?_ | with_reducible refine' r_nf ?_
  | ((with_reducible refine r_lenS ?e1 ?_); (case e1 => walk_at "ssz"))
  | with_reducible refine r_inS ?_
  | with_reducible refine r_ninS ?_
  | ((with_reducible refine r_addS ?e1 ?_); (case e1 => walk_at "ssz"))
  | ((with_reducible refine' r_ixS ?e1 ?e2 ?_); (case e1 => walk_at "ssz"); (case e2 => first | assumption | rfl))
  | with_reducible refine r_istr ?_
  | with_reducible refine r_is ?_
  | with_reducible refine r_un ?_
  | with_reducible refine r_u ?_)
local macro_rules | `(tactic| walk_at "ssz") => `(tactic| first | decide | exact str_small (by assumption) | (have : (1000000 : Nat) ≤ sizeLine := (by decide); omega))
local macro_rules | `(tactic| walk_at "st1") => `(tactic| first
  | with_reducible refine' r_nt ?_ | with_reducible refine' r_nf ?_
  | ((with_reducible refine r_lenS ?e1 ?_); (case e1 => walk_at "ssz"))
  | with_reducible refine r_inS ?_
  | with_reducible refine r_ninS ?_
  | ((with_reducible refine r_addS ?e1 ?_); (case e1 => walk_at "ssz"))
  | ((with_reducible refine' r_ixS ?e1 ?e2 ?_); (case e1 => walk_at "ssz"); (case e2 => first | assumption | rfl))
  | with_reducible refine r_istr ?_
  | with_reducible refine r_is ?_
  | with_reducible refine r_un ?_
  | with_reducible refine r_u ?_)
def cs (x : Str) : List Nat := x.cps.toList
def onlyIn (x z : Str) : Bool := (cs x).all (fun c => decide (c ∈ cs z))
def sp_has_only (_ : PySem.W.Frag) : Sp := fun vs H Q _ => ∃ x z : Str, vs = [.str x, .str z] ∧ x.length ≤ 1000 ∧ ∀ H', Same H H' → Q (.bl (onlyIn x z)) H'
section
variable {P : Program} {w : World} {K : PySem.W.Frag} {mg : Str → Option Value} {base : Heap}
theorem ok_has_only {c_Coded : Addr} {c_Machine : Addr} {c_CodeReader : Addr} {c_REGISTERS : Addr} {c_CELLS : Addr} {c_SHAPES : Addr} (T : Tx K mg c_Coded c_Machine c_CodeReader c_REGISTERS c_CELLS c_SHAPES w)  {f : Addr} {fd : FuncData} (F : Here K mg "has_only" s_has_only ["text", "signs"] f fd) : Cal P w K mg base "has_only" 1 ["text", "signs"] (sp_has_only K) s_has_only f fd := by
  refine F.cal sc_has_only (fun vs H Q E h => ?_) (fun cdv A outer s H vs Q E hr h => ?_)
  · obtain ⟨x, z, rfl, _⟩ := h
    rfl
  · obtain ⟨x, z, rfl, hx, q⟩ := h
    refine ⟨_, (pss_one (ps_ret (pe_callB (cr_allK (K := K) rfl) (by rfl) T.m_all (by decide +kernel) (pa_cons (pe_lc rfl sc_has_only.nd (pi_str (pv 0)) (blkOk_by (own := [("sign", 2)]) (N := ["text", "signs", "sign"]) (sc := (defScope s_has_only)) (by decide +kernel)) (fun _ _ _ _ _ => (pg_name (i := 2) sc_has_only.nd rfl (by first | exact .inl rfl | exact .inr rfl))) (fun _ _ _ _ _ => pts_nil) (fun _ _ _ _ _ => (pe_cmpR op_inS (pv 2) (pv 1) (by rfl)))) pa_nil)))), ?_⟩
    walk_at "st"
    intro D hD
    have hx2 : x.cps.size ≤ 1000 := hx
    refine lc_map (walk_str (z := x)) (by omega) hD (fun i y _ => ∃ c, x.cps[i]? = some c ∧ y = .bl (decide (c ∈ cs z))) (fun _ _ _ _ h _ => h) (fun _ _ _ _ _ h _ => h) (fun _ _ => trivial) (fun i H1 x H2 y => by rw [y.1]; exact Same.refl _)
      (fun i x' H1 H2 Y No hi sm y hY => ?_) (fun ys H' el sm eD hys => ?_)
    · obtain ⟨rfl, c, ec, rfl⟩ := y
      refine ⟨rfl, ?_⟩
      walk_at "st"
      exact hY _ _ (Same.refl _) ⟨c, ec, rfl⟩
    · have eys : ys = ((cs x).map fun c => decide (c ∈ cs z)).map V.bl := by
        apply List.ext_getElem?
        intro i
        cases e2 : ys[i]? with
        | none =>
          rw [List.getElem?_eq_none_iff] at e2
          rw [List.getElem?_eq_none_iff.mpr (by simp [cs]; omega)]
        | some y =>
          obtain ⟨c, ec, rfl⟩ := hys i y e2
          have : (cs x)[i]? = some c := by unfold cs; rw [Array.getElem?_toList]; exact ec
          rw [List.getElem?_map, List.getElem?_map, this]; rfl
      subst eys
      walk_at "st"
      have := q H' sm
      rw [List.all_map]
      exact this
end
local macro_rules | `(tactic| walk_at "ssz") => `(tactic| first | decide | exact str_small (by assumption) | (have : (1000000 : Nat) ≤ sizeLine := (by decide); omega))
local macro_rules | `(tactic| walk_at "st1") => `(tactic| first
  | with_reducible refine' r_nt ?_ | with_reducible refine' r_nf ?_
  | ((with_reducible refine r_lenS ?e1 ?_); (case e1 => walk_at "ssz"))
  | with_reducible refine r_inS ?_
  | with_reducible refine r_ninS ?_
  | ((with_reducible refine r_addS ?e1 ?_); (case e1 => walk_at "ssz"))
  | ((with_reducible refine' r_ixS ?e1 ?e2 ?_); (case e1 => walk_at "ssz"); (case e2 => first | assumption | rfl))
  | with_reducible refine r_istr ?_
  | with_reducible refine r_is ?_
  | with_reducible refine r_un ?_
  | with_reducible refine r_u ?_)
/-! ### texts by their codes -/
abbrev Sx (a : List Nat) : Str := SX.S a
theorem Sx_cs (z : Str) : Sx (cs z) = z := SX.S_tl z
theorem cs_Sx (a : List Nat) : cs (Sx a) = a := rfl
theorem Sx_len (a : List Nat) : (Sx a).length = a.length := SX.S_len a
def digC (c : Nat) : Bool := decide (48 ≤ c) && decide (c ≤ 57)
def numC (n : Int) : List Nat := TL.numL n.toNat
/-- a number that is told by figures, at most so many, none with a 0 ahead of others -/
def figC (a : List Nat) (m : Int) : Option Int :=
  if (1 ≤ a.length ∧ (a.length : Int) ≤ m) ∧ a.all digC = true ∧ ¬ (a.head? = some 48 ∧ 1 < a.length) then some ((NumText.digitsVal a : Nat) : Int) else none
def optV : Option Int → V
  | none => .non
  | some n => .int n
theorem digC_iff (c : Nat) : digC c = decide (c ∈ cs "0123456789") := by
  have e : cs "0123456789" = [48, 49, 50, 51, 52, 53, 54, 55, 56, 57] := by decide
  rw [e]
  unfold digC
  by_cases h : 48 ≤ c ∧ c ≤ 57
  · have : c = 48 ∨ c = 49 ∨ c = 50 ∨ c = 51 ∨ c = 52 ∨ c = 53 ∨ c = 54 ∨ c = 55 ∨ c = 56 ∨ c = 57 := by omega
    rcases this with h | h | h | h | h | h | h | h | h | h <;> subst h <;> decide
  · have h1 : (decide (48 ≤ c) && decide (c ≤ 57)) = false := by
      rw [Bool.and_eq_false_iff]
      by_cases d : 48 ≤ c
      · exact .inr (decide_eq_false fun z => h ⟨d, z⟩)
      · exact .inl (decide_eq_false d)
    rw [h1]
    symm
    refine decide_eq_false fun m => ?_
    simp at m
    omega
theorem numC_digits (n : Int) : (numC n).all digC = true := by
  refine List.all_eq_true.mpr fun c m => ?_
  have := TL.numL_digits n.toNat c m
  unfold digC
  rw [decide_eq_true this.1, decide_eq_true this.2]; rfl
theorem numC_ne (n : Int) : numC n ≠ [] := TL.numL_ne _
theorem numC_val {n : Int} (h : 0 ≤ n) : ((NumText.digitsVal (numC n) : Nat) : Int) = n := by
  unfold numC; rw [TL.numL_val]; omega
def rStrOf : List V → Hp → VK → Prop := fun xs H Q => ∃ i, xs = [.int i] ∧ i.natAbs.log2 < 1920 ∧ Q (.str (toString i)) H
theorem cr_strOf {X : Cx} : CallR X (.type "str") rStrOf := call_str_int
def tTru (K : PySem.W.Frag) (ta : TE) : TT := fun σ H Q => ta σ H fun x H' => ∃ k, TruV K x H' k ∧ Q k H'
theorem pt_truthK {X : Cx} {K : PySem.W.Frag} {a : Expr} {ta : TE} (ha : PE X a ta) (he : ∀ whole, isTrue a X.env whole = (do let v ← whole; standAt a.pos; holding [v] (truthy v))) (q : X.K = K := by rfl) : PT X a (tTru K ta) := q ▸ pt_truth ha he
def rIntS : List V → Hp → VK → Prop := fun xs H Q => ∃ a n, xs = [.str a] ∧ PySem.intText? a = some n ∧ a.length ≤ 640 ∧ Q (.int n) H
theorem cr_intS {X : Cx} : CallR X (.type "int") rIntS := call_int_str
def rLstC : V → List V → Hp → VK → Prop := fun x xs H Q => ∃ a b, x = .str a ∧ xs = [.str b] ∧ a.length ≤ sizeLine ∧ Q (.str (Txt.lstripChars a b)) H
def rSplS : V → List V → Hp → VK → Prop := fun x xs H Q => ∃ a b, x = .str a ∧ xs = [.str b] ∧ (b.length == 0) = false ∧ a.length + 2 ≤ sizeLine ∧ ∀ p, H p = none → Q (.ref p) (upd H p (.lst ((Txt.split a b).map V.str)))
theorem mt_lstK {X : Cx} : MtR X "str.lstrip" rLstC := mt_lstripChars
theorem mt_splK {X : Cx} : MtR X "str.split" rSplS := mt_split
def rSlTx : V → Option Int → Option Int → Hp → VK → Prop := fun x lo hi H Q => ∃ z, x = .str z ∧ z.length ≤ sizeLine ∧ Q (.str (Txt.slice z lo hi)) H
theorem sl_txtK {X : Cx} : SlR X rSlTx := C8.sl_txt
theorem take_tw (f : Nat → Bool) : ∀ a : List Nat, a.take (a.takeWhile f).length = a.takeWhile f
  | [] => rfl
  | c :: a => by
    rw [List.takeWhile_cons]
    cases f c with
    | true => rw [if_pos rfl, List.length_cons, List.take_succ_cons, take_tw f a]
    | false => rw [if_neg (by decide)]; rfl
theorem numC_of {p : Int} (h : 0 ≤ p) : (toString p : Str) = Sx (numC p) := by
  obtain ⟨n, rfl⟩ := Int.eq_ofNat_of_zero_le h
  exact SX.num_S n
theorem log_small {p : Int} (h0 : 0 ≤ p) (h : p ≤ 1000000) : p.natAbs.log2 < 1920 := by
  have h1 : p.natAbs < 2 ^ 20 := by
    have : (2 : Nat) ^ 20 = 1048576 := by decide
    omega
  by_cases c : p.natAbs = 0
  · rw [c]; decide
  · exact Nat.lt_of_lt_of_le ((Nat.log2_lt c).mpr h1) (by decide)
theorem numC_le {p : Int} (h : p ≤ 1000000) : (numC p).length ≤ 7 := by
  have e : (10 : Nat) ^ 7 = 10000000 := by decide
  exact TL.numL_len (by decide) (by rw [e]; omega)
theorem drop_tw (f : Nat → Bool) : ∀ a : List Nat, a.drop (a.takeWhile f).length = a.dropWhile f
  | [] => rfl
  | c :: a => by
    rw [List.takeWhile_cons, List.dropWhile_cons]
    cases f c with
    | true => rw [if_pos rfl, if_pos rfl, List.length_cons, List.drop_succ_cons, drop_tw f a]
    | false => rw [if_neg (by decide), if_neg (by decide)]; rfl
theorem lstrip_S (a b : List Nat) : Txt.lstripChars (SX.S a) (SX.S b) = SX.S (a.dropWhile fun c => decide (c ∈ b)) := by
  have e0 : (fun c => (SX.S b).cps.contains c) = fun c => decide (c ∈ b) := by
    funext c
    rw [Array.contains_eq_mem]
    exact decide_eq_decide.mpr ⟨fun h => by simpa [SX.S] using h, fun h => by simpa [SX.S] using h⟩
  unfold Txt.lstripChars
  rw [show (SX.S b).cps.contains = fun c => (SX.S b).cps.contains c from rfl, e0, PyProof.Rows.stripBy_eq]
  have e1 : stripLo (fun c => decide (c ∈ b)) true (SX.S a) = (a.takeWhile fun c => decide (c ∈ b)).length := by
    unfold stripLo
    rw [if_pos rfl]
  have e2 : stripHi (fun c => decide (c ∈ b)) false (SX.S a) (stripLo (fun c => decide (c ∈ b)) true (SX.S a)) = a.length := by
    unfold stripHi
    rw [if_neg (by decide)]
    exact SX.S_len a
  rw [e2, e1]
  refine TL.ext_tl ?_
  show ((SX.S a).cps.extract _ _).toList = _
  rw [Array.toList_extract]
  show (a.drop _).take _ = a.dropWhile _
  rw [← List.length_drop, List.take_length]
  exact drop_tw _ a
def rJoin (K : PySem.W.Frag) : V → List V → Hp → VK → Prop := fun x xs H Q => ∃ a p, ∃ ys : List Str, x = .str a ∧ xs = [.ref p] ∧ (SqL K H p (ys.map V.str) ∨ SqT K H p (ys.map V.str)) ∧ (ys.map (·.length)).sum + ys.length * a.length ≤ 16777216 ∧ Q (.str (Txt.join a ys)) H
theorem castM1 {X : Cx} {K : PySem.W.Frag} {e : Expr} {to te : TE} (h : PE X e (tM1 (rJoin X.K) to te)) (q : X.K = K := by rfl) : PE X e (tM1 (rJoin K) to te) := q ▸ h
def rIsNn : R2 := fun x y H Q => y = .non ∧ Q (.bl (decide (x = .non))) H
theorem op_isNn {X : Cx} : OpR X (compareOp .Is) rIsNn := op_isN
section
variable {K : PySem.W.Frag} {σ : L2.St} {H : Hp} {Q : VK}
theorem r_tru {ta : TE} {R : Bool → Hp → Prop} (h : ta σ H fun x H' => ∃ k, TruV K x H' k ∧ R k H') : tTru K ta σ H R := h
theorem r_truT {p : Addr} {xs : List V} {R : Bool → Prop} (h : SqT K H p xs) (q : R (!xs.isEmpty)) : ∃ k, TruV K (.ref p) H k ∧ R k := ⟨_, .inr (.inl ⟨xs, h, rfl⟩), q⟩
theorem r_tyS {z : Str} {A : Prop} (q : A) : tyV K "str" (.str z) H ∧ A := ⟨(rfl : "str" = "str"), q⟩
theorem r_lstC {a b : List Nat} (h : a.length ≤ 1000000) (q : Q (.str (Sx (a.dropWhile fun c => decide (c ∈ b)))) H) : rLstC (.str (Sx a)) [.str (Sx b)] H Q := ⟨_, _, rfl, rfl, by rw [Sx_len]; exact Nat.le_trans h (by decide), by rw [lstrip_S]; exact q⟩
theorem r_slTo {a : List Nat} {i : Int} (h : a.length ≤ 1000000) (h0 : 0 ≤ i) (q : Q (.str (Sx (a.take i.toNat))) H) : rSlTx (.str (Sx a)) none (some i) H Q := ⟨_, rfl, by rw [Sx_len]; exact Nat.le_trans h (by decide), by rw [SX.slice_to h0]; exact q⟩
theorem r_strC {i : Int} (h : 0 ≤ i ∧ i ≤ 1000000) (q : Q (.str (Sx (numC i))) H) : rStrOf [.int i] H Q := ⟨i, rfl, log_small h.1 h.2, by rw [numC_of h.1]; exact q⟩
theorem r_m1 {r : V → List V → Hp → VK → Prop} {to te : TE} (h : to σ H fun x H1 => (∃ a, x = .str a) ∧ te σ H1 fun y H2 => r x [y] H2 Q) : tM1 r to te σ H Q := h
theorem r_sx {z : Str} {B : Prop} (h : B) : (∃ a, V.str z = .str a) ∧ B := ⟨⟨z, rfl⟩, h⟩
theorem r_joinS {a : Str} {p : Addr} {ys : List Str} (h : SqL K H p (ys.map V.str)) (z : (ys.map (·.length)).sum + ys.length * a.length ≤ 16777216) (q : Q (.str (Txt.join a ys)) H) : rJoin K (.str a) [.ref p] H Q := ⟨a, p, ys, rfl, rfl, .inl h, z, q⟩
theorem r_ifG {c : TT} {t u : TE} (J : V → Hp → Prop) (hQ : ∀ x H', J x H' → Q x H') (h : ∀ Q' : VK, (∀ x H', J x H' → Q' x H') → tIf c t u σ H Q') : tIf c t u σ H Q := h Q hQ
theorem r_tjs {t : TE} {ts : List TE} {acc : Str} {R : Str → Hp → Prop} (h : t σ H fun x H1 => ∃ y : Str, x = .str y ∧ (acc ++ y).length ≤ sizeLine ∧ tJs ts (acc ++ y) σ H1 R) : tJs (t :: ts) acc σ H R := h
theorem r_fmtI {te : TE} (h : te σ H fun x H1 => ∃ i, x = .int i ∧ (0 ≤ i ∧ i ≤ 1000000) ∧ Q (.str (Sx (numC i))) H1) (hm : ∀ {Q1 Q2 : VK}, (∀ x H1, Q1 x H1 → Q2 x H1) → te σ H Q1 → te σ H Q2) : tFmt te σ H Q :=
  hm (fun x H1 z => by
    obtain ⟨i, rfl, hi, q⟩ := z
    exact .inr ⟨i, rfl, log_small hi.1 hi.2, by rw [numC_of hi.1]; exact q⟩) h
theorem r_fmtVI {i : Nat} {k : Int} (e : σ[i]? = some (some (.int k))) (hk : 0 ≤ k ∧ k ≤ 1000000) (q : Q (.str (Sx (numC k))) H) : tFmt (tVar i) σ H Q := ⟨_, e, .inr ⟨k, rfl, log_small hk.1 hk.2, by rw [numC_of hk.1]; exact q⟩⟩
theorem r_fmtVS {i : Nat} {z : Str} (e : σ[i]? = some (some (.str z))) (hz : z.length ≤ 1000000) (q : Q (.str z) H) : tFmt (tVar i) σ H Q := ⟨_, e, .inl ⟨z, rfl, Nat.le_trans hz (by decide), q⟩⟩
theorem r_isN {x : V} (q : Q (.bl (decide (x = .non))) H) : rIsNn x .non H Q := ⟨rfl, q⟩
end
local macro_rules | `(tactic| walk_at "st1") => `(tactic| first
  | with_reducible refine r_tru ?_
  | ((with_reducible refine' r_truT ?e1 ?_); (case e1 => walk_at "sq"))
  | with_reducible refine r_isN ?_
  | with_reducible refine r_tyS ?_
  | with_reducible refine r_m1 ?_
  | with_reducible refine r_sx ?_
  | ((with_reducible refine r_strC ?e1 ?_); (case e1 => omega)))
def sp_read_figures (_ : PySem.W.Frag) : Sp := fun vs H Q _ => ∃ (a : List Nat) (m : Int), vs = [.str (Sx a), .int m] ∧ a.length ≤ 1000000 ∧ m ≤ 600 ∧ ∀ H', Same H H' → Q (optV (figC a m)) H'
section
variable {P : Program} {w : World} {K : PySem.W.Frag} {mg : Str → Option Value} {base : Heap}
theorem ok_read_figures {c_Coded : Addr} {c_Machine : Addr} {c_CodeReader : Addr} {c_REGISTERS : Addr} {c_CELLS : Addr} {c_SHAPES : Addr} (T : Tx K mg c_Coded c_Machine c_CodeReader c_REGISTERS c_CELLS c_SHAPES w) {f_has_only : Addr} {fd_has_only : FuncData} (C_has_only : Cal P w K mg base "has_only" 1 ["text", "signs"] (sp_has_only K) s_has_only f_has_only fd_has_only) {f : Addr} {fd : FuncData} (F : Here K mg "read_figures" s_read_figures ["text", "most"] f fd) : Cal P w K mg base "read_figures" 2 ["text", "most"] (sp_read_figures K) s_read_figures f fd := by
  refine F.cal sc_read_figures (fun vs H Q E h => ?_) (fun cdv A outer s H vs Q E hr h => ?_)
  · obtain ⟨a, m, rfl, _⟩ := h
    rfl
  · obtain ⟨a, m, rfl, ha, hm, q⟩ := h
    refine ⟨_, (pss_cons (ps_if (PW.pt (pw_or (pt_not (pt_chain op_le op_le pe_int (pe_callB cr_lenS (by rfl) T.m_len (by decide +kernel) (pa_cons (pv 0) pa_nil)) (pv 1))) (pw_or1 (pt_not (pt_val (pe_call C_has_only.ok (hr.mono (by decide)) (by rfl) C_has_only.at_ C_has_only.kp C_has_only.b .nil pass0 (pa_cons (pv 0) (pa_cons (pe_glob (v := .str "0123456789") (by rfl) (T.c_FIGURES).choose_spec ⟨_, rfl⟩) pa_nil)))))))) (pss_one (ps_ret pe_non)) pss_nil)
      (pss_cons (ps_if (PW.pt (pw_and (pt_cmpR op_eq (pe_ix ix_str (pv 0) pe_int (fun _ _ => rfl)) pe_str (nomark _)) (pw_and1 (pt_cmpR op_gt (pe_callB cr_lenS (by rfl) T.m_len (by decide +kernel) (pa_cons (pv 0) pa_nil)) pe_int (nomark _))))) (pss_one (ps_ret pe_non)) pss_nil)
      (pss_one (ps_ret (pe_callTy cr_intS (by rfl) T.m_int (by decide +kernel) (pa_cons (pv 0) pa_nil)))))), ?_⟩
    have hla : (Sx a).length ≤ sizeLine := by rw [Sx_len]; exact Nat.le_trans ha (by decide)
    walk_at "st"
    walk_at "if"
    rw [Sx_len]
    have no : figC a m = none → ∀ H', Same H H' → Q .non H' := fun e H' k => by
      have := q H' k
      rw [e] at this
      exact this
    refine r_ite (fun h1 => ?_) (fun h1 => ?_)
    · walk_at "st"
      cases h2 : decide ((a.length : Int) ≤ m) with
      | false =>
        walk_at "st"
        refine no ?_ H (Same.refl _)
        unfold figC
        rw [if_neg fun z => of_decide_eq_false h2 z.1.2]
      | true =>
        have hm2 := of_decide_eq_true h2
        walk_at "st"
        refine ⟨Sx a, _, rfl, by rw [Sx_len]; omega, fun H1 s1 => ?_⟩
        have e1 : onlyIn (Sx a) (Str.ofString "0123456789") = a.all digC := by
          unfold onlyIn
          show (cs (Sx a)).all _ = _
          rw [cs_Sx]
          congr 1
          funext c
          exact (digC_iff c).symm
        rw [e1]
        walk_at "st"
        cases h3 : a.all digC with
        | false =>
          walk_at "st"
          refine no ?_ H1 s1
          unfold figC
          rw [if_neg fun z => by rw [h3] at z; exact absurd z.2.1 (by decide)]
        | true =>
          walk_at "st"
          walk_at "if"
          obtain ⟨c, r, rfl⟩ : ∃ c r, a = c :: r := by
            cases a with
            | nil => simp at h1
            | cons c r => exact ⟨c, r, rfl⟩
          have ix : atI (Sx (c :: r)).cps.toList 0 = some c := (show atI (c :: r) ((0 : Nat) : Int) = some c from atI_nat rfl)
          have yes : ∀ H', Same H H' → ¬ ((c :: r).head? = some 48 ∧ 1 < (c :: r).length) → Q (.int ((NumText.digitsVal (c :: r) : Nat) : Int)) H' := fun H' k z => by
            have := q H' k
            unfold figC at this
            rw [if_pos ⟨⟨by simp, hm2⟩, h3, z⟩] at this
            exact this
          have fin : ∀ H', Same H H' → ¬ ((c :: r).head? = some 48 ∧ 1 < (c :: r).length) → rIntS [.str (Sx (c :: r))] H' Q := fun H' k z =>
            ⟨_, _, rfl, SX.int_S h3 (List.cons_ne_nil _ _) (by omega), by rw [Sx_len]; omega, yes H' k z⟩
          walk_at "st"
          have e2 : decide (V.str ⟨#[c]⟩ = V.str (Str.ofString "0")) = decide (c = 48) := by
            refine decide_eq_decide.mpr ⟨fun z => ?_, fun z => by rw [z]; rfl⟩
            injection z with z
            injection z with z
            have : #[c] = #[48] := z
            simpa using this
          rw [e2]
          refine r_ite (fun h4 => ?_) (fun h4 => ?_)
          · walk_at "st"
            rw [Sx_len]
            refine r_ite (fun h5 => ?_) (fun h5 => ?_)
            · walk_at "st"
              refine no ?_ H1 s1
              unfold figC
              rw [if_neg fun z => z.2.2 ⟨by rw [h4]; rfl, by omega⟩]
            · walk_at "st"
              exact fin H1 s1 fun z => h5 (by have := z.2; omega)
          · walk_at "st"
            exact fin H1 s1 fun z => h4 (Option.some.inj z.1)
    · walk_at "st"
      refine no ?_ H (Same.refl _)
      unfold figC
      rw [if_neg fun z => h1 (by have := z.1.1; omega)]
end
local macro_rules | `(tactic| walk_at "ssz") => `(tactic| first | decide | exact str_small (by assumption) | (have : (1000000 : Nat) ≤ sizeLine := (by decide); omega))
local macro_rules | `(tactic| walk_at "st1") => `(tactic| first
  | with_reducible refine' r_nt ?_ | with_reducible refine' r_nf ?_
  | ((with_reducible refine r_lenS ?e1 ?_); (case e1 => walk_at "ssz"))
  | with_reducible refine r_inS ?_
  | with_reducible refine r_ninS ?_
  | ((with_reducible refine r_addS ?e1 ?_); (case e1 => walk_at "ssz"))
  | ((with_reducible refine' r_ixS ?e1 ?e2 ?_); (case e1 => walk_at "ssz"); (case e2 => first | assumption | rfl))
  | with_reducible refine r_istr ?_
  | with_reducible refine r_is ?_
  | with_reducible refine r_un ?_
  | with_reducible refine r_u ?_)
local macro_rules | `(tactic| walk_at "st1") => `(tactic| first
  | with_reducible refine r_tru ?_
  | ((with_reducible refine' r_truT ?e1 ?_); (case e1 => walk_at "sq"))
  | with_reducible refine r_isN ?_
  | with_reducible refine r_tyS ?_
  | with_reducible refine r_m1 ?_
  | with_reducible refine r_sx ?_
  | ((with_reducible refine r_strC ?e1 ?_); (case e1 => omega)))
local macro_rules | `(tactic| walk_at "st1") => `(tactic| first
  | with_reducible refine r_par ?_
  | with_reducible refine r_parx ?_
  | ((with_reducible refine' r_gtup ?e1 ?e2 ?_); (case e1 => walk_at "sq"); (case e2 => rfl))
  | with_reducible refine r_gcons ?_
  | with_reducible refine r_gnil ?_
  | with_reducible refine r_ient ?_
  | ((with_reducible refine' r_ent ?e1 ?_); (case e1 => walk_at "sq")))
local macro_rules | `(tactic| walk_at "st1") => `(tactic| first
  | with_reducible refine' r_nt ?_
  | with_reducible refine' r_nf ?_
  | with_reducible refine r_un ?_
  | with_reducible refine r_u ?_)
/-! ### goals that lead round -/
def rGetN : V → V → Hp → VK → Prop := fun o i H Q => ∃ (p : Addr) (xs : List V) (j : Nat) (z : V), o = .ref p ∧ i = .int (j : Nat) ∧ H p = some (.lst xs) ∧ xs[j]? = some z ∧ Q z H
theorem get_listN {X : Cx} : PGet X rGetN := by
  intro pins s σ H o i ov iv Q I ro ri h
  obtain ⟨p, xs, j, z, rfl, rfl, hp, hz, q⟩ := h
  cases ro
  obtain ⟨t, rfl⟩ := ri
  obtain ⟨its, r, pl, sz⟩ := I.list (SqL.of hp)
  obtain ⟨w, ew, rw'⟩ := r.get hz
  have hl := r.length
  have hn := line63
  have hj := (List.getElem?_eq_some_iff.mp hz).1
  refine wpAny_getItem_list (x := w) pl.isList (by omega) (by omega) (by simpa using ew) ⟨z, H, I, rw', q⟩
def GL (H : Hp) (us : List V) (G : List (List Nat)) : Prop := us.length = G.length ∧ ∀ (i : Nat) (v : V), us[i]? = some v → ∃ g, G[i]? = some g ∧ ∃ c, v = .ref c ∧ H c = some (.lst (g.map fun (n : Nat) => V.int n))
theorem GL.same {H H' : Hp} {us : List V} {G : List (List Nat)} (h : GL H us G) (k : Same H H') : GL H' us G :=
  ⟨h.1, fun i v e => by
    obtain ⟨g, eg, c, rfl, hc⟩ := h.2 i v e
    exact ⟨g, eg, c, rfl, k _ _ hc⟩⟩
def Acyc (G : List (List Nat)) : Prop := ∃ rk : Nat → Nat, ∀ (i : Nat) (g : List Nat) (j : Nat), G[i]? = some g → j ∈ g → rk i < rk j
def wsum (f : Nat → Nat) (dn : List Nat) : List Nat → Nat
  | [] => 0
  | i :: r => (if i ∈ dn then 0 else f i) + wsum f dn r
theorem wsum_same {f : Nat → Nat} {dn : List Nat} {a : Nat} : ∀ {L : List Nat}, a ∉ L → wsum f (dn ++ [a]) L = wsum f dn L
  | [], _ => rfl
  | i :: r, h => by
    have ne : i ≠ a := fun e => h (by rw [e]; exact List.mem_cons_self)
    have ih := wsum_same (f := f) (dn := dn) (L := r) fun m => h (List.mem_cons_of_mem _ m)
    show (if i ∈ dn ++ [a] then 0 else f i) + wsum f (dn ++ [a]) r = (if i ∈ dn then 0 else f i) + wsum f dn r
    rw [ih]
    by_cases c : i ∈ dn
    · rw [if_pos (List.mem_append_left _ c), if_pos c]
    · rw [if_neg (fun m => by
        rcases List.mem_append.mp m with m | m
        · exact c m
        · exact ne (List.mem_singleton.mp m)), if_neg c]
theorem wsum_step {f : Nat → Nat} {dn : List Nat} {a : Nat} (ha : a ∉ dn) : ∀ {L : List Nat}, L.Nodup → a ∈ L → wsum f dn L = wsum f (dn ++ [a]) L + f a
  | i :: r, nd, m => by
    rw [List.nodup_cons] at nd
    show (if i ∈ dn then 0 else f i) + wsum f dn r = (if i ∈ dn ++ [a] then 0 else f i) + wsum f (dn ++ [a]) r + f a
    by_cases e : i = a
    · subst e
      rw [if_neg ha, if_pos (by simp), wsum_same nd.1]; omega
    · have m : a ∈ r := (List.mem_cons.mp m).resolve_left fun z => e z.symm
      rw [wsum_step ha nd.2 m]
      by_cases c : i ∈ dn
      · rw [if_pos c, if_pos (List.mem_append_left _ c)]; omega
      · rw [if_neg c, if_neg (fun m => by
          rcases List.mem_append.mp m with m | m
          · exact c m
          · exact e (List.mem_singleton.mp m))]; omega
theorem wsum_zero {f : Nat → Nat} {dn : List Nat} : ∀ {L : List Nat}, wsum f dn L = 0 → ∀ i ∈ L, i ∉ dn → f i = 0
  | j :: r, h, i, m, n => by
    have h : (if j ∈ dn then 0 else f j) + wsum f dn r = 0 := h
    rcases List.mem_cons.mp m with rfl | m
    · rw [if_neg n] at h; omega
    · exact wsum_zero (by omega) i m n
theorem wsum_pos {f : Nat → Nat} {dn : List Nat} : ∀ {L : List Nat}, wsum f dn L ≠ 0 → ∃ i ∈ L, i ∉ dn ∧ f i ≠ 0
  | [], h => absurd rfl h
  | j :: r, h => by
    have h : (if j ∈ dn then 0 else f j) + wsum f dn r ≠ 0 := h
    by_cases c : wsum f dn r = 0
    · by_cases d : j ∈ dn
      · rw [if_pos d] at h; omega
      · rw [if_neg d] at h
        exact ⟨j, List.mem_cons_self, d, by omega⟩
    · obtain ⟨i, m, n, e⟩ := wsum_pos c
      exact ⟨i, List.mem_cons_of_mem _ m, n, e⟩
theorem wsum_snoc (f : Nat → Nat) (dn : List Nat) (a : Nat) : ∀ L : List Nat, wsum f dn (L ++ [a]) = wsum f dn L + if a ∈ dn then 0 else f a
  | [] => by simp [wsum]
  | i :: r => by
    show (if i ∈ dn then 0 else f i) + wsum f dn (r ++ [a]) = (if i ∈ dn then 0 else f i) + wsum f dn r + _
    rw [wsum_snoc f dn a r]; omega
def cntG (G : List (List Nat)) (j i : Nat) : Nat := (G.getD i []).count j
def cntE (G : List (List Nat)) (dn : List Nat) (j : Nat) : Nat := wsum (cntG G j) dn (List.range G.length)
theorem nat_sub_len : ∀ {n : Nat} {D : List Nat}, (∀ j, j < n → j ∈ D) → n ≤ D.length
  | 0, _, _ => Nat.zero_le _
  | n + 1, D, h => by
    have m := h n (Nat.lt_succ_self n)
    have ih := nat_sub_len (n := n) (D := D.erase n) fun j hj => (List.mem_erase_of_ne (by omega)).mpr (h j (by omega))
    rw [List.length_erase_of_mem m] at ih
    have := List.length_pos_of_mem m
    omega
theorem nodup_le : ∀ {n : Nat} {D : List Nat}, D.Nodup → (∀ j ∈ D, j < n) → D.length ≤ n
  | 0, D, _, h => by
    cases D with
    | nil => exact Nat.le_refl _
    | cons a r => exact absurd (h a List.mem_cons_self) (by omega)
  | n + 1, D, nd, h => by
    have ih := nodup_le (n := n) (D := D.erase n) (nd.erase n) fun j hj => by
      have m := List.mem_of_mem_erase hj
      have ne : j ≠ n := fun e => by rw [e] at hj; exact (List.Nodup.not_mem_erase nd) hj
      have := h j m
      omega
    by_cases m : n ∈ D
    · rw [List.length_erase_of_mem m] at ih; omega
    · rw [List.erase_of_not_mem m] at ih; omega
/-- what is done, in its order: whatever leads to a thing is done ahead of it -/
def Topo (G : List (List Nat)) (dn : List Nat) : Prop := ∀ (p q : List Nat) (j : Nat), dn = p ++ j :: q → ∀ (i : Nat) (g : List Nat), G[i]? = some g → j ∈ g → i ∈ p
theorem Topo.snoc {G : List (List Nat)} {dn : List Nat} {a : Nat} (h : Topo G dn) (n : ∀ (i : Nat) (g : List Nat), G[i]? = some g → a ∈ g → i ∈ dn) : Topo G (dn ++ [a]) := by
  intro p q j e i g eg mj
  rcases List.eq_nil_or_concat q with z | ⟨q0, y, z⟩
  · subst z
    have e2 := List.append_inj' e rfl
    obtain ⟨rfl, e3⟩ := e2
    obtain rfl : a = j := by simpa using e3
    exact n i g eg mj
  · rw [List.concat_eq_append] at z
    subst z
    have e2 : dn ++ [a] = (p ++ j :: q0) ++ [y] := by rw [e]; simp
    obtain ⟨e3, _⟩ := List.append_inj' e2 rfl
    exact h p q0 j e3 i g eg mj
structure Kahn (G : List (List Nat)) (dn fr : List Nat) : Prop where
  nd : (dn ++ fr).Nodup
  lt : ∀ j ∈ dn ++ fr, j < G.length
  zero : ∀ j, j < G.length → (cntE G dn j = 0 ↔ j ∈ dn ++ fr)
  topo : Topo G dn
theorem Kahn.free {G : List (List Nat)} {dn fr : List Nat} (h : Kahn G dn fr) {j : Nat} (m : j ∈ dn ++ fr) : ∀ (i : Nat) (g : List Nat), G[i]? = some g → j ∈ g → i ∈ dn := by
  intro i g eg mj
  have z := (h.zero j (h.lt j m)).mpr m
  by_cases c : i ∈ dn
  · exact c
  · have li := (List.getElem?_eq_some_iff.mp eg).1
    have := wsum_zero z i (List.mem_range.mpr li) c
    unfold cntG at this
    rw [List.getD_eq_getElem?_getD, eg] at this
    have p := List.count_pos_iff.mpr mj
    have this : g.count j = 0 := this
    omega
theorem Kahn.all {G : List (List Nat)} {dn : List Nat} (h : Kahn G dn []) (a : Acyc G) : dn.length = G.length := by
  obtain ⟨rk, hr⟩ := a
  have nd := h.nd
  have lt := h.lt
  rw [List.append_nil] at nd lt
  refine Nat.le_antisymm (nodup_le nd lt) (nat_sub_len fun j hj => ?_)
  have key : ∀ (n j : Nat), rk j ≤ n → j < G.length → j ∈ dn := by
    intro n
    induction n with
    | zero =>
      intro j hn hj
      by_cases c : j ∈ dn
      · exact c
      · have nz : cntE G dn j ≠ 0 := fun z => c (by have := (h.zero j hj).mp z; rwa [List.append_nil] at this)
        obtain ⟨i, mi, ni, fi⟩ := wsum_pos nz
        have li := List.mem_range.mp mi
        have eg := List.getElem?_eq_getElem li
        unfold cntG at fi
        rw [List.getD_eq_getElem?_getD, eg] at fi
        have := hr i G[i] j eg (List.count_pos_iff.mp (Nat.pos_of_ne_zero fi))
        omega
    | succ n ih =>
      intro j hn hj
      by_cases c : j ∈ dn
      · exact c
      · have nz : cntE G dn j ≠ 0 := fun z => c (by have := (h.zero j hj).mp z; rwa [List.append_nil] at this)
        obtain ⟨i, mi, ni, fi⟩ := wsum_pos nz
        have li := List.mem_range.mp mi
        have eg := List.getElem?_eq_getElem li
        unfold cntG at fi
        rw [List.getD_eq_getElem?_getD, eg] at fi
        have := hr i G[i] j eg (List.count_pos_iff.mp (Nat.pos_of_ne_zero fi))
        exact absurd (ih i (by omega) li) ni
  exact key _ j (Nat.le_refl _) hj
theorem Kahn.some {G : List (List Nat)} {dn : List Nat} (h : Kahn G dn []) (l : dn.length = G.length) (bd : ∀ g ∈ G, ∀ j ∈ g, j < G.length) : Acyc G := by
  have nd := h.nd
  have lt := h.lt
  rw [List.append_nil] at nd lt
  have all : ∀ j, j < G.length → j ∈ dn := fun j hj => by
    by_cases c : j ∈ dn
    · exact c
    · have := nodup_le (n := G.length) (D := j :: dn) (List.nodup_cons.mpr ⟨c, nd⟩) fun i m => by
        rcases List.mem_cons.mp m with rfl | m
        · exact hj
        · exact lt i m
      rw [List.length_cons] at this
      omega
  refine ⟨fun i => dn.idxOf i, fun i g j eg mj => ?_⟩
  have hj := all j (bd g (List.mem_of_getElem? eg) j mj)
  obtain ⟨p, q, e⟩ := List.append_of_mem hj
  have mi := h.topo p q j e i g eg mj
  have nj : j ∉ p := fun m => by
    rw [e] at nd
    exact (List.nodup_append.mp nd).2.2 j m j List.mem_cons_self rfl
  show dn.idxOf i < dn.idxOf j
  rw [e, List.idxOf_append, if_pos mi, List.idxOf_append, if_neg nj]
  have := List.idxOf_lt_length_of_mem mi
  omega
theorem r_ienV {K : PySem.W.Frag} {σ : L2.St} {H : Hp} {R : It → Hp → Prop} {i : Nat} {m : Addr} {xs : List V} (e : σ[i]? = some (some (.ref m))) (h : SqL K H m xs) (q : R (Ite K m) H) : iEnum K (tCons (tVar i) tNil) σ H R := ⟨_, e, m, _, rfl, h, q⟩
def MnIs (n : Nat) (mn : List Nat) (f : Nat → Nat) : Prop := mn.length = n ∧ ∀ j, j < n → mn[j]? = some (f j)
def sp_leads_round (_ : PySem.W.Frag) : Sp := fun vs H Q _ => ∃ (l : Addr) (us : List V) (G : List (List Nat)), vs = [.ref l] ∧ H l = some (.lst us) ∧ GL H us G ∧ G.length ≤ 10000 ∧ (∀ g ∈ G, g.length ≤ 10) ∧ (∀ g ∈ G, ∀ j ∈ g, j < G.length) ∧
  (Acyc G → ∀ H', Same H H' → Q (.bl false) H') ∧ (¬ Acyc G → ∀ H', Same H H' → Q (.bl true) H')
section
variable {P : Program} {w : World} {K : PySem.W.Frag} {mg : Str → Option Value} {base : Heap}
theorem ok_leads_round {c_Coded : Addr} {c_Machine : Addr} {c_CodeReader : Addr} {c_REGISTERS : Addr} {c_CELLS : Addr} {c_SHAPES : Addr} (T : Tx K mg c_Coded c_Machine c_CodeReader c_REGISTERS c_CELLS c_SHAPES w)  {f : Addr} {fd : FuncData} (F : Here K mg "leads_round" s_leads_round ["goals"] f fd) : Cal P w K mg base "leads_round" 1 ["goals"] (sp_leads_round K) s_leads_round f fd := by
  refine F.cal sc_leads_round (fun vs H Q E h => ?_) (fun cdv A outer s H vs Q E hr h => ?_)
  · obtain ⟨l, us, G, rfl, _⟩ := h
    rfl
  · obtain ⟨l, us, G, rfl, hl, gl, hn, hg, bd, qa, qn⟩ := h
    refine ⟨_, (pss_cons (ps_setLc (i := 1) rfl sc_leads_round.nd rfl rfl (sw_true rfl rfl rfl (by decide +kernel)) (pi_listK (K := K) (pv 0)) (blkOk_by (own := [("_", 2)]) (N := ["goals", "many", "_", "row", "to", "free", "number", "n", "left", "at"]) (sc := (defScope s_leads_round)) (by decide +kernel)) (fun _ _ _ _ _ => (pg_name (i := 2) sc_leads_round.nd rfl (by first | exact .inl rfl | exact .inr rfl))) (fun _ _ _ _ _ => pts_nil) (fun _ _ _ _ _ => pe_int))
      (pss_cons (ps_for PassesOwn.never rfl (pi_listK (K := K) (pv 0)) (pg_name (i := 3) sc_leads_round.nd rfl (by first | exact .inl rfl | exact .inr rfl)) (pss_one (ps_for PassesOwn.never rfl (pi_listK (K := K) (pv 3)) (pg_name (i := 4) sc_leads_round.nd rfl (by first | exact .inl rfl | exact .inr rfl)) (pss_one (ps_augS (pv 1) (pv 4) get_listN pe_int ip_add set_list)))))
      (pss_cons (ps_setLc (i := 5) rfl sc_leads_round.nd rfl rfl (sw_true rfl rfl rfl (by decide +kernel)) (castPI (K := K) (wi := fun K => iEnum K _) (pi_enum (by rfl) T.m_enumerate (pa_cons (pv 1) pa_nil))) (blkOk_by (own := [("number", 6), ("n", 7)]) (N := ["goals", "many", "_", "row", "to", "free", "number", "n", "left", "at"]) (sc := (defScope s_leads_round)) (by decide +kernel)) (fun _ _ _ _ _ => (castPG (K := K) (n := 2) (pg_tup rfl (pgs_cons (pg_name (i := 6) sc_leads_round.nd rfl (by first | exact .inl rfl | exact .inr rfl)) (pgs_cons (pg_name (i := 7) sc_leads_round.nd rfl (by first | exact .inl rfl | exact .inr rfl)) pgs_nil))))) (fun _ _ _ _ _ => (pts_one (pt_cmpR op_eq (pv 7) pe_int (nomark _)))) (fun _ _ _ _ _ => (pv 6)))
      (pss_cons (ps_set (i := 8) sc_leads_round.nd rfl (by first | exact .inl rfl | exact .inr rfl) (pe_callB (cr_lenK (K := K)) (by rfl) T.m_len (by decide +kernel) (pa_cons (pv 0) pa_nil)))
      (pss_cons (ps_while PassesOwn.never (pt_truthK (K := K) (pv 5) (by intro _; rfl)) (pss_cons (ps_aug (i := 8) sc_leads_round.nd rfl (by first | exact .inl rfl | exact .inr rfl) pe_int ip_sub)
      (pss_cons (ps_set (i := 9) sc_leads_round.nd rfl (by first | exact .inl rfl | exact .inr rfl) (castBM0 (K := K) (pe_bm0 PySem.F.plainAttrs_list PySem.F.slot_list_pop PySem.F.type_list_pop mt_pop (pv 5))))
      (pss_one (ps_for PassesOwn.never rfl (pi_listK (K := K) (pe_ix (ix_listK (K := K)) (pv 0) (pv 9) (fun _ _ => rfl))) (pg_name (i := 4) sc_leads_round.nd rfl (by first | exact .inl rfl | exact .inr rfl)) (pss_cons (ps_augS (pv 1) (pv 4) get_listN pe_int ip_sub set_list)
      (pss_one (ps_if (pt_cmpR op_eq (pe_ix (ix_listK (K := K)) (pv 1) (pv 4) (fun _ _ => rfl)) pe_int (nomark _)) (pss_one (ps_expr (castBM (K := K) (pe_bm PySem.F.plainAttrs_list PySem.F.slot_list_append PySem.F.type_list_append mt_append (pv 5) (pa_cons (pv 4) pa_nil))))) pss_nil))))))))
      (pss_one (ps_ret (pe_cmpR op_gt (pv 8) pe_int (nomark _))))))))), ?_⟩
    walk_at "st"
    intro m hm
    have ul : us.length = G.length := gl.1
    refine lc_map (walk_list (xs := us)) (by omega) hm (fun i y _ => y = .int 0) (fun _ _ _ _ h _ => h) (fun _ _ _ _ _ h _ => h) (fun H' k => SqL.of (k _ _ hl)) (fun i H1 x H2 y => by rw [y.1]; exact Same.refl _)
      (fun i x H1 H2 Y No hi s1 y hY => ?_) (fun ys H1 el s1 em0 hys => ?_)
    · obtain ⟨rfl, ex⟩ := y
      refine ⟨rfl, ?_⟩
      walk_at "st"
      exact hY _ _ (Same.refl _) rfl
    have em : H1 m = some (.lst ((List.replicate G.length 0).map fun (n : Nat) => V.int n)) := by
      rw [em0]
      congr 2
      apply List.ext_getElem?
      intro i
      cases e : ys[i]? with
      | none =>
        rw [List.getElem?_eq_none_iff] at e
        rw [List.getElem?_eq_none_iff.mpr (by rw [List.length_map, List.length_replicate]; omega)]
      | some y =>
        obtain rfl := hys i y e
        have li := (List.getElem?_eq_some_iff.mp e).1
        rw [List.getElem?_map, List.getElem?_replicate, if_pos (by omega)]; rfl
    clear em0 hys el
    walk_at "st"
    -- how many lead to each
    refine lp_by (walk_list (a := l) (xs := us)) (fun i σ' H' => ∃ (x3 x4 : Option V) (mn : List Nat), σ' = [some (.ref l), some (.ref m), none, x3, x4, none, none, none, none, none] ∧ Same H H' ∧ H' m = some (.lst (mn.map fun (n : Nat) => V.int n)) ∧ MnIs G.length mn fun j => wsum (cntG G j) [] (List.range i))
      ⟨_, _, _, rfl, s1, em, ⟨List.length_replicate, fun j hj => by rw [List.getElem?_replicate, if_pos hj]; rfl⟩⟩ (fun i σ' H' _ z => by obtain ⟨_, _, _, _, z1, _⟩ := z; exact SqL.of (z1 _ _ hl)) (fun i v σ' HX HX' hi z y => ?_) (fun σ' HX z => ?_)
    · obtain ⟨y3, y4, mn, rfl, sm, em, mi⟩ := z
      obtain ⟨rfl, ex⟩ := y
      obtain ⟨g, eg, c, rfl, hc⟩ := gl.2 i v ex
      have bg := bd g (List.mem_of_getElem? eg)
      have hcx := sm _ _ hc
      have ncm : c ≠ m := fun e => by rw [e, hm] at hc; cases hc
      walk_at "st"
      refine lp_by (walk_list (a := c) (xs := g.map fun (n : Nat) => V.int n)) (fun k σ' H' => ∃ (x4 : Option V) (mn : List Nat), σ' = [some (.ref l), some (.ref m), none, some (.ref c), x4, none, none, none, none, none] ∧ Same H H' ∧ H' m = some (.lst (mn.map fun (n : Nat) => V.int n)) ∧ MnIs G.length mn fun j => wsum (cntG G j) [] (List.range i) + (g.take k).count j)
        ⟨_, mn, rfl, sm, em, ⟨mi.1, fun j hj => by rw [mi.2 j hj]; simp⟩⟩ (fun k σ' H' _ z => by obtain ⟨_, _, _, z1, _⟩ := z; exact SqL.of (z1 _ _ hc)) (fun k v σ' HY HY' hk z y => ?_) (fun σ' HY z => ?_)
      · obtain ⟨z4, mn2, rfl, sy, emy, my⟩ := z
        obtain ⟨rfl, ex⟩ := y
        rw [List.length_map] at hk
        rw [List.getElem?_map, List.getElem?_eq_getElem hk] at ex
        obtain rfl : V.int ((g[k] : Nat) : Int) = v := Option.some.inj ex
        have lt := bg g[k] (List.getElem_mem hk)
        have hz := my.2 _ lt
        have tk : g.take (k + 1) = g.take k ++ [g[k]] := by rw [List.take_succ, List.getElem?_eq_getElem hk]; rfl
        rw [tk]
        generalize g[k] = t at *
        have ixn : ixN (mn2.map fun (n : Nat) => V.int n).length (t : Int) = some t := by
          unfold ixN
          rw [if_pos (by omega), if_pos (by rw [List.length_map, my.1]; omega)]; rfl
        walk_at "st"
        refine ⟨_, rfl, _, rfl, m, _, t, .int ((wsum (cntG G t) [] (List.range i) + (g.take k).count t : Nat) : Int), rfl, rfl, emy, by rw [List.getElem?_map, hz]; rfl, _, _, rfl, rfl, m, _, _, t, rfl, rfl, emy, ixn, ?_⟩
        refine ⟨_, mn2.set t (wsum (cntG G t) [] (List.range i) + (g.take k).count t + 1), rfl, fun b o e => hl_set (ne_of_none e hm) (sy _ _ e), by rw [upd_same, List.map_set]; rfl, ⟨by rw [List.length_set]; exact my.1, fun j hj => ?_⟩⟩
        show _ = some (wsum (cntG G j) [] (List.range i) + (g.take k ++ [t]).count j)
        rw [List.getElem?_set, List.count_append]
        by_cases e : t = j
        · subst e
          rw [if_pos rfl, if_pos (by rw [my.1]; exact hj)]
          simp; omega
        · rw [if_neg e, my.2 j hj, List.count_singleton, if_neg (by simpa using e)]; rfl
      · obtain ⟨z4, mn2, rfl, sy, emy, my⟩ := z
        refine ⟨_, _, mn2, rfl, sy, emy, ⟨my.1, fun j hj => ?_⟩⟩
        rw [my.2 j hj, List.length_map, List.take_length, List.range_succ]
        show some (wsum (cntG G j) [] (List.range i) + g.count j) = some (wsum (cntG G j) [] (List.range i ++ [i]))
        rw [wsum_snoc, if_neg (by simp)]
        unfold cntG
        rw [List.getD_eq_getElem?_getD, eg]; rfl
    obtain ⟨y3, y4, mn, rfl, sm, em, mi⟩ := z
    rw [ul] at mi
    have mi : MnIs G.length mn fun j => cntE G [] j := mi
    clear s1
    walk_at "st"
    refine r_ienV (m := m) ?e1 (SqL.of em) ?_
    case e1 => rfl
    intro D hD
    have lmn : mn.length = G.length := mi.1
    refine lc_by (walk_enum (K := K) (a := m) (xs := mn.map fun (n : Nat) => V.int n)) (fun i H' => Same HX H' ∧ H' D = some (.lst (((List.range i).filter fun j => decide (cntE G [] j = 0)).map fun (n : Nat) => V.int n)))
      ⟨Same.upd_new hD, upd_same⟩ (fun i H' _ z => SqL.of (z.1 _ _ em)) (fun i v H5 H6 hi z y => ?_) (fun H5 z => ?_)
    · obtain ⟨s5, e5⟩ := z
      obtain ⟨tt, x1, y1, rfl, nt, rfl, e1, e2⟩ := y
      rw [List.length_map, lmn] at hi
      have e2 : (mn.map fun (n : Nat) => V.int n)[i]? = some y1 := e2
      rw [List.getElem?_map, mi.2 i hi] at e2
      obtain rfl := Option.some.inj e1
      obtain rfl : V.int ((cntE G [] i : Nat) : Int) = y1 := Option.some.inj e2
      have s6 := s5.trans (Same.upd_new (x := .tup [.int (i : Nat), .int ((cntE G [] i : Nat) : Int)]) nt)
      have e6 := hl_new (u := .tup [.int (i : Nat), .int ((cntE G [] i : Nat) : Int)]) e5 nt
      refine ⟨tt, [.int (i : Nat), .int ((cntE G [] i : Nat) : Int)], rfl, .inl (.inl upd_same), rfl, _, _, rfl, _, _, rfl, rfl, ?_⟩
      refine ⟨rfl, ?_⟩
      walk_at "st"
      have ed : decide (V.int ((cntE G [] i : Nat) : Int) = V.int 0) = decide (cntE G [] i = 0) := decide_eq_decide.mpr ⟨fun h => by injection h with h; omega, fun h => by rw [h]; rfl⟩
      rw [ed, List.range_succ, List.filter_append]
      by_cases c : cntE G [] i = 0
      · rw [decide_eq_true c, if_pos rfl]
        walk_at "st"
        refine ⟨_, e6, ?_, fun b o e => hl_set (ne_of_none e hD) (s6 _ _ e), ?_⟩
        · rw [List.length_map]
          exact Nat.lt_of_le_of_lt (Nat.le_trans (List.length_filter_le _ _) (by rw [List.length_range]; omega)) (show 10000 < sizeLine by decide)
        · rw [upd_same]
          simp [List.filter, c]
      · rw [decide_eq_false c, if_neg (by decide)]
        refine ⟨s6, ?_⟩
        simpa [List.filter, c] using e6
    obtain ⟨s5, e5⟩ := z
    rw [List.length_map, lmn] at e5
    have nDm : D ≠ m := fun e => by rw [e, em] at hD; cases hD
    have hDH : H D = none := by
      cases hh : H D with
      | none => rfl
      | some o => rw [sm _ _ hh] at hD; cases hD
    replace em := s5 _ _ em
    replace s5 := sm.trans s5
    have kn : Kahn G [] ((List.range G.length).filter fun j => decide (cntE G [] j = 0)) := by
      refine ⟨?_, fun j mj => ?_, fun j hj => ?_, fun p q j e => by simp at e⟩
      · rw [List.nil_append]; exact List.Pairwise.filter _ List.nodup_range
      · rw [List.nil_append] at mj
        exact List.mem_range.mp (List.mem_filter.mp mj).1
      · rw [List.nil_append, List.mem_filter]
        exact ⟨fun z => ⟨List.mem_range.mpr hj, decide_eq_true z⟩, fun z => of_decide_eq_true z.2⟩
    generalize ((List.range G.length).filter fun j => decide (cntE G [] j = 0)) = fr0 at *
    walk_at "st"
    rw [ul]
    refine ⟨fun mm σ' H' => ∃ (dn fr mn : List Nat) (x4 x9 : Option V), mm = G.length - dn.length ∧ σ' = [some (.ref l), some (.ref m), none, y3, x4, some (.ref D), none, none, some (.int ((G.length : Int) - (dn.length : Int))), x9] ∧ Same H H' ∧ H' m = some (.lst (mn.map fun (n : Nat) => V.int n)) ∧ H' D = some (.lst (fr.map fun (n : Nat) => V.int n)) ∧ MnIs G.length mn (cntE G dn) ∧ Kahn G dn fr,
      ⟨_, [], fr0, mn, y4, none, rfl, by simp, s5, em, e5, mi, kn⟩, fun mm σ' H' w => ?_⟩
    clear s5 em e5 mi kn lmn
    obtain ⟨dn, fr, mn2, x4, x9, rfl, rfl, sm2, em2, e2, mi2, kn2⟩ := w
    have ldn : dn.length ≤ G.length := nodup_le (List.nodup_append.mp kn2.nd).1 fun j hj => kn2.lt j (List.mem_append_left _ hj)
    walk_at "st"
    refine ⟨!(fr.map fun (n : Nat) => V.int n).isEmpty, .inl ⟨_, SqL.of e2, rfl⟩, ?_⟩
    rcases List.eq_nil_or_concat fr with e | ⟨fr1, a, e⟩
    · subst e
      rw [if_neg (by simp)]
      walk_at "st"
      by_cases ac : Acyc G
      · have l2 := kn2.all ac
        rw [decide_eq_false (by omega)]
        exact qa ac _ sm2
      · have l2 : dn.length ≠ G.length := fun e => ac (kn2.some e bd)
        rw [decide_eq_true (by omega)]
        exact qn ac _ sm2
    rw [List.concat_eq_append] at e
    subst e
    rw [if_pos (by simp)]
    refine ⟨fun σ' H' => ∃ mm', mm' < G.length - dn.length ∧ ∃ (dn fr mn : List Nat) (x4 x9 : Option V), mm' = G.length - dn.length ∧ σ' = [some (.ref l), some (.ref m), none, y3, x4, some (.ref D), none, none, some (.int ((G.length : Int) - (dn.length : Int))), x9] ∧ Same H H' ∧ H' m = some (.lst (mn.map fun (n : Nat) => V.int n)) ∧ H' D = some (.lst (fr.map fun (n : Nat) => V.int n)) ∧ MnIs G.length mn (cntE G dn) ∧ Kahn G dn fr, fun _ _ h => h, ?_⟩
    have ma : a ∈ dn ++ (fr1 ++ [a]) := by simp
    have la := kn2.lt a ma
    have pre := kn2.free ma
    have nda : a ∉ dn := fun m => (List.nodup_append.mp kn2.nd).2.2 a m a (by simp) rfl
    have llt : dn.length < G.length := by
      have := nodup_le (n := G.length) (D := a :: dn) (List.nodup_cons.mpr ⟨nda, (List.nodup_append.mp kn2.nd).1⟩) fun j hj => by
        rcases List.mem_cons.mp hj with rfl | hj
        · exact la
        · exact kn2.lt j (List.mem_append_left _ hj)
      rw [List.length_cons] at this
      omega
    obtain ⟨g, eg, c, ec, hc⟩ := gl.2 a us[a] (List.getElem?_eq_getElem (by omega))
    have bg := bd g (List.mem_of_getElem? eg)
    have ncm : c ≠ m := fun e => by rw [e, hm] at hc; cases hc
    have ncD : c ≠ D := fun e => by rw [e, hDH] at hc; cases hc
    have topo2 : Topo G (dn ++ [a]) := kn2.topo.snoc pre
    walk_at "st"
    refine ⟨_, rfl, _, _, rfl, rfl, ?_⟩
    walk_at "st"
    refine ⟨.ref D, rfl, .inl ⟨rfl, _, .inl (.inl e2)⟩, D, _, .int (a : Nat), rfl, rfl, e2, by simp, ?_⟩
    have ed : ((fr1 ++ [a]).map fun (n : Nat) => V.int n).dropLast = fr1.map fun (n : Nat) => V.int n := by
      rw [List.map_append]; exact List.dropLast_concat
    rw [ed]
    have sm3 : Same H (upd H' D (.lst (fr1.map fun (n : Nat) => V.int n))) := fun b o e => hl_set (ne_of_none e hDH) (sm2 _ _ e)
    have em3 := hl_set (u := .lst (fr1.map fun (n : Nat) => V.int n)) nDm.symm em2
    have e3 : upd H' D (.lst (fr1.map fun (n : Nat) => V.int n)) D = some (.lst (fr1.map fun (n : Nat) => V.int n)) := upd_same
    generalize upd H' D (.lst (fr1.map fun (n : Nat) => V.int n)) = H3 at *
    clear em2 e2 sm2
    have hl3 := sm3 _ _ hl
    have hc3 := sm3 _ _ hc
    have ixa : atI us ((a : Nat) : Int) = some (.ref c) := atI_nat (by rw [List.getElem?_eq_getElem (by omega), ec])
    walk_at "st"
    have step : ∀ j, cntE G dn j = cntE G (dn ++ [a]) j + g.count j := fun j => by
      unfold cntE
      rw [wsum_step nda List.nodup_range (List.mem_range.mpr la)]
      unfold cntG
      rw [List.getD_eq_getElem?_getD, eg]; rfl
    have mem0 : ∀ j, j ∈ dn ++ (fr1 ++ [a]) ↔ j ∈ (dn ++ [a]) ++ fr1 := fun j => by
      simp only [List.mem_append, List.mem_singleton]
      constructor
      · rintro (h | h | h)
        · exact .inl (.inl h)
        · exact .inr h
        · exact .inl (.inr h)
      · rintro ((h | h) | h)
        · exact .inl h
        · exact .inr (.inr h)
        · exact .inr (.inl h)
    have nd0 : ((dn ++ [a]) ++ fr1).Nodup := by
      refine (List.Perm.nodup_iff ?_).mp kn2.nd
      rw [List.append_assoc]
      exact (List.perm_append_comm (l₁ := fr1) (l₂ := [a])).append_left dn
    refine lp_by (walk_list (a := c) (xs := g.map fun (n : Nat) => V.int n)) (fun k σ' H' => ∃ (x4 : Option V) (fr mn : List Nat), σ' = [some (.ref l), some (.ref m), none, y3, x4, some (.ref D), none, none, some (.int ((G.length : Int) - (dn.length : Int) - 1)), some (.int (a : Nat))] ∧ Same H H' ∧ H' m = some (.lst (mn.map fun (n : Nat) => V.int n)) ∧ H' D = some (.lst (fr.map fun (n : Nat) => V.int n)) ∧
        MnIs G.length mn (fun j => cntE G (dn ++ [a]) j + (g.drop k).count j) ∧ ((dn ++ [a]) ++ fr).Nodup ∧ (∀ j ∈ (dn ++ [a]) ++ fr, j < G.length) ∧ ∀ j, j < G.length → (cntE G (dn ++ [a]) j + (g.drop k).count j = 0 ↔ j ∈ (dn ++ [a]) ++ fr))
      ⟨_, fr1, mn2, rfl, sm3, em3, e3, ⟨mi2.1, fun j hj => by rw [mi2.2 j hj, step j]; rfl⟩, nd0, fun j hj => kn2.lt j ((mem0 j).mpr hj), fun j hj => by rw [List.drop_zero, ← step j, ← mem0 j]; exact kn2.zero j hj⟩
      (fun k σ' H' _ z => by obtain ⟨_, _, _, _, z1, _⟩ := z; exact SqL.of (z1 _ _ hc)) (fun k v σ' HY HY' hk z y => ?_) (fun σ' HY z => ?_)
    · obtain ⟨z4, fr, mn, rfl, sy, emy, efy, my, nd, lt, zr⟩ := z
      obtain ⟨rfl, ex⟩ := y
      rw [List.length_map] at hk
      rw [List.getElem?_map, List.getElem?_eq_getElem hk] at ex
      obtain rfl : V.int ((g[k] : Nat) : Int) = v := Option.some.inj ex
      have ltt := bg g[k] (List.getElem_mem hk)
      have ed : g.drop k = g[k] :: g.drop (k + 1) := List.drop_eq_getElem_cons hk
      rw [ed] at my zr
      generalize g[k] = t at *
      generalize g.drop (k + 1) = r at *
      have ct : (t :: r).count t = r.count t + 1 := List.count_cons_self
      have cn : ∀ j, t ≠ j → (t :: r).count j = r.count j := fun j hj => List.count_cons_of_ne hj
      have hz : mn[t]? = some (cntE G (dn ++ [a]) t + r.count t + 1) := by
        rw [my.2 t ltt]
        show some (cntE G (dn ++ [a]) t + (t :: r).count t) = _
        rw [ct]; rfl
      have nt : t ∉ (dn ++ [a]) ++ fr := fun mm => by
        have := (zr t ltt).mpr mm
        rw [ct] at this; omega
      have ixn : ixN (mn.map fun (n : Nat) => V.int n).length (t : Int) = some t := by
        unfold ixN
        rw [if_pos (by omega), if_pos (by rw [List.length_map, my.1]; omega)]; rfl
      generalize hc0 : cntE G (dn ++ [a]) t + r.count t = c0 at *
      walk_at "st"
      refine ⟨_, rfl, _, rfl, m, _, t, .int ((c0 + 1 : Nat) : Int), rfl, rfl, emy, by rw [List.getElem?_map, hz]; rfl, _, _, rfl, rfl, m, _, _, t, rfl, rfl, emy, ixn, ?_⟩
      have ev : ((c0 + 1 : Nat) : Int) - 1 = (c0 : Nat) := by omega
      rw [show (fun i j : Int => i - j) ((c0 + 1 : Nat) : Int) 1 = (c0 : Nat) from ev]
      have emz : upd HY' m (.lst ((mn.map fun (n : Nat) => V.int n).set t (.int (c0 : Nat)))) m = some (.lst ((mn.set t c0).map fun (n : Nat) => V.int n)) := by rw [upd_same, List.map_set]
      have efz := hl_set (u := .lst ((mn.map fun (n : Nat) => V.int n).set t (.int (c0 : Nat)))) nDm efy
      have syz : Same H (upd HY' m (.lst ((mn.map fun (n : Nat) => V.int n).set t (.int (c0 : Nat))))) := fun b o e => hl_set (ne_of_none e hm) (sy _ _ e)
      generalize upd HY' m (.lst ((mn.map fun (n : Nat) => V.int n).set t (.int (c0 : Nat)))) = HZ at *
      have mz : MnIs G.length (mn.set t c0) (fun j => cntE G (dn ++ [a]) j + r.count j) := ⟨by rw [List.length_set]; exact my.1, fun j hj => by
        rw [List.getElem?_set]
        by_cases e : t = j
        · subst e
          rw [if_pos rfl, if_pos (by rw [my.1]; exact hj)]
          show some c0 = some (cntE G (dn ++ [a]) t + r.count t)
          rw [hc0]
        · rw [if_neg e, my.2 j hj]
          show some (cntE G (dn ++ [a]) j + (t :: r).count j) = some (cntE G (dn ++ [a]) j + r.count j)
          rw [cn j e]⟩
      have ixt : atI ((mn.set t c0).map fun (n : Nat) => V.int n) ((t : Nat) : Int) = some (.int (c0 : Nat)) := atI_nat (by
        rw [List.getElem?_map, List.getElem?_set, if_pos rfl, if_pos (by rw [my.1]; exact ltt)]; rfl)
      have lfr : fr.length ≤ 10000 := by
        have := nodup_le (List.nodup_append.mp nd).2.1 fun j hj => lt j (List.mem_append_right _ hj)
        omega
      walk_at "st"
      walk_at "if"
      have edc : decide (V.int ((c0 : Nat) : Int) = V.int 0) = decide (c0 = 0) := decide_eq_decide.mpr ⟨fun h => by injection h with h; omega, fun h => by rw [h]; rfl⟩
      rw [edc]
      by_cases c1 : c0 = 0
      · rw [decide_eq_true c1, if_pos rfl]
        walk_at "st"
        refine ⟨_, fr ++ [t], mn.set t c0, rfl, fun b o e => hl_set (ne_of_none e hDH) (syz _ _ e), hl_set nDm.symm emz, by rw [upd_same, List.map_append]; rfl, mz, ?_, fun j hj => ?_, fun j hj => ?_⟩
        · rw [← List.append_assoc]
          refine List.nodup_append.mpr ⟨nd, by simp, fun x hx y hy e => ?_⟩
          rw [List.mem_singleton.mp hy] at e
          rw [e] at hx
          exact nt hx
        · rw [← List.append_assoc] at hj
          rcases List.mem_append.mp hj with hj | hj
          · exact lt j hj
          · rw [List.mem_singleton.mp hj]; exact ltt
        · rw [← List.append_assoc]
          by_cases e : t = j
          · subst e
            rw [hc0]
            exact ⟨fun _ => by simp, fun _ => c1⟩
          · have z2 := zr j hj
            rw [cn j e] at z2
            rw [z2]
            exact ⟨fun mm => List.mem_append_left _ mm, fun mm => (List.mem_append.mp mm).resolve_right fun q => e (List.mem_singleton.mp q).symm⟩
      · rw [decide_eq_false c1, if_neg (by decide)]
        walk_at "st"
        refine ⟨_, fr, mn.set t c0, rfl, syz, emz, efz, mz, nd, lt, fun j hj => ?_⟩
        by_cases e : t = j
        · subst e
          rw [hc0]
          exact ⟨fun z => absurd z c1, fun z => absurd z nt⟩
        · rw [← zr j hj, cn j e]
    · obtain ⟨z4, fr, mn, rfl, sy, emy, efy, my, nd, lt, zr⟩ := z
      rw [List.length_map, List.drop_length] at my zr
      refine ⟨_, ?_, dn ++ [a], fr, mn, z4, some (.int (a : Nat)), rfl, ?_, sy, emy, efy, ⟨my.1, fun j hj => by rw [my.2 j hj]; rfl⟩, ⟨nd, lt, fun j hj => by have := zr j hj; simpa using this, topo2⟩⟩
      · rw [List.length_append]; show G.length - (dn.length + 1) < _; omega
      · rw [List.length_append]
        show _ = [some (V.ref l), some (.ref m), none, y3, z4, some (.ref D), none, none, some (.int ((G.length : Int) - ((dn.length + 1 : Nat) : Int))), some (.int (a : Nat))]
        rw [show (G.length : Int) - ((dn.length + 1 : Nat) : Int) = (G.length : Int) - (dn.length : Int) - 1 by omega]
end
local macro_rules | `(tactic| walk_at "ssz") => `(tactic| first | decide | exact str_small (by assumption) | (have : (1000000 : Nat) ≤ sizeLine := (by decide); omega))
local macro_rules | `(tactic| walk_at "st1") => `(tactic| first
  | with_reducible refine' r_nt ?_ | with_reducible refine' r_nf ?_
  | ((with_reducible refine r_lenS ?e1 ?_); (case e1 => walk_at "ssz"))
  | with_reducible refine r_inS ?_
  | with_reducible refine r_ninS ?_
  | ((with_reducible refine r_addS ?e1 ?_); (case e1 => walk_at "ssz"))
  | ((with_reducible refine' r_ixS ?e1 ?e2 ?_); (case e1 => walk_at "ssz"); (case e2 => first | assumption | rfl))
  | with_reducible refine r_istr ?_
  | with_reducible refine r_is ?_
  | with_reducible refine r_un ?_
  | with_reducible refine r_u ?_)
local macro_rules | `(tactic| walk_at "st1") => `(tactic| first
  | with_reducible refine r_tru ?_
  | ((with_reducible refine' r_truT ?e1 ?_); (case e1 => walk_at "sq"))
  | with_reducible refine r_isN ?_
  | with_reducible refine r_tyS ?_
  | with_reducible refine r_m1 ?_
  | with_reducible refine r_sx ?_
  | ((with_reducible refine r_strC ?e1 ?_); (case e1 => omega)))
local macro_rules | `(tactic| walk_at "st1") => `(tactic| first
  | with_reducible refine r_par ?_
  | with_reducible refine r_parx ?_
  | ((with_reducible refine' r_gtup ?e1 ?e2 ?_); (case e1 => walk_at "sq"); (case e2 => rfl))
  | with_reducible refine r_gcons ?_
  | with_reducible refine r_gnil ?_
  | with_reducible refine r_ient ?_
  | ((with_reducible refine' r_ent ?e1 ?_); (case e1 => walk_at "sq")))
local macro_rules | `(tactic| walk_at "st1") => `(tactic| first
  | with_reducible refine' r_nt ?_
  | with_reducible refine' r_nf ?_
  | with_reducible refine r_un ?_
  | with_reducible refine r_u ?_)
local macro_rules | `(tactic| walk_at "st1") => `(tactic| first
  | ((with_reducible refine' r_izl ?e1 ?e2 ?_); (case e1 => walk_at "sq"); (case e2 => walk_at "sq"))
  | with_reducible refine r_dcT ?_)
/-! ### numbers, names, tuples: what is right is told so -/
def rLtS : R2 := fun x y H Q => ∃ i j, x = .str i ∧ y = .str j ∧ Q (.bl (decide (i.cps.toList < j.cps.toList))) H
theorem op_ltS {X : Cx} : OpR X (compareOp .Lt) rLtS := op_lt_str
theorem r_ltS {i j : Str} {H : Hp} {Q : VK} (q : Q (.bl (decide (i.cps.toList < j.cps.toList))) H) : rLtS (.str i) (.str j) H Q := ⟨i, j, rfl, rfl, q⟩
local macro_rules | `(tactic| walk_at "st1") => `(tactic| with_reducible refine r_ltS ?_)
def ltS (x y : Str) : Prop := cs x < cs y
theorem getElem?_map_str {zs : List Str} {i : Nat} {v : V} (e : (zs.map V.str)[i]? = some v) : ∃ z, zs[i]? = some z ∧ v = .str z := by
  rw [List.getElem?_map] at e
  cases h : zs[i]? with
  | none => rw [h] at e; cases e
  | some z => rw [h] at e; exact ⟨z, rfl, (Option.some.inj e).symm⟩
theorem cs_append (x y : Str) : cs (x ++ y) = cs x ++ cs y := by
  show (x.cps ++ y.cps).toList = _
  rw [Array.toList_append]; rfl
theorem cs_len (x : Str) : (cs x).length = x.length := by
  show x.cps.toList.length = x.cps.size
  rw [Array.length_toList]
def lettersL : List Nat := cs "abcdefghijklmnopqrstuvwxyz"
def NameS (z : Str) : Prop := 1 ≤ z.length ∧ z.length ≤ 8 ∧ ∀ c ∈ cs z, c ∈ lettersL
def smallDiv (n : Nat) : Bool := (List.range 30).all fun j => !decide ((j + 2) * (j + 2) ≤ n) || (n % (j + 2) != 0)
def PrimeI (p : Int) : Prop := 2 ≤ p ∧ p ≤ 997 ∧ smallDiv p.toNat = true
def sp_is_whole (_ : PySem.W.Frag) : Sp := fun vs H Q _ => ∃ n : Int, vs = [.int n] ∧ Q (.bl true) H
def sp_is_number (_ : PySem.W.Frag) : Sp := fun vs H Q _ => ∃ n p : Int, vs = [.int n, .int p] ∧ (0 ≤ n ∧ n < p) ∧ Q (.bl true) H
def sp_is_prime (_ : PySem.W.Frag) : Sp := fun vs H Q _ => ∃ p : Int, vs = [.int p] ∧ PrimeI p ∧ ∀ H', Same H H' → Q (.bl true) H'
def sp_is_name (_ : PySem.W.Frag) : Sp := fun vs H Q _ => ∃ z : Str, vs = [.str z] ∧ NameS z ∧ ∀ H', Same H H' → Q (.bl true) H'
def sp_are_unlike (K : PySem.W.Frag) : Sp := fun vs H Q _ => (∃ (l : Addr) (xs : List Str), vs = [.ref l] ∧ (SqL K H l (xs.map V.str) ∨ SqT K H l (xs.map V.str)) ∧ xs.length ≤ 4000 ∧ Q (.bl (decide xs.Nodup)) H) ∨
  ∃ (l : Addr) (ks : List (Addr × List Key)), vs = [.ref l] ∧ SqL K H l (ks.map fun p => V.ref p.1) ∧ (∀ p ∈ ks, H p.1 = some (.tup (p.2.map kV))) ∧ (ks.map (·.2)).Nodup ∧ ks.length ≤ 4 ∧ Q (.bl true) H
def sp_is_tuple (_ : PySem.W.Frag) : Sp := fun vs H Q _ => ∃ (a : Addr) (xs : List V) (lo hi : Int), vs = [.ref a, .int lo, .int hi] ∧ H a = some (.tup xs) ∧ lo ≤ xs.length ∧ xs.length ≤ hi ∧ Q (.bl true) H
def sp_do_rise (_ : PySem.W.Frag) : Sp := fun vs H Q _ => ∃ (l : Addr) (zs : List Str), vs = [.ref l] ∧ H l = some (.lst (zs.map V.str)) ∧ zs.length ≤ 1000 ∧ zs.Pairwise ltS ∧ ∀ H', Same H H' → Q (.bl true) H'
theorem natmod {n : Int} (h : 0 ≤ n) (k : Nat) : n % ((2 : Int) + k) = ((n.toNat % (k + 2) : Nat) : Int) := by
  obtain ⟨m, rfl⟩ := Int.eq_ofNat_of_zero_le h
  rw [show (2 : Int) + k = ((k + 2 : Nat) : Int) by omega]
  rfl
section
variable {P : Program} {w : World} {K : PySem.W.Frag} {mg : Str → Option Value} {base : Heap}
theorem ok_is_whole {c_Coded : Addr} {c_Machine : Addr} {c_CodeReader : Addr} {c_REGISTERS : Addr} {c_CELLS : Addr} {c_SHAPES : Addr} (T : Tx K mg c_Coded c_Machine c_CodeReader c_REGISTERS c_CELLS c_SHAPES w)  {f : Addr} {fd : FuncData} (F : Here K mg "is_whole" s_is_whole ["thing"] f fd) : Cal P w K mg base "is_whole" 1 ["thing"] (sp_is_whole K) s_is_whole f fd := by
  refine F.cal sc_is_whole (fun vs H Q E h => ?_) (fun cdv A outer s H vs Q E hr h => ?_)
  · obtain ⟨n, rfl, _⟩ := h
    rfl
  · obtain ⟨n, rfl, q⟩ := h
    refine ⟨_, (pss_one (ps_ret (pe_and (pe_callB (cr_isiK (K := K)) (by rfl) T.m_isinstance (by decide +kernel) (pa_cons (pv 0) (pa_cons (pe_bltn (v := .ty "int") (by rfl) T.m_int (by decide +kernel) rfl) pa_nil))) (pe_one (pe_not (pe_callB (cr_isiK (K := K)) (by rfl) T.m_isinstance (by decide +kernel) (pa_cons (pv 0) (pa_cons (pe_bltn (v := .ty "bool") (by rfl) T.m_bool (by decide +kernel) rfl) pa_nil)))))))), ?_⟩
    walk_at "st"
    exact q
theorem ok_is_number {c_Coded : Addr} {c_Machine : Addr} {c_CodeReader : Addr} {c_REGISTERS : Addr} {c_CELLS : Addr} {c_SHAPES : Addr} (T : Tx K mg c_Coded c_Machine c_CodeReader c_REGISTERS c_CELLS c_SHAPES w) {f_is_whole : Addr} {fd_is_whole : FuncData} (C_is_whole : Cal P w K mg base "is_whole" 1 ["thing"] (sp_is_whole K) s_is_whole f_is_whole fd_is_whole) {f : Addr} {fd : FuncData} (F : Here K mg "is_number" s_is_number ["thing", "p"] f fd) : Cal P w K mg base "is_number" 2 ["thing", "p"] (sp_is_number K) s_is_number f fd := by
  refine F.cal sc_is_number (fun vs H Q E h => ?_) (fun cdv A outer s H vs Q E hr h => ?_)
  · obtain ⟨n, p, rfl, _⟩ := h
    rfl
  · obtain ⟨n, p, rfl, hn, q⟩ := h
    refine ⟨_, (pss_one (ps_ret (pe_and (pe_call C_is_whole.ok (hr.mono (by decide)) (by rfl) C_is_whole.at_ C_is_whole.kp C_is_whole.b .nil pass0 (pa_cons (pv 0) pa_nil)) (pe_one (pe_chain op_le op_lt pe_int (pv 0) (pv 1)))))), ?_⟩
    walk_at "st"
    refine ⟨n, rfl, ?_⟩
    walk_at "st"
    refine r_ite (fun h1 => ?_) (fun h1 => absurd hn.1 h1)
    walk_at "st"
    rw [decide_eq_true hn.2]
    exact q
theorem ok_is_prime {c_Coded : Addr} {c_Machine : Addr} {c_CodeReader : Addr} {c_REGISTERS : Addr} {c_CELLS : Addr} {c_SHAPES : Addr} (T : Tx K mg c_Coded c_Machine c_CodeReader c_REGISTERS c_CELLS c_SHAPES w) {f_is_whole : Addr} {fd_is_whole : FuncData} (C_is_whole : Cal P w K mg base "is_whole" 1 ["thing"] (sp_is_whole K) s_is_whole f_is_whole fd_is_whole) {f : Addr} {fd : FuncData} (F : Here K mg "is_prime" s_is_prime ["thing"] f fd) : Cal P w K mg base "is_prime" 2 ["thing"] (sp_is_prime K) s_is_prime f fd := by
  refine F.cal sc_is_prime (fun vs H Q E h => ?_) (fun cdv A outer s H vs Q E hr h => ?_)
  · obtain ⟨n, rfl, _⟩ := h
    rfl
  · obtain ⟨n, rfl, hp, q⟩ := h
    refine ⟨_, (pss_cons (ps_if (PW.pt (pw_or (pt_not (pt_val (pe_call C_is_whole.ok (hr.mono (by decide)) (by rfl) C_is_whole.at_ C_is_whole.kp C_is_whole.b .nil pass0 (pa_cons (pv 0) pa_nil)))) (pw_or (pt_cmpR op_lt (pv 0) pe_int (nomark _)) (pw_or1 (pt_cmpR op_gt (pv 0) (pe_glob (v := .int 997) (by rfl) (T.c_HIGHEST_PRIME).choose_spec ⟨_, rfl⟩) (nomark _)))))) (pss_one (ps_ret pe_bl)) pss_nil)
      (pss_one (ps_ret (pe_callB (cr_allK (K := K) rfl) (by rfl) T.m_all (by decide +kernel) (pa_cons (pe_lc rfl sc_is_prime.nd (pi_range2 (by rfl) T.m_range (pa_cons pe_int (pa_cons pe_int pa_nil))) (blkOk_by (own := [("k", 1)]) (N := ["thing", "k"]) (sc := (defScope s_is_prime)) (by decide +kernel)) (fun _ _ _ _ _ => (pg_name (i := 1) sc_is_prime.nd rfl (by first | exact .inl rfl | exact .inr rfl))) (fun _ _ _ _ _ => (pts_one (pt_cmpR op_le (pe_op op_mul (pv 1) (pv 1)) (pv 0) (nomark _)))) (fun _ _ _ _ _ => (pe_cmpR op_ne (pe_op op_mod (pv 0) (pv 1)) pe_int (nomark _)))) pa_nil))))), ?_⟩
    walk_at "st"
    walk_at "if"
    refine ⟨n, rfl, ?_⟩
    walk_at "st"
    have p1 := hp.1
    have p2 := hp.2.1
    refine r_ite (fun h1 => by omega) (fun h1 => ?_)
    walk_at "st"
    refine r_ite (fun h2 => by omega) (fun h2 => ?_)
    walk_at "st"
    intro D hD
    have szl : (1000000 : Nat) ≤ sizeLine := by decide
    refine lc_by (walk_range (lo := 2) (n := (32 - 2 : Int).toNat)) (fun i H' => Same H H' ∧ ∃ bs : List Bool, H' D = some (.lst (bs.map V.bl)) ∧ bs.length ≤ i ∧ bs.all id = (List.range i).all (fun j => !decide ((j + 2) * (j + 2) ≤ n.toNat) || (n.toNat % (j + 2) != 0))) ⟨Same.upd_new hD, [], upd_same, Nat.le_refl _, rfl⟩ (fun _ _ _ _ => trivial) (fun i x H1 H2 hi p y => ?_) (fun H' p => ?_)
    · obtain ⟨sm, bs, eD, el, ea⟩ := p
      obtain ⟨rfl, rfl⟩ := y
      have hi2 : i < 30 := hi
      have hk : ((2 : Int) + i) * (2 + i) ≤ n ↔ (i + 2) * (i + 2) ≤ n.toNat := by
        rw [show ((2 : Int) + i) * (2 + i) = (((i + 2) * (i + 2) : Nat) : Int) by rw [show (2 : Int) + i = ((i + 2 : Nat) : Int) by omega]; rfl]
        omega
      refine ⟨rfl, ?_⟩
      walk_at "st"
      refine r_ite (fun h3 => ?_) (fun h3 => ?_)
      · walk_at "st"
        refine ⟨bs.map V.bl, eD, by rw [List.length_map]; omega, fun b o e => hl_set (ne_of_none e hD) (sm _ _ e), bs ++ [!decide (V.int (n % (2 + (i : Int))) = V.int 0)], by rw [upd_same, List.map_append]; rfl, by simp; omega, ?_⟩
        rw [List.all_append, ea, List.range_succ, List.all_append]
        have e4 := natmod (n := n) (by omega) i
        rw [e4]
        have e5 : decide ((i + 2) * (i + 2) ≤ n.toNat) = true := decide_eq_true (hk.mp h3)
        simp only [List.all_cons, List.all_nil, e5, Bool.and_true, id]
        congr 1
        simp only [V.int.injEq, Bool.not_true, Bool.false_or]
        by_cases h7 : n.toNat % (i + 2) = 0
        · rw [h7]; rfl
        · have h8 : ¬ (((n.toNat % (i + 2) : Nat) : Int) = 0) := by omega
          rw [decide_eq_false h8]
          simp [h7]
      · refine ⟨sm, bs, eD, by omega, ?_⟩
        rw [ea, List.range_succ, List.all_append]
        have e5 : decide ((i + 2) * (i + 2) ≤ n.toNat) = false := decide_eq_false (fun z => h3 (hk.mpr z))
        simp only [List.all_cons, List.all_nil, e5, Bool.and_true]
        simp
    · obtain ⟨sm, bs, eD, el, ea⟩ := p
      walk_at "st"
      rw [ea]
      have := q H' sm
      rw [show (List.range (32 - 2 : Int).toNat).all (fun j => !decide ((j + 2) * (j + 2) ≤ n.toNat) || (n.toNat % (j + 2) != 0)) = true from hp.2.2]
      exact this
theorem ok_is_name {c_Coded : Addr} {c_Machine : Addr} {c_CodeReader : Addr} {c_REGISTERS : Addr} {c_CELLS : Addr} {c_SHAPES : Addr} (T : Tx K mg c_Coded c_Machine c_CodeReader c_REGISTERS c_CELLS c_SHAPES w) {f_has_only : Addr} {fd_has_only : FuncData} (C_has_only : Cal P w K mg base "has_only" 1 ["text", "signs"] (sp_has_only K) s_has_only f_has_only fd_has_only) {f : Addr} {fd : FuncData} (F : Here K mg "is_name" s_is_name ["thing"] f fd) : Cal P w K mg base "is_name" 2 ["thing"] (sp_is_name K) s_is_name f fd := by
  refine F.cal sc_is_name (fun vs H Q E h => ?_) (fun cdv A outer s H vs Q E hr h => ?_)
  · obtain ⟨z, rfl, _⟩ := h
    rfl
  · obtain ⟨x, rfl, ⟨n1, n2, n3⟩, q⟩ := h
    refine ⟨_, (pss_one (ps_ret (pe_and (pe_callB (cr_isiK (K := K)) (by rfl) T.m_isinstance (by decide +kernel) (pa_cons (pv 0) (pa_cons (pe_bltn (v := .ty "str") (by rfl) T.m_str (by decide +kernel) rfl) pa_nil))) (pe_and (pe_chain op_le op_le pe_int (pe_callB cr_lenS (by rfl) T.m_len (by decide +kernel) (pa_cons (pv 0) pa_nil)) (pe_glob (v := .int 8) (by rfl) (T.c_LONGEST_NAME).choose_spec ⟨_, rfl⟩)) (pe_one (pe_call C_has_only.ok (hr.mono (by decide)) (by rfl) C_has_only.at_ C_has_only.kp C_has_only.b .nil pass0 (pa_cons (pv 0) (pa_cons (pe_glob (v := .str "abcdefghijklmnopqrstuvwxyz") (by rfl) (T.c_LETTERS).choose_spec ⟨_, rfl⟩) pa_nil)))))))), ?_⟩
    have hx : x.length ≤ 1000 := Nat.le_trans n2 (by decide)
    walk_at "st"
    refine r_ite (fun h1 => ?_) (fun h1 => absurd n1 (by omega))
    walk_at "st"
    refine r_iteB (fun h2 => ?_) (fun h2 => by simp at h2; omega)
    walk_at "st"
    refine ⟨x, _, rfl, hx, fun H' sm => ?_⟩
    rw [show onlyIn x "abcdefghijklmnopqrstuvwxyz" = true from List.all_eq_true.mpr fun c m => decide_eq_true (n3 c m)]
    exact q H' sm
theorem ok_are_unlike {c_Coded : Addr} {c_Machine : Addr} {c_CodeReader : Addr} {c_REGISTERS : Addr} {c_CELLS : Addr} {c_SHAPES : Addr} (T : Tx K mg c_Coded c_Machine c_CodeReader c_REGISTERS c_CELLS c_SHAPES w)  {f : Addr} {fd : FuncData} (F : Here K mg "are_unlike" s_are_unlike ["things"] f fd) : Cal P w K mg base "are_unlike" 1 ["things"] (sp_are_unlike K) s_are_unlike f fd := by
  refine F.cal sc_are_unlike (fun vs H Q E h => ?_) (fun cdv A outer s H vs Q E hr h => ?_)
  · rcases h with ⟨l, xs, rfl, _⟩ | ⟨l, ks, rfl, _⟩ <;> rfl
  · refine ⟨_, (pss_one (ps_ret (pe_cmpR op_eq (pe_lenSetU (K := K) rfl (hu_of64 hr) rfl (by rfl) T.m_len (by rfl) T.m_set (pv 0)) (pe_callB (cr_lenK (K := K)) (by rfl) T.m_len (by decide +kernel) (pa_cons (pv 0) pa_nil)) (nomark _)))), ?_⟩
    rcases h with ⟨l, xs, rfl, hl, lx, q⟩ | ⟨l, ks, rfl, hl, hks, nd, few, q⟩
    rotate_left
    · walk_at "st"
      refine ⟨_, rfl, .inr ⟨l, ks, rfl, hl, hks, nd, few, ?_⟩⟩
      walk_at "st"
      rw [decide_eq_true (show V.int (ks.length : Nat) = V.int ((ks.map fun p => V.ref p.1).length : Nat) by rw [List.length_map])]
      exact q
    walk_at "st"
    refine ⟨_, rfl, .inl ⟨l, xs, rfl, hl, lx, fun c hc => ?_⟩⟩
    have e : decide (V.int (c : Nat) = V.int ((xs.map V.str).length : Nat)) = decide xs.Nodup := decide_eq_decide.mpr ⟨fun h => hc.mp (by injection h with h; rw [List.length_map] at h; omega), fun h => by rw [List.length_map, hc.mpr h]⟩
    rcases hl with hl | hl
    · walk_at "st"
      rw [e]
      exact q
    · walk_at "st"
      rw [e]
      exact q
theorem ok_is_tuple {c_Coded : Addr} {c_Machine : Addr} {c_CodeReader : Addr} {c_REGISTERS : Addr} {c_CELLS : Addr} {c_SHAPES : Addr} (T : Tx K mg c_Coded c_Machine c_CodeReader c_REGISTERS c_CELLS c_SHAPES w)  {f : Addr} {fd : FuncData} (F : Here K mg "is_tuple" s_is_tuple ["thing", "least", "most"] f fd) : Cal P w K mg base "is_tuple" 1 ["thing", "least", "most"] (sp_is_tuple K) s_is_tuple f fd := by
  refine F.cal sc_is_tuple (fun vs H Q E h => ?_) (fun cdv A outer s H vs Q E hr h => ?_)
  · obtain ⟨a, xs, lo, hi, rfl, _⟩ := h
    rfl
  · obtain ⟨a, xs, lo, hi, rfl, ha, h1, h2, q⟩ := h
    refine ⟨_, (pss_one (ps_ret (pe_and (pe_callB (cr_isiK (K := K)) (by rfl) T.m_isinstance (by decide +kernel) (pa_cons (pv 0) (pa_cons (pe_bltn (v := .ty "tuple") (by rfl) T.m_tuple (by decide +kernel) rfl) pa_nil))) (pe_one (pe_chain op_le op_le (pv 1) (pe_callB (cr_lenK (K := K)) (by rfl) T.m_len (by decide +kernel) (pa_cons (pv 0) pa_nil)) (pv 2)))))), ?_⟩
    walk_at "st"
    refine r_ite (fun _ => ?_) (fun h => absurd h1 h)
    walk_at "st"
    rw [decide_eq_true h2]
    exact q
theorem cut_from1 (xs : List V) : cutV xs (some 1) none = xs.drop 1 := by
  cases xs with
  | nil => rfl
  | cons x xs =>
    unfold cutV
    simp [HT.sIx]
theorem all_trues : ∀ {ys : List V}, (∀ (i : Nat) (y : V), ys[i]? = some y → y = .bl true) → ys = (List.replicate ys.length true).map V.bl
  | [], _ => rfl
  | y :: ys, h => by
    rw [List.length_cons, List.replicate_succ, List.map_cons, ← all_trues fun i z e => h (i + 1) z (by simpa using e), h 0 y rfl]
theorem all_rep (n : Nat) : (List.replicate n true).all id = true := List.all_eq_true.mpr fun x m => (List.mem_replicate.mp m).2
theorem ok_do_rise {c_Coded : Addr} {c_Machine : Addr} {c_CodeReader : Addr} {c_REGISTERS : Addr} {c_CELLS : Addr} {c_SHAPES : Addr} (T : Tx K mg c_Coded c_Machine c_CodeReader c_REGISTERS c_CELLS c_SHAPES w)  {f : Addr} {fd : FuncData} (F : Here K mg "do_rise" s_do_rise ["things"] f fd) : Cal P w K mg base "do_rise" 1 ["things"] (sp_do_rise K) s_do_rise f fd := by
  refine F.cal sc_do_rise (fun vs H Q E h => ?_) (fun cdv A outer s H vs Q E hr h => ?_)
  · obtain ⟨l, zs, rfl, _⟩ := h
    rfl
  · obtain ⟨l, zs, rfl, hl, lz, ri, q⟩ := h
    refine ⟨_, (pss_one (ps_ret (pe_callB (cr_allK (K := K) rfl) (by rfl) T.m_all (by decide +kernel) (pa_cons (pe_lc rfl sc_do_rise.nd (castPI (K := K) (wi := fun K => iZipA K _) (pi_zipA (by rfl) T.m_zip (pa_cons (pv 0) (pa_cons (pe_slice (sl_listK (K := K)) (pv 0) (po_some pe_int) po_none) pa_nil)))) (blkOk_by (own := [("one", 1), ("other", 2)]) (N := ["things", "one", "other"]) (sc := (defScope s_do_rise)) (by decide +kernel)) (fun _ _ _ _ _ => (castPG (K := K) (n := 2) (pg_tup rfl (pgs_cons (pg_name (i := 1) sc_do_rise.nd rfl (by first | exact .inl rfl | exact .inr rfl)) (pgs_cons (pg_name (i := 2) sc_do_rise.nd rfl (by first | exact .inl rfl | exact .inr rfl)) pgs_nil))))) (fun _ _ _ _ _ => pts_nil) (fun _ _ _ _ _ => (pe_cmpR op_ltS (pv 1) (pv 2) (nomark _)))) pa_nil)))), ?_⟩
    walk_at "st"
    intro p hp
    rw [cut_from1, ← List.map_drop]
    have hl2 := hl_new hl hp (u := .lst ((zs.drop 1).map V.str))
    have hp2 : upd H p (.lst ((zs.drop 1).map V.str)) p = some (.lst ((zs.drop 1).map V.str)) := upd_same
    have S1 : Same H (upd H p (.lst ((zs.drop 1).map V.str))) := Same.upd_new hp
    generalize upd H p (.lst ((zs.drop 1).map V.str)) = H1 at *
    walk_at "st"
    intro D hD
    refine lc_map (walk_zipL (xs := zs.map V.str) (ys := (zs.drop 1).map V.str) rfl) (by rw [List.length_map]; omega) hD (fun i y _ => y = .bl true) (fun _ _ _ _ h _ => h) (fun _ _ _ _ _ h _ => h) (fun H' k => ⟨SqL.of (k _ _ hl2), SqL.of (k _ _ hp2)⟩) (fun i H1 x H2 y => ?_)
      (fun i x H1 H2 Y No hi sm y hY => ?_) (fun ys H' el sm eD hys => ?_)
    · obtain ⟨t, x1, y1, rfl, nt, rfl, _⟩ := y
      exact Same.upd_new nt
    · obtain ⟨t, x1, y1, rfl, nt, rfl, e1, e2⟩ := y
      obtain ⟨z1, ez1, rfl⟩ := getElem?_map_str e1
      obtain ⟨z2, ez2, rfl⟩ := getElem?_map_str e2
      rw [List.getElem?_drop, Nat.add_comm] at ez2
      obtain ⟨g1, rfl⟩ := List.getElem?_eq_some_iff.mp ez1
      obtain ⟨g2, rfl⟩ := List.getElem?_eq_some_iff.mp ez2
      have lt := List.pairwise_iff_getElem.mp ri i (i + 1) g1 g2 (Nat.lt_succ_self i)
      refine ⟨t, _, rfl, .inl (.inl upd_same), rfl, _, _, rfl, _, _, rfl, rfl, rfl, ?_⟩
      walk_at "st"
      have e : decide (zs[i].cps.toList < zs[i + 1].cps.toList) = true := decide_eq_true lt
      rw [e]
      exact hY _ _ (Same.refl _) rfl
    · have e := all_trues hys
      rw [e] at eD
      walk_at "st"
      rw [all_rep]
      exact q _ (S1.trans sm)
end
local macro_rules | `(tactic| walk_at "ssz") => `(tactic| first | decide | exact str_small (by assumption) | (have : (1000000 : Nat) ≤ sizeLine := (by decide); omega))
local macro_rules | `(tactic| walk_at "st1") => `(tactic| first
  | with_reducible refine' r_nt ?_ | with_reducible refine' r_nf ?_
  | ((with_reducible refine r_lenS ?e1 ?_); (case e1 => walk_at "ssz"))
  | with_reducible refine r_inS ?_
  | with_reducible refine r_ninS ?_
  | ((with_reducible refine r_addS ?e1 ?_); (case e1 => walk_at "ssz"))
  | ((with_reducible refine' r_ixS ?e1 ?e2 ?_); (case e1 => walk_at "ssz"); (case e2 => first | assumption | rfl))
  | with_reducible refine r_istr ?_
  | with_reducible refine r_is ?_
  | with_reducible refine r_un ?_
  | with_reducible refine r_u ?_)
local macro_rules | `(tactic| walk_at "st1") => `(tactic| first
  | with_reducible refine r_tru ?_
  | ((with_reducible refine' r_truT ?e1 ?_); (case e1 => walk_at "sq"))
  | with_reducible refine r_isN ?_
  | with_reducible refine r_tyS ?_
  | with_reducible refine r_m1 ?_
  | with_reducible refine r_sx ?_
  | ((with_reducible refine r_strC ?e1 ?_); (case e1 => omega)))
local macro_rules | `(tactic| walk_at "st1") => `(tactic| first
  | with_reducible refine r_par ?_
  | with_reducible refine r_parx ?_
  | ((with_reducible refine' r_gtup ?e1 ?e2 ?_); (case e1 => walk_at "sq"); (case e2 => rfl))
  | with_reducible refine r_gcons ?_
  | with_reducible refine r_gnil ?_
  | with_reducible refine r_ient ?_
  | ((with_reducible refine' r_ent ?e1 ?_); (case e1 => walk_at "sq")))
local macro_rules | `(tactic| walk_at "st1") => `(tactic| first
  | with_reducible refine' r_nt ?_
  | with_reducible refine' r_nf ?_
  | with_reducible refine r_un ?_
  | with_reducible refine r_u ?_)
local macro_rules | `(tactic| walk_at "st1") => `(tactic| first
  | with_reducible refine r_fld ?_
  | with_reducible refine r_sfld ?_
  | ((with_reducible refine' r_fldr ?e1 ?e2 ?e3 ?e4 ?_); (case e1 => walk_at "hl"); (case e2 => assumption); (case e3 => assumption); (case e4 => assumption)))
/-! ### things that stand item by item -/
theorem op_inSeqK {X : Cx} {K : PySem.W.Frag} (q : X.K = K := by rfl) : OpR X (compareOp .In) (rIn K false) := q ▸ op_in_seq
def Al {α : Type} (R : V → α → Prop) (us : List V) (xs : List α) : Prop := us.length = xs.length ∧ ∀ (i : Nat) (u : V), us[i]? = some u → ∃ x, xs[i]? = some x ∧ R u x
theorem Al.imp {α : Type} {R R' : V → α → Prop} {us : List V} {xs : List α} (h : Al R us xs) (k : ∀ u x, R u x → R' u x) : Al R' us xs :=
  ⟨h.1, fun i u e => by
    obtain ⟨x, ex, r⟩ := h.2 i u e
    exact ⟨x, ex, k u x r⟩⟩
theorem Al.nil {α : Type} {R : V → α → Prop} : Al R [] ([] : List α) := ⟨rfl, fun i u e => by simp at e⟩
theorem Al.cons {α : Type} {R : V → α → Prop} {u : V} {x : α} {us : List V} {xs : List α} (r : R u x) (h : Al R us xs) : Al R (u :: us) (x :: xs) :=
  ⟨by rw [List.length_cons, List.length_cons, h.1], fun i v e => by
    cases i with
    | zero => exact ⟨x, rfl, by rw [← Option.some.inj e]; exact r⟩
    | succ i => exact h.2 i v e⟩
theorem Al.tail {α : Type} {R : V → α → Prop} {u : V} {x : α} {us : List V} {xs : List α} (h : Al R (u :: us) (x :: xs)) : R u x ∧ Al R us xs := by
  refine ⟨?_, by have := h.1; simpa using this, fun i v e => h.2 (i + 1) v (by simpa using e)⟩
  obtain ⟨y, ey, r⟩ := h.2 0 u rfl
  obtain rfl := Option.some.inj ey
  exact r
theorem Al.snoc {α : Type} {R : V → α → Prop} {u : V} {x : α} {us : List V} {xs : List α} (h : Al R us xs) (r : R u x) : Al R (us ++ [u]) (xs ++ [x]) :=
  ⟨by rw [List.length_append, List.length_append, h.1]; rfl, fun i v e => by
    by_cases c : i < us.length
    · rw [List.getElem?_append_left c] at e
      rw [List.getElem?_append_left (by rw [← h.1]; exact c)]
      exact h.2 i v e
    · rw [List.getElem?_append_right (by omega)] at e
      rw [List.getElem?_append_right (by rw [← h.1]; omega), ← h.1]
      cases hi : i - us.length with
      | zero => rw [hi] at e; exact ⟨x, rfl, by rw [← Option.some.inj (show some u = some v from e)]; exact r⟩
      | succ n => rw [hi] at e; simp at e⟩
theorem Al.at {α : Type} {R : V → α → Prop} {us : List V} {xs : List α} (h : Al R us xs) {i : Nat} {x : α} (e : xs[i]? = some x) : ∃ u, us[i]? = some u ∧ R u x := by
  have li := (List.getElem?_eq_some_iff.mp e).1
  have eu : us[i]? = some (us[i]'(by rw [h.1]; exact li)) := List.getElem?_eq_getElem _
  obtain ⟨y, ey, r⟩ := h.2 i _ eu
  obtain rfl := Option.some.inj (e.symm.trans ey)
  exact ⟨_, eu, r⟩
/-- ways as they stand: tuples that begin with a word -/
def WayV (H : Hp) (size : Int) (v : V) (z : Str) : Prop := ∃ (t : Addr) (r : List V), v = .ref t ∧ H t = some (.tup (.str z :: r)) ∧ ((r.length + 1 : Nat) : Int) = size
theorem WayV.same {H H' : Hp} {size : Int} {v : V} {z : Str} (h : WayV H size v z) (k : Same H H') : WayV H' size v z := by
  obtain ⟨t, r, e, ht, l⟩ := h
  exact ⟨t, r, e, k _ _ ht, l⟩
def sp_are_ways (_ : PySem.W.Frag) : Sp := fun vs H Q _ => ∃ (t : Addr) (us : List V) (ws : List Str) (most size : Int), vs = [.ref t, .int most, .int size] ∧ H t = some (.tup us) ∧ Al (WayV H size) us ws ∧ (1 ≤ ws.length ∧ (ws.length : Int) ≤ most ∧ most ≤ 100) ∧ (∀ z ∈ ws, NameS z) ∧ ws.Pairwise ltS ∧ ∀ H', Same H H' → Q (.bl true) H'
section
variable {P : Program} {w : World} {K : PySem.W.Frag} {mg : Str → Option Value} {base : Heap}
theorem ok_are_ways {c_Coded : Addr} {c_Machine : Addr} {c_CodeReader : Addr} {c_REGISTERS : Addr} {c_CELLS : Addr} {c_SHAPES : Addr} (T : Tx K mg c_Coded c_Machine c_CodeReader c_REGISTERS c_CELLS c_SHAPES w) {f_do_rise : Addr} {fd_do_rise : FuncData} (C_do_rise : Cal P w K mg base "do_rise" 1 ["things"] (sp_do_rise K) s_do_rise f_do_rise fd_do_rise) {f_is_tuple : Addr} {fd_is_tuple : FuncData} (C_is_tuple : Cal P w K mg base "is_tuple" 1 ["thing", "least", "most"] (sp_is_tuple K) s_is_tuple f_is_tuple fd_is_tuple) {f_is_name : Addr} {fd_is_name : FuncData} (C_is_name : Cal P w K mg base "is_name" 2 ["thing"] (sp_is_name K) s_is_name f_is_name fd_is_name) {f : Addr} {fd : FuncData} (F : Here K mg "are_ways" s_are_ways ["thing", "most", "size"] f fd) : Cal P w K mg base "are_ways" 3 ["thing", "most", "size"] (sp_are_ways K) s_are_ways f fd := by
  refine F.cal sc_are_ways (fun vs H Q E h => ?_) (fun cdv A outer s H vs Q E hr h => ?_)
  · obtain ⟨t, us, ws, most, size, rfl, _⟩ := h
    rfl
  · obtain ⟨t, us, ws, most, size, rfl, ht, al, ⟨l1, l2, l3⟩, nm, ri, q⟩ := h
    have lu := al.1
    refine ⟨_, (pss_cons (ps_if (PW.pt (pw_or (pt_not (pt_val (pe_call C_is_tuple.ok (hr.mono (by decide)) (by rfl) C_is_tuple.at_ C_is_tuple.kp C_is_tuple.b .nil pass0 (pa_cons (pv 0) (pa_cons pe_int (pa_cons (pv 1) pa_nil)))))) (pw_or1 (pt_not (pt_val (pe_callB (cr_allK (K := K) rfl) (by rfl) T.m_all (by decide +kernel) (pa_cons (pe_lc rfl sc_are_ways.nd (pi_tupK (K := K) (pv 0)) (blkOk_by (own := [("way", 3)]) (N := ["thing", "most", "size", "way", "words", "word"]) (sc := (defScope s_are_ways)) (by decide +kernel)) (fun _ _ _ _ _ => (pg_name (i := 3) sc_are_ways.nd rfl (by first | exact .inl rfl | exact .inr rfl))) (fun _ _ _ _ _ => pts_nil) (fun _ _ _ _ _ => (pe_call C_is_tuple.ok (hr.mono (by decide)) (by rfl) C_is_tuple.at_ C_is_tuple.kp C_is_tuple.b .nil pass0 (pa_cons (pv 3) (pa_cons (pv 2) (pa_cons (pv 2) pa_nil)))))) pa_nil))))))) (pss_one (ps_ret pe_bl)) pss_nil)
      (pss_cons (ps_setLc (i := 4) rfl sc_are_ways.nd rfl rfl (sw_true rfl rfl rfl (by decide +kernel)) (pi_tupK (K := K) (pv 0)) (blkOk_by (own := [("way", 3)]) (N := ["thing", "most", "size", "way", "words", "word"]) (sc := (defScope s_are_ways)) (by decide +kernel)) (fun _ _ _ _ _ => (pg_name (i := 3) sc_are_ways.nd rfl (by first | exact .inl rfl | exact .inr rfl))) (fun _ _ _ _ _ => pts_nil) (fun _ _ _ _ _ => (pe_ix (ix_tupK (K := K)) (pv 3) pe_int (fun _ _ => rfl))))
      (pss_one (ps_ret (pe_and (pe_callB (cr_allK (K := K) rfl) (by rfl) T.m_all (by decide +kernel) (pa_cons (pe_lc rfl sc_are_ways.nd (pi_listK (K := K) (pv 4)) (blkOk_by (own := [("word", 5)]) (N := ["thing", "most", "size", "way", "words", "word"]) (sc := (defScope s_are_ways)) (by decide +kernel)) (fun _ _ _ _ _ => (pg_name (i := 5) sc_are_ways.nd rfl (by first | exact .inl rfl | exact .inr rfl))) (fun _ _ _ _ _ => pts_nil) (fun _ _ _ _ _ => (pe_call C_is_name.ok (hr.mono (by decide)) (by rfl) C_is_name.at_ C_is_name.kp C_is_name.b .nil pass0 (pa_cons (pv 5) pa_nil)))) pa_nil)) (pe_one (pe_call C_do_rise.ok (hr.mono (by decide)) (by rfl) C_do_rise.at_ C_do_rise.kp C_do_rise.b .nil pass0 (pa_cons (pv 4) pa_nil)))))))), ?_⟩
    walk_at "st"
    walk_at "if"
    refine ⟨t, us, 1, most, rfl, ht, by omega, by omega, ?_⟩
    walk_at "st"
    intro D hD
    refine lc_map (walk_tup (xs := us)) (by omega) hD (fun i y _ => y = .bl true) (fun _ _ _ _ h _ => h) (fun _ _ _ _ _ h _ => h) (fun H' k => SqT.of (k _ _ ht)) (fun i H1 x H2 y => by rw [y.1]; exact Same.refl _)
      (fun i x H1 H2 Y No hi s1 y hY => ?_) (fun ys H1 el s1 eD hys => ?_)
    · obtain ⟨rfl, ex⟩ := y
      obtain ⟨z, ez, wt, r, rfl, hw, lw⟩ := al.2 i x ex
      refine ⟨rfl, ?_⟩
      walk_at "st"
      exact ⟨wt, _, size, size, rfl, s1 _ _ hw, by rw [List.length_cons, lw]; exact Int.le_refl _, by rw [List.length_cons, lw]; exact Int.le_refl _, hY _ _ (Same.refl _) rfl⟩
    have e1 := all_trues hys
    rw [e1] at eD
    walk_at "st"
    rw [all_rep]
    walk_at "st"
    intro D2 hD2
    refine lc_map (walk_tup (xs := us)) (by omega) hD2 (fun i y _ => ∃ z, ws[i]? = some z ∧ y = .str z) (fun _ _ _ _ h _ => h) (fun _ _ _ _ _ h _ => h) (fun H' k => SqT.of (k _ _ (s1 _ _ ht))) (fun i H1 x H2 y => by rw [y.1]; exact Same.refl _)
      (fun i x H2 H3 Y No hi s2 y hY => ?_) (fun zs H2 el2 s2 eD2 hzs => ?_)
    · obtain ⟨rfl, ex⟩ := y
      obtain ⟨z, ez, wt, r, rfl, hw, lw⟩ := al.2 i x ex
      have hw2 := s2 _ _ (s1 _ _ hw)
      have ix : atI (V.str z :: r) 0 = some (.str z) := (show atI _ ((0 : Nat) : Int) = _ from atI_nat rfl)
      refine ⟨rfl, ?_⟩
      walk_at "st"
      exact hY _ _ (Same.refl _) ⟨z, ez, rfl⟩
    obtain rfl : zs = ws.map V.str := by
      apply List.ext_getElem?
      intro i
      cases e : zs[i]? with
      | none =>
        rw [List.getElem?_eq_none_iff] at e
        rw [List.getElem?_eq_none_iff.mpr (by rw [List.length_map]; omega)]
      | some y =>
        obtain ⟨z, ez, rfl⟩ := hzs i y e
        rw [List.getElem?_map, ez]; rfl
    walk_at "st"
    intro D3 hD3
    refine lc_map (walk_list (xs := ws.map V.str)) (by rw [List.length_map]; omega) hD3 (fun i y _ => y = .bl true) (fun _ _ _ _ h _ => h) (fun _ _ _ _ _ h _ => h) (fun H' k => SqL.of (k _ _ eD2)) (fun i H1 x H2 y => by rw [y.1]; exact Same.refl _)
      (fun i x H3 H4 Y No hi s3 y hY => ?_) (fun ys3 H3 el3 s3 eD3 hys3 => ?_)
    · obtain ⟨rfl, ex⟩ := y
      obtain ⟨z, ez, rfl⟩ := getElem?_map_str ex
      refine ⟨rfl, ?_⟩
      walk_at "st"
      exact ⟨z, rfl, nm z (List.mem_of_getElem? ez), fun H' s4 => hY _ _ s4 rfl⟩
    have e3 := all_trues hys3
    rw [e3] at eD3
    walk_at "st"
    rw [all_rep]
    walk_at "st"
    exact ⟨D2, ws, rfl, s3 _ _ eD2, by omega, ri, fun H' s4 => q H' (((s1.trans s2).trans s3).trans s4)⟩
end
local macro_rules | `(tactic| walk_at "ssz") => `(tactic| first | decide | exact str_small (by assumption) | (have : (1000000 : Nat) ≤ sizeLine := (by decide); omega))
local macro_rules | `(tactic| walk_at "st1") => `(tactic| first
  | with_reducible refine' r_nt ?_ | with_reducible refine' r_nf ?_
  | ((with_reducible refine r_lenS ?e1 ?_); (case e1 => walk_at "ssz"))
  | with_reducible refine r_inS ?_
  | with_reducible refine r_ninS ?_
  | ((with_reducible refine r_addS ?e1 ?_); (case e1 => walk_at "ssz"))
  | ((with_reducible refine' r_ixS ?e1 ?e2 ?_); (case e1 => walk_at "ssz"); (case e2 => first | assumption | rfl))
  | with_reducible refine r_istr ?_
  | with_reducible refine r_is ?_
  | with_reducible refine r_un ?_
  | with_reducible refine r_u ?_)
local macro_rules | `(tactic| walk_at "st1") => `(tactic| first
  | with_reducible refine r_tru ?_
  | ((with_reducible refine' r_truT ?e1 ?_); (case e1 => walk_at "sq"))
  | with_reducible refine r_isN ?_
  | with_reducible refine r_tyS ?_
  | with_reducible refine r_m1 ?_
  | with_reducible refine r_sx ?_
  | ((with_reducible refine r_strC ?e1 ?_); (case e1 => omega)))
local macro_rules | `(tactic| walk_at "st1") => `(tactic| first
  | with_reducible refine r_par ?_
  | with_reducible refine r_parx ?_
  | ((with_reducible refine' r_gtup ?e1 ?e2 ?_); (case e1 => walk_at "sq"); (case e2 => rfl))
  | with_reducible refine r_gcons ?_
  | with_reducible refine r_gnil ?_
  | with_reducible refine r_ient ?_
  | ((with_reducible refine' r_ent ?e1 ?_); (case e1 => walk_at "sq")))
local macro_rules | `(tactic| walk_at "st1") => `(tactic| first
  | with_reducible refine' r_nt ?_
  | with_reducible refine' r_nf ?_
  | with_reducible refine r_un ?_
  | with_reducible refine r_u ?_)
local macro_rules | `(tactic| walk_at "st1") => `(tactic| first
  | with_reducible refine r_fld ?_
  | with_reducible refine r_sfld ?_
  | ((with_reducible refine' r_fldr ?e1 ?e2 ?e3 ?e4 ?_); (case e1 => walk_at "hl"); (case e2 => assumption); (case e3 => assumption); (case e4 => assumption)))
/-! ### a machine: what fits -/
def WayI (H : Hp) (v : V) (x : Str × Int) : Prop := ∃ t : Addr, v = .ref t ∧ H t = some (.tup [.str x.1, .int x.2])
def ArgV (H : Hp) (v : V) : Arg → Prop
  | .w z => v = .str z
  | .n i => v = .int i
  | .ways l => ∃ (t : Addr) (us : List V), v = .ref t ∧ H t = some (.tup us) ∧ Al (WayI H) us l
theorem ArgV.same {H H' : Hp} {v : V} {a : Arg} (h : ArgV H v a) (k : Same H H') : ArgV H' v a := by
  cases a with
  | w z => exact h
  | n i => exact h
  | ways l =>
    obtain ⟨t, us, e, ht, al⟩ := h
    exact ⟨t, us, e, k _ _ ht, al.imp fun u x ⟨t, e, h⟩ => ⟨t, e, k _ _ h⟩⟩
def macF (kn : Addr) (many p : Int) : List (Str × V) := putF "p" (.int p) (putF "many" (.int many) (putF "known" (.ref kn) []))
def MacV (K : PySem.W.Frag) (C : Addr) (H : Hp) (x : Addr) (hid : Nat) (many p : Int) : Prop := ∃ dx kn, H x = some (.ins C dx (macF kn many p)) ∧ SqT K H kn ((knownL hid).map V.str)
theorem sqT_to {K : PySem.W.Frag} {H H' : Hp} {a : Addr} {xs : List V} (h : SqT K H a xs) (k : Same H H') : SqT K H' a xs := by
  rcases h with h | h
  · refine .inl ?_
    rcases h with h | ⟨o, h⟩
    · exact .inl (k _ _ h)
    · exact .inr ⟨o, k _ _ h⟩
  · exact .inr h
theorem MacV.same {K : PySem.W.Frag} {C : Addr} {H H' : Hp} {x : Addr} {hid : Nat} {many p : Int} (h : MacV K C H x hid many p) (k : Same H H') : MacV K C H' x hid many p := by
  obtain ⟨dx, kn, hx, hk⟩ := h
  exact ⟨dx, kn, k _ _ hx, sqT_to hk k⟩
theorem r_slX {K : PySem.W.Frag} {a : Addr} {xs : List V} {lo hi : Option Int} {H : Hp} {Q : VK} (h : SqT K H a xs) (q : ∀ p H', Same H H' → SqT K H' p (cutV xs lo hi) → Q (.ref p) H') : rSlA K (.ref a) lo hi H Q := by
  refine ⟨a, xs, rfl, h, fun z => q a H (Same.refl _) ?_, fun _ p hp => q p _ (Same.upd_new hp) (SqT.of upd_same)⟩
  unfold cutV
  rw [z.1, z.2, List.drop_zero, Nat.sub_zero, List.take_length]
  exact h
theorem r_catQ {K : PySem.W.Frag} {a b : Addr} {xs ys : List V} {H : Hp} {Q : VK} (ha : SqT K H a xs) (hb : SqT K H b ys) (sz : xs.length + ys.length ≤ sizeLine) (q : ∀ p H', Same H H' → SqT K H' p (xs ++ ys) → Q (.ref p) H') : rCatA K (.ref a) (.ref b) H Q := by
  refine ⟨a, b, xs, ys, rfl, rfl, ha, hb, sz, fun e => ?_, fun _ e => ?_, fun _ _ p hp => ?_⟩
  · exact q b H (Same.refl _) (by rw [e]; exact hb)
  · exact q a H (Same.refl _) (by rw [e, List.append_nil]; exact ha)
  · exact q p _ (Same.upd_new hp) (SqT.of upd_same)
theorem cut_take (xs : List V) (m : Nat) : cutV xs none (some (m : Int)) = xs.take m := by
  unfold cutV
  have e1 : HT.sIx xs.length 0 none = 0 := rfl
  have e2 : HT.sIx xs.length xs.length (some (m : Int)) = min m xs.length := by
    simp [HT.sIx]; omega
  rw [e1, e2, List.drop_zero, Nat.sub_zero]
  by_cases h : m ≤ xs.length
  · rw [Nat.min_eq_left h]
  · rw [Nat.min_eq_right (by omega), List.take_of_length_le (Nat.le_refl _), List.take_of_length_le (by omega)]
def sp_Machine___init__ (K : PySem.W.Frag) (C : Addr) : Sp := fun vs H Q _ => ∃ (x dx : Addr) (hid : Nat) (many p : Int), vs = [.ref x, .int (hid : Nat), .int many, .int p] ∧ H x = some (.ins C dx []) ∧ hid ≤ 3 ∧
  ∀ H', (∀ b o, H b = some o → b ≠ x → H' b = some o) → MacV K C H' x hid many p → Q .non H'
section
variable {P : Program} {w : World} {K : PySem.W.Frag} {mg : Str → Option Value} {base : Heap}
theorem ok_Machine___init__ {c_Coded : Addr} {c_Machine : Addr} {c_CodeReader : Addr} {c_REGISTERS : Addr} {c_CELLS : Addr} {c_SHAPES : Addr} (T : Tx K mg c_Coded c_Machine c_CodeReader c_REGISTERS c_CELLS c_SHAPES w)  {f : Addr} {fd : FuncData} (F : HereI K c_Machine "__init__" "Machine.__init__" s_Machine___init__ ["self", "hidden", "many", "p"] f fd) : CalI P w K mg base c_Machine "__init__" 1 ["self", "hidden", "many", "p"] (sp_Machine___init__ K c_Machine) s_Machine___init__ f fd := by
  refine F.cal sc_Machine___init__ (fun vs H Q E h => ?_) (fun cdv A outer s H vs Q E hr h => ?_)
  · obtain ⟨x, dx, hid, many, p, rfl, _⟩ := h
    rfl
  · obtain ⟨x, dx, hid, many, p, rfl, hx, lh, q⟩ := h
    refine ⟨_, (pss_cons (ps_fldK (K := K) (pv 0) (pe_op (op_catAK (K := K)) (pe_glob (v := .ref c_REGISTERS) (by rfl) T.g_REGISTERS rfl) (pe_slice (sl_tupAK (K := K)) (pe_glob (v := .ref c_CELLS) (by rfl) T.g_CELLS rfl) po_none (po_some (pv 1)))) rfl)
      (pss_cons (ps_fldK (K := K) (pv 0) (pv 2) rfl)
      (pss_one (ps_fldK (K := K) (pv 0) (pv 3) rfl)))), ?_⟩
    walk_at "st"
    refine r_slX T.ce_CELLS.sq fun p1 H1 s1 h1 => ?_
    rw [cut_take, ← List.map_take] at h1
    walk_at "st"
    refine r_catQ T.rg_REGISTERS.sq h1 (by rw [List.length_map, List.length_map, List.length_take]; exact Nat.le_trans (show 8 + min hid 3 ≤ 11 by omega) (by decide)) fun kn H2 s2 h2 => ?_
    rw [← List.map_append] at h2
    have hx2 := s2 _ _ (s1 _ _ hx)
    walk_at "st"
    refine r_sfr hx2 T.cl_Machine T.na_known (by show 0 < 1000; decide) ?_
    walk_at "st"
    refine r_sfr upd_same T.cl_Machine T.na_many (by show 1 < 1000; decide) ?_
    walk_at "st"
    refine r_sfr upd_same T.cl_Machine T.na_p (by show 2 < 1000; decide) ?_
    have keep : ∀ (b : Addr) (o : HO) {u1 u2 u3 : HO}, H2 b = some o → b ≠ x → upd (upd (upd H2 x u1) x u2) x u3 b = some o := fun b o _ _ _ e n => hl_set n (hl_set n (hl_set n e))
    refine q _ (fun b o e n => keep b o (s2 _ _ (s1 _ _ e)) n) ⟨dx, kn, upd_same, ?_⟩
    rcases h2 with h2 | h2
    · have nk : kn ≠ x := fun e => by
        rcases h2 with h2 | ⟨o, h2⟩ <;> (rw [e, hx2] at h2; cases h2)
      refine .inl ?_
      rcases h2 with h2 | ⟨o, h2⟩
      · exact .inl (keep _ _ h2 nk)
      · exact .inr ⟨o, keep _ _ h2 nk⟩
    · exact .inr h2
theorem in_strs (z : Str) (zs : List Str) : inV (.str z) (zs.map V.str) = decide (z ∈ zs) := by
  unfold inV
  induction zs with
  | nil => simp
  | cons a r ih =>
    rw [List.map_cons, List.any_cons, ih]
    have e : eqV (.str a) (.str z) = decide (z = a) := by
      unfold eqV
      by_cases c : z = a
      · simp [c]
      · have c2 : ¬ a = z := fun e => c e.symm
        simp [c, c2]
    rw [e]
    by_cases c : z = a <;> simp [c]
def sp_Machine_fits (K : PySem.W.Frag) (C : Addr) : Sp := fun vs H Q _ => ∃ (x : Addr) (hid : Nat) (many p : Int) (c : Nat) (v : V) (a : Arg), vs = [.ref x, .str ⟨#[c]⟩, v] ∧ MacV K C H x hid many p ∧ ArgV H v a ∧ Fits hid many p NameS (fun ws => ws.Pairwise ltS) c a ∧ ∀ H', Same H H' → Q (.bl true) H'
theorem mac_k (kn : Addr) (many p : Int) : (macF kn many p).lookup ("known" : Str) = some (.ref kn) := by
  unfold macF
  rw [lookup_putF, if_neg (by decide +kernel), lookup_putF, if_neg (by decide +kernel), lookup_putF, if_pos rfl]
theorem mac_m (kn : Addr) (many p : Int) : (macF kn many p).lookup ("many" : Str) = some (.int many) := by
  unfold macF
  rw [lookup_putF, if_neg (by decide +kernel), lookup_putF, if_pos rfl]
theorem mac_p (kn : Addr) (many p : Int) : (macF kn many p).lookup ("p" : Str) = some (.int p) := by
  unfold macF
  rw [lookup_putF, if_pos rfl]
theorem ok_Machine_fits {c_Coded : Addr} {c_Machine : Addr} {c_CodeReader : Addr} {c_REGISTERS : Addr} {c_CELLS : Addr} {c_SHAPES : Addr} (T : Tx K mg c_Coded c_Machine c_CodeReader c_REGISTERS c_CELLS c_SHAPES w) {f_is_number : Addr} {fd_is_number : FuncData} (C_is_number : Cal P w K mg base "is_number" 2 ["thing", "p"] (sp_is_number K) s_is_number f_is_number fd_is_number) {f_is_name : Addr} {fd_is_name : FuncData} (C_is_name : Cal P w K mg base "is_name" 2 ["thing"] (sp_is_name K) s_is_name f_is_name fd_is_name) {f_are_ways : Addr} {fd_are_ways : FuncData} (C_are_ways : Cal P w K mg base "are_ways" 3 ["thing", "most", "size"] (sp_are_ways K) s_are_ways f_are_ways fd_are_ways) {f : Addr} {fd : FuncData} (F : HereM K c_Machine "fits" "Machine.fits" s_Machine_fits ["self", "sign", "thing"] f fd) : CalM P w K mg base c_Machine "fits" 4 ["self", "sign", "thing"] (sp_Machine_fits K c_Machine) s_Machine_fits f fd := by
  refine F.cal sc_Machine_fits (fun vs H Q E h => ?_) (fun cdv A outer s H vs Q E hr h => ?_)
  · obtain ⟨x, hid, many, p, c, v, a, rfl, _⟩ := h
    rfl
  · obtain ⟨x, hid, many, p, c, v, a, rfl, ⟨dx, kn, hx, hk⟩, av, ft, q⟩ := h
    refine ⟨_, (pss_cons (ps_if (pt_cmpR op_eq (pv 1) pe_str (nomark _)) (pss_one (ps_ret (pe_and (pe_callB (cr_isiK (K := K)) (by rfl) T.m_isinstance (by decide +kernel) (pa_cons (pv 2) (pa_cons (pe_bltn (v := .ty "str") (by rfl) T.m_str (by decide +kernel) rfl) pa_nil))) (pe_one (pe_cmpR (op_inSeqK (K := K)) (pv 2) (pe_fldK (K := K) (pv 0) rfl) (by rfl)))))) pss_nil)
      (pss_cons (ps_if (pt_cmpR op_eq (pv 1) pe_str (nomark _)) (pss_one (ps_ret (pe_call C_is_number.ok (hr.mono (by decide)) (by rfl) C_is_number.at_ C_is_number.kp C_is_number.b .nil pass0 (pa_cons (pv 2) (pa_cons (pe_fldK (K := K) (pv 0) rfl) pa_nil))))) pss_nil)
      (pss_cons (ps_if (pt_cmpR op_eq (pv 1) pe_str (nomark _)) (pss_one (ps_ret (pe_call C_is_number.ok (hr.mono (by decide)) (by rfl) C_is_number.at_ C_is_number.kp C_is_number.b .nil pass0 (pa_cons (pv 2) (pa_cons (pe_fldK (K := K) (pv 0) rfl) pa_nil))))) pss_nil)
      (pss_cons (ps_if (pt_cmpR op_eq (pv 1) pe_str (nomark _)) (pss_one (ps_ret (pe_call C_is_number.ok (hr.mono (by decide)) (by rfl) C_is_number.at_ C_is_number.kp C_is_number.b .nil pass0 (pa_cons (pv 2) (pa_cons (pe_op op_add (pe_glob (v := .int 3) (by rfl) (T.c_MOST_NUMBERS).choose_spec ⟨_, rfl⟩) pe_int) pa_nil))))) pss_nil)
      (pss_cons (ps_if (pt_cmpR op_eq (pv 1) pe_str (nomark _)) (pss_one (ps_ret (pe_call C_is_name.ok (hr.mono (by decide)) (by rfl) C_is_name.at_ C_is_name.kp C_is_name.b .nil pass0 (pa_cons (pv 2) pa_nil)))) pss_nil)
      (pss_one (ps_ret (pe_and (pe_call C_are_ways.ok (hr.mono (by decide)) (by rfl) C_are_ways.at_ C_are_ways.kp C_are_ways.b .nil pass0 (pa_cons (pv 2) (pa_cons (pe_glob (v := .int 6) (by rfl) (T.c_MOST_WAYS).choose_spec ⟨_, rfl⟩) (pa_cons pe_int pa_nil)))) (pe_one (pe_callB (cr_allK (K := K) rfl) (by rfl) T.m_all (by decide +kernel) (pa_cons (pe_lc rfl sc_Machine_fits.nd (pi_tupK (K := K) (pv 2)) (blkOk_by (own := [("_", 3), ("to", 4)]) (N := ["self", "sign", "thing", "_", "to"]) (sc := (defScope s_Machine_fits)) (by decide +kernel)) (fun _ _ _ _ _ => (castPG (K := K) (n := 2) (pg_tup rfl (pgs_cons (pg_name (i := 3) sc_Machine_fits.nd rfl (by first | exact .inl rfl | exact .inr rfl)) (pgs_cons (pg_name (i := 4) sc_Machine_fits.nd rfl (by first | exact .inl rfl | exact .inr rfl)) pgs_nil))))) (fun _ _ _ _ _ => pts_nil) (fun _ _ _ _ _ => (pe_call C_is_number.ok (hr.mono (by decide)) (by rfl) C_is_number.at_ C_is_number.kp C_is_number.b .nil pass0 (pa_cons (pv 4) (pa_cons (pe_fldK (K := K) (pv 0) rfl) pa_nil))))) pa_nil))))))))))), ?_⟩
    have cl := T.cl_Machine
    have n1 := T.na_known
    have n2 := T.na_many
    have n3 := T.na_p
    have l1 := mac_k kn many p
    have l2 := mac_m kn many p
    have l3 := mac_p kn many p
    have sgn : ∀ (a b : Nat) {α : Prop}, True → (decide (V.str ⟨#[a]⟩ = V.str ⟨#[b]⟩) = decide (a = b)) := fun a b _ _ => decide_eq_decide.mpr ⟨fun e => by
      injection e with e
      injection e with e
      have e : #[a] = #[b] := e
      simpa using e, fun e => by rw [e]⟩
    cases ft with
    | @u z hz =>
      obtain rfl : v = .str z := av
      walk_at "st"
      walk_at "if"
      rw [if_pos (by decide)]
      walk_at "st"
      refine ⟨kn, _, rfl, .inr hk, rfl, List.all_eq_true.mpr fun y m => ?_, ?_⟩
      · obtain ⟨z2, _, rfl⟩ := List.mem_map.mp m
        rfl
      · rw [if_neg (by decide), in_strs, decide_eq_true hz]
        exact q _ (Same.refl _)
    | @n i hi =>
      obtain rfl : v = .int i := av
      walk_at "st"
      walk_at "if"
      rw [if_neg (by decide)]
      walk_at "st"
      walk_at "if"
      rw [if_pos (by decide)]
      walk_at "st"
      exact ⟨i, p, rfl, hi, q _ (Same.refl _)⟩
    | @t i hi =>
      obtain rfl : v = .int i := av
      walk_at "st"
      walk_at "if"
      rw [if_neg (by decide)]
      walk_at "st"
      walk_at "if"
      rw [if_neg (by decide)]
      walk_at "st"
      walk_at "if"
      rw [if_pos (by decide)]
      walk_at "st"
      exact ⟨i, many, rfl, hi, q _ (Same.refl _)⟩
    | @m i hi =>
      obtain rfl : v = .int i := av
      walk_at "st"
      walk_at "if"
      rw [if_neg (by decide)]
      walk_at "st"
      walk_at "if"
      rw [if_neg (by decide)]
      walk_at "st"
      walk_at "if"
      rw [if_neg (by decide)]
      walk_at "st"
      walk_at "if"
      rw [if_pos (by decide)]
      walk_at "st"
      exact ⟨i, 3 + 1, rfl, hi, q _ (Same.refl _)⟩
    | @d z hz =>
      obtain rfl : v = .str z := av
      walk_at "st"
      walk_at "if"
      rw [if_neg (by decide)]
      walk_at "st"
      walk_at "if"
      rw [if_neg (by decide)]
      walk_at "st"
      walk_at "if"
      rw [if_neg (by decide)]
      walk_at "st"
      walk_at "if"
      rw [if_neg (by decide)]
      walk_at "st"
      walk_at "if"
      rw [if_pos (by decide)]
      walk_at "st"
      exact ⟨z, rfl, hz, q⟩
    | @w l g1 g2 g3 =>
      obtain ⟨t, us, rfl, ht, al⟩ := av
      walk_at "st"
      walk_at "if"
      rw [if_neg (by decide)]
      walk_at "st"
      walk_at "if"
      rw [if_neg (by decide)]
      walk_at "st"
      walk_at "if"
      rw [if_neg (by decide)]
      walk_at "st"
      walk_at "if"
      rw [if_neg (by decide)]
      walk_at "st"
      walk_at "if"
      rw [if_neg (by decide)]
      walk_at "st"
      refine ⟨t, us, l.map (·.1), 6, 2, rfl, ht, ⟨by rw [List.length_map]; exact al.1, fun i u e => ?_⟩, by rw [List.length_map]; omega, fun z m => ?_, g3, fun H1 s1 => ?_⟩
      · obtain ⟨y, ey, t2, rfl, h2⟩ := al.2 i u e
        exact ⟨y.1, by rw [List.getElem?_map, ey]; rfl, t2, [.int y.2], rfl, h2, rfl⟩
      · obtain ⟨y, my, rfl⟩ := List.mem_map.mp m
        exact (g2 y my).1
      · have ht1 := s1 _ _ ht
        have hx1 := s1 _ _ hx
        walk_at "st"
        intro D hD
        have lu := al.1
        refine lc_map (walk_tup (xs := us)) (by omega) hD (fun i y _ => y = .bl true) (fun _ _ _ _ h _ => h) (fun _ _ _ _ _ h _ => h) (fun H' k => SqT.of (k _ _ ht1)) (fun i H1 x H2 y => by rw [y.1]; exact Same.refl _)
          (fun i v H2 H3 Y No hi s2 y hY => ?_) (fun ys H2 el s2 eD hys => ?_)
        · obtain ⟨rfl, ex⟩ := y
          obtain ⟨y, ey, t2, rfl, h2⟩ := al.2 i v ex
          have h3 := s2 _ _ (s1 _ _ h2)
          have hx3 := s2 _ _ hx1
          refine ⟨t2, _, rfl, SqT.of h3, rfl, _, _, rfl, _, _, rfl, rfl, ?_⟩
          refine ⟨rfl, ?_⟩
          walk_at "st"
          exact ⟨y.2, many, rfl, (g2 y (List.mem_of_getElem? ey)).2, hY _ _ (Same.refl _) rfl⟩
        · have e1 := all_trues hys
          rw [e1] at eD
          walk_at "st"
          rw [all_rep]
          exact q _ (s1.trans s2)
end
local macro_rules | `(tactic| walk_at "ssz") => `(tactic| first | decide | exact str_small (by assumption) | (have : (1000000 : Nat) ≤ sizeLine := (by decide); omega))
local macro_rules | `(tactic| walk_at "st1") => `(tactic| first
  | with_reducible refine' r_nt ?_ | with_reducible refine' r_nf ?_
  | ((with_reducible refine r_lenS ?e1 ?_); (case e1 => walk_at "ssz"))
  | with_reducible refine r_inS ?_
  | with_reducible refine r_ninS ?_
  | ((with_reducible refine r_addS ?e1 ?_); (case e1 => walk_at "ssz"))
  | ((with_reducible refine' r_ixS ?e1 ?e2 ?_); (case e1 => walk_at "ssz"); (case e2 => first | assumption | rfl))
  | with_reducible refine r_istr ?_
  | with_reducible refine r_is ?_
  | with_reducible refine r_un ?_
  | with_reducible refine r_u ?_)
local macro_rules | `(tactic| walk_at "st1") => `(tactic| first
  | with_reducible refine r_tru ?_
  | ((with_reducible refine' r_truT ?e1 ?_); (case e1 => walk_at "sq"))
  | with_reducible refine r_isN ?_
  | with_reducible refine r_tyS ?_
  | with_reducible refine r_m1 ?_
  | with_reducible refine r_sx ?_
  | ((with_reducible refine r_strC ?e1 ?_); (case e1 => omega)))
local macro_rules | `(tactic| walk_at "st1") => `(tactic| first
  | with_reducible refine r_par ?_
  | with_reducible refine r_parx ?_
  | ((with_reducible refine' r_gtup ?e1 ?e2 ?_); (case e1 => walk_at "sq"); (case e2 => rfl))
  | with_reducible refine r_gcons ?_
  | with_reducible refine r_gnil ?_
  | with_reducible refine r_ient ?_
  | ((with_reducible refine' r_ent ?e1 ?_); (case e1 => walk_at "sq")))
local macro_rules | `(tactic| walk_at "st1") => `(tactic| first
  | with_reducible refine' r_nt ?_
  | with_reducible refine' r_nf ?_
  | with_reducible refine r_un ?_
  | with_reducible refine r_u ?_)
local macro_rules | `(tactic| walk_at "st1") => `(tactic| first
  | with_reducible refine r_fld ?_
  | with_reducible refine r_sfld ?_
  | ((with_reducible refine' r_fldr ?e1 ?e2 ?e3 ?e4 ?_); (case e1 => walk_at "hl"); (case e2 => assumption); (case e3 => assumption); (case e4 => assumption)))
/-! ### instructions -/
def InsV (H : Hp) (v : V) (x : Ins) : Prop := ∃ (t : Addr) (us : List V), v = .ref t ∧ H t = some (.tup (.str x.1 :: us)) ∧ Al (ArgV H) us x.2
theorem InsV.same {H H' : Hp} {v : V} {x : Ins} (h : InsV H v x) (k : Same H H') : InsV H' v x := by
  obtain ⟨t, us, e, ht, al⟩ := h
  exact ⟨t, us, e, k _ _ ht, al.imp fun u a h => h.same k⟩
abbrev Ris (ws : List Str) : Prop := ws.Pairwise ltS
def GoodI (hid : Nat) (many p : Int) (x : Ins) : Prop := ∃ sh : Str, (x.1, sh) ∈ shapesS ∧ (cs sh).length = x.2.length ∧ ∀ (i c : Nat) (a : Arg), (cs sh)[i]? = some c → x.2[i]? = some a → Fits hid many p NameS Ris c a
theorem mac_no (kn : Addr) (many p : Int) {m : Str} (h1 : ¬ m = "p") (h2 : ¬ m = "many") (h3 : ¬ m = "known") : (macF kn many p).lookup m = none := by
  unfold macF
  rw [lookup_putF, if_neg h1, lookup_putF, if_neg h2, lookup_putF, if_neg h3]
  all_goals rfl
def sp_is_instruction (K : PySem.W.Frag) (C : Addr) : Sp := fun vs H Q _ => ∃ (v : V) (x : Addr) (hid : Nat) (many p : Int) (y : Ins), vs = [v, .ref x] ∧ MacV K C H x hid many p ∧ InsV H v y ∧ GoodI hid many p y ∧ ∀ H', Same H H' → Q (.bl true) H'
theorem shape_small : ∀ p ∈ shapesS, (cs p.2).length ≤ 4 := by decide
section
variable {P : Program} {w : World} {K : PySem.W.Frag} {mg : Str → Option Value} {base : Heap}
theorem ok_is_instruction {c_Coded : Addr} {c_Machine : Addr} {c_CodeReader : Addr} {c_REGISTERS : Addr} {c_CELLS : Addr} {c_SHAPES : Addr} (T : Tx K mg c_Coded c_Machine c_CodeReader c_REGISTERS c_CELLS c_SHAPES w) {f_is_tuple : Addr} {fd_is_tuple : FuncData} (C_is_tuple : Cal P w K mg base "is_tuple" 1 ["thing", "least", "most"] (sp_is_tuple K) s_is_tuple f_is_tuple fd_is_tuple) {f_Machine_fits : Addr} {fd_Machine_fits : FuncData} (C_Machine_fits : CalM P w K mg base c_Machine "fits" 4 ["self", "sign", "thing"] (sp_Machine_fits K c_Machine) s_Machine_fits f_Machine_fits fd_Machine_fits) {f : Addr} {fd : FuncData} (F : Here K mg "is_instruction" s_is_instruction ["thing", "machine"] f fd) : Cal P w K mg base "is_instruction" 5 ["thing", "machine"] (sp_is_instruction K c_Machine) s_is_instruction f fd := by
  refine F.cal sc_is_instruction (fun vs H Q E h => ?_) (fun cdv A outer s H vs Q E hr h => ?_)
  · obtain ⟨v, x, hid, many, p, y, rfl, _⟩ := h
    rfl
  · obtain ⟨v, x, hid, many, p, y, rfl, mv, ⟨t, us, rfl, ht, al⟩, ⟨sh, msh, lsh, ft⟩, q⟩ := h
    refine ⟨_, (pss_cons (ps_if (PW.pt (pw_or (pt_not (pt_val (pe_call C_is_tuple.ok (hr.mono (by decide)) (by rfl) C_is_tuple.at_ C_is_tuple.kp C_is_tuple.b .nil pass0 (pa_cons (pv 0) (pa_cons pe_int (pa_cons pe_int pa_nil)))))) (pw_or (pt_not (pt_val (pe_callB (cr_isiK (K := K)) (by rfl) T.m_isinstance (by decide +kernel) (pa_cons (pe_ix (ix_tupK (K := K)) (pv 0) pe_int (fun _ _ => rfl)) (pa_cons (pe_bltn (v := .ty "str") (by rfl) T.m_str (by decide +kernel) rfl) pa_nil))))) (pw_or1 (pt_cmpR (op_ninKD (K := K) (w := w) T.sh_SHAPES.1) (pe_ix (ix_tupK (K := K)) (pv 0) pe_int (fun _ _ => rfl)) (pe_glob (v := .ref c_SHAPES) (by rfl) T.g_SHAPES rfl) (by rfl)))))) (pss_one (ps_ret pe_bl)) pss_nil)
      (pss_cons (ps_set (i := 2) sc_is_instruction.nd rfl (by first | exact .inl rfl | exact .inr rfl) (pe_ix (ix_kdK (K := K) (w := w)) (pe_glob (v := .ref c_SHAPES) (by rfl) T.g_SHAPES rfl) (pe_ix (ix_tupK (K := K)) (pv 0) pe_int (fun _ _ => rfl)) (fun _ _ => rfl)))
      (pss_cons (ps_if (pt_cmpR op_ne (pe_callB (cr_lenK (K := K)) (by rfl) T.m_len (by decide +kernel) (pa_cons (pv 0) pa_nil)) (pe_op op_add (pe_callB cr_lenS (by rfl) T.m_len (by decide +kernel) (pa_cons (pv 2) pa_nil)) pe_int) (nomark _)) (pss_one (ps_ret pe_bl)) pss_nil)
      (pss_one (ps_ret (pe_callB (cr_allK (K := K) rfl) (by rfl) T.m_all (by decide +kernel) (pa_cons (pe_lc rfl sc_is_instruction.nd (castPI (K := K) (wi := fun K => iZipS K _) (pi_zipTx (by rfl) T.m_zip (pa_cons (pv 2) (pa_cons (pe_slice (sl_tupAK (K := K)) (pv 0) (po_some pe_int) po_none) pa_nil)))) (blkOk_by (own := [("sign", 3), ("inner", 4)]) (N := ["thing", "machine", "shape", "sign", "inner"]) (sc := (defScope s_is_instruction)) (by decide +kernel)) (fun _ _ _ _ _ => (castPG (K := K) (n := 2) (pg_tup rfl (pgs_cons (pg_name (i := 3) sc_is_instruction.nd rfl (by first | exact .inl rfl | exact .inr rfl)) (pgs_cons (pg_name (i := 4) sc_is_instruction.nd rfl (by first | exact .inl rfl | exact .inr rfl)) pgs_nil))))) (fun _ _ _ _ _ => pts_nil) (fun _ _ _ _ _ => (pe_meth (pv 1) T.cl_Machine C_Machine_fits.me C_Machine_fits.ok (hr.mono (by decide)) C_Machine_fits.b .nil pass0 (pa_cons (pv 3) (pa_cons (pv 4) pa_nil))))) pa_nil))))))), ?_⟩
    have l4 : (cs sh).length ≤ 4 := shape_small _ msh
    have lcs := cs_len sh
    have lsm : sh.length ≤ 1000 := by omega
    have lu := al.1
    walk_at "st"
    walk_at "if"
    refine ⟨t, _, 1, 5, rfl, ht, by rw [List.length_cons]; omega, by rw [List.length_cons]; omega, ?_⟩
    have ix : atI (V.str y.1 :: us) 0 = some (.str y.1) := (show atI _ ((0 : Nat) : Int) = _ from atI_nat rfl)
    walk_at "st"
    obtain ⟨tk, etk⟩ := T.sh_SHAPES.2 _ msh
    refine ⟨y.1, _, rfl, rfl, etk, false, rfl, ?_⟩
    rw [if_neg (by decide)]
    walk_at "st"
    refine ⟨c_SHAPES, y.1, .str sh, rfl, rfl, T.sh_SHAPES.get msh, ?_⟩
    walk_at "st"
    walk_at "if"
    rw [if_neg (by
      rw [List.length_cons, show us.length = sh.length by omega]
      simp)]
    walk_at "st"
    refine r_izs ?_
    walk_at "st"
    refine r_slX (SqT.of ht) fun p1 H1 s1 h1 => ?_
    rw [cut_from1] at h1
    walk_at "st"
    refine r_zxs h1 ?_
    intro D hD
    have mv1 := mv.same s1
    refine lc_map (walk_zipS (a := sh) (b := p1) (ys := us) rfl) (by rw [Nat.min_def]; split <;> omega) hD (fun i y _ => y = .bl true) (fun _ _ _ _ h _ => h) (fun _ _ _ _ _ h _ => h) (fun H' k => sqT_to h1 k) (fun i H1 x H2 y => ?_)
      (fun i v H2 H3 Y No hi s2 yy hY => ?_) (fun ys H2 el s2 eD hys => ?_)
    · obtain ⟨T2, x1, y1, rfl, nt, rfl, _⟩ := y
      exact Same.upd_new nt
    · obtain ⟨T2, x1, y1, rfl, nt, rfl, e1, e2⟩ := yy
      have e1 : sh.cps[i]?.map (fun c => V.str ⟨#[c]⟩) = some x1 := e1
      cases ec : sh.cps[i]? with
      | none => rw [ec] at e1; cases e1
      | some c =>
        rw [ec] at e1
        obtain rfl : V.str ⟨#[c]⟩ = x1 := Option.some.inj e1
        obtain ⟨a, ea, ra⟩ := al.2 i y1 e2
        have ecs : (cs sh)[i]? = some c := by
          show sh.cps.toList[i]? = some c
          rw [Array.getElem?_toList]; exact ec
        have s3 := s2.trans (Same.upd_new (x := .tup [.str ⟨#[c]⟩, y1]) nt)
        refine ⟨T2, _, rfl, SqT.of upd_same, rfl, _, _, rfl, _, _, rfl, rfl, ?_⟩
        refine ⟨rfl, ?_⟩
        have mv3 := mv1.same s3
        obtain ⟨dx, kn, hx3, _⟩ := id mv3
        refine ⟨_, rfl, x, dx, macF kn many p, rfl, hx3, mac_no kn many p (by decide +kernel) (by decide +kernel) (by decide +kernel), ?_⟩
        walk_at "st"
        exact ⟨x, hid, many, p, c, y1, a, rfl, mv3, (ra.same s1).same s3, ft i c a ecs ea, fun H' s4 => hY _ _ s4 rfl⟩
    · have e1 := all_trues hys
      rw [e1] at eD
      walk_at "st"
      rw [all_rep]
      exact q _ (s1.trans s2)
end
local macro_rules | `(tactic| walk_at "ssz") => `(tactic| first | decide | exact str_small (by assumption) | (have : (1000000 : Nat) ≤ sizeLine := (by decide); omega))
local macro_rules | `(tactic| walk_at "st1") => `(tactic| first
  | with_reducible refine' r_nt ?_ | with_reducible refine' r_nf ?_
  | ((with_reducible refine r_lenS ?e1 ?_); (case e1 => walk_at "ssz"))
  | with_reducible refine r_inS ?_
  | with_reducible refine r_ninS ?_
  | ((with_reducible refine r_addS ?e1 ?_); (case e1 => walk_at "ssz"))
  | ((with_reducible refine' r_ixS ?e1 ?e2 ?_); (case e1 => walk_at "ssz"); (case e2 => first | assumption | rfl))
  | with_reducible refine r_istr ?_
  | with_reducible refine r_is ?_
  | with_reducible refine r_un ?_
  | with_reducible refine r_u ?_)
local macro_rules | `(tactic| walk_at "st1") => `(tactic| first
  | with_reducible refine r_tru ?_
  | ((with_reducible refine' r_truT ?e1 ?_); (case e1 => walk_at "sq"))
  | with_reducible refine r_isN ?_
  | with_reducible refine r_tyS ?_
  | with_reducible refine r_m1 ?_
  | with_reducible refine r_sx ?_
  | ((with_reducible refine r_strC ?e1 ?_); (case e1 => omega)))
local macro_rules | `(tactic| walk_at "st1") => `(tactic| first
  | with_reducible refine r_par ?_
  | with_reducible refine r_parx ?_
  | ((with_reducible refine' r_gtup ?e1 ?e2 ?_); (case e1 => walk_at "sq"); (case e2 => rfl))
  | with_reducible refine r_gcons ?_
  | with_reducible refine r_gnil ?_
  | with_reducible refine r_ient ?_
  | ((with_reducible refine' r_ent ?e1 ?_); (case e1 => walk_at "sq")))
local macro_rules | `(tactic| walk_at "st1") => `(tactic| first
  | with_reducible refine' r_nt ?_
  | with_reducible refine' r_nf ?_
  | with_reducible refine r_un ?_
  | with_reducible refine r_u ?_)
local macro_rules | `(tactic| walk_at "st1") => `(tactic| first
  | with_reducible refine r_fld ?_
  | with_reducible refine r_sfld ?_
  | ((with_reducible refine' r_fldr ?e1 ?e2 ?e3 ?e4 ?_); (case e1 => walk_at "hl"); (case e2 => assumption); (case e3 => assumption); (case e4 => assumption)))
/-! ### the goals of an instruction that waits for nothing -/
def stopL : List Str := ["pick", "take", "ret", "fail"]
def firstG : List Arg → List Nat
  | [.n i] => [i.toNat]
  | _ => []
def lastG : List Arg → List Nat
  | [_, _, _, .n i] => [i.toNat]
  | _ => []
def idleG (x : Ins) (k n : Nat) : List Nat := if x.1 ∈ stopL then [] else if x.1 = "go" then firstG x.2 else (if k + 1 < n then [k + 1] else []) ++ if x.1 = "ask" then lastG x.2 else []
def CodeV (H : Hp) (v : V) (code : List Ins) : Prop := ∃ (t : Addr) (us : List V), v = .ref t ∧ H t = some (.tup us) ∧ Al (InsV H) us code
theorem CodeV.same {H H' : Hp} {v : V} {code : List Ins} (h : CodeV H v code) (k : Same H H') : CodeV H' v code := by
  obtain ⟨t, us, e, ht, al⟩ := h
  exact ⟨t, us, e, k _ _ ht, al.imp fun u a h => h.same k⟩
theorem go_args {hid : Nat} {many p : Int} {args : List Arg} (g : GoodI hid many p ("go", args)) : ∃ i : Int, args = [.n i] ∧ 0 ≤ i ∧ i < many := by
  obtain ⟨sh, m, l, ft⟩ := g
  have e : sh = "t" := by
    revert m
    simp only [shapesS, List.mem_cons, Prod.mk.injEq, List.not_mem_nil, or_false]
    intro m
    rcases m with ⟨e, h⟩ | ⟨e, h⟩ | ⟨e, h⟩ | ⟨e, h⟩ | ⟨e, h⟩ | ⟨e, h⟩ | ⟨e, h⟩ | ⟨e, h⟩ | ⟨e, h⟩ | ⟨e, h⟩ | ⟨e, h⟩ | ⟨e, h⟩ | ⟨e, h⟩ <;> first | exact h | exact absurd e (by decide)
  subst e
  match args, l with
  | [a], _ =>
    cases ft 0 116 a rfl rfl with
    | t h => exact ⟨_, rfl, h.1, h.2⟩
theorem ask_args {hid : Nat} {many p : Int} {args : List Arg} (g : GoodI hid many p ("ask", args)) : ∃ (a b : Str) (m i : Int), args = [.w a, .w b, .n m, .n i] ∧ NameS a ∧ NameS b ∧ (0 ≤ m ∧ m < 4) ∧ 0 ≤ i ∧ i < many := by
  obtain ⟨sh, m, l, ft⟩ := g
  have e : sh = "ddmt" := by
    revert m
    simp only [shapesS, List.mem_cons, Prod.mk.injEq, List.not_mem_nil, or_false]
    intro m
    rcases m with ⟨e, h⟩ | ⟨e, h⟩ | ⟨e, h⟩ | ⟨e, h⟩ | ⟨e, h⟩ | ⟨e, h⟩ | ⟨e, h⟩ | ⟨e, h⟩ | ⟨e, h⟩ | ⟨e, h⟩ | ⟨e, h⟩ | ⟨e, h⟩ | ⟨e, h⟩ <;> first | exact h | exact absurd e (by decide)
  subst e
  match args, l with
  | [a, b, c, d], _ =>
    cases ft 0 100 a rfl rfl with
    | d h1 =>
      cases ft 1 100 b rfl rfl with
      | d h2 =>
        cases ft 2 109 c rfl rfl with
        | m h3 =>
          cases ft 3 116 d rfl rfl with
          | t h4 => exact ⟨_, _, _, _, rfl, h1, h2, h3, h4.1, h4.2⟩
theorem idle_ok {hid n k : Nat} {p : Int} {x : Ins} (g : GoodI hid (n : Nat) p x) : (idleG x k n).length ≤ 10 ∧ ∀ j ∈ idleG x k n, j < n := by
  obtain ⟨op, args⟩ := x
  unfold idleG
  by_cases h1 : op ∈ stopL
  · rw [if_pos h1]; exact ⟨by simp, fun j m => by simp at m⟩
  rw [if_neg h1]
  by_cases h2 : op = "go"
  · subst h2
    obtain ⟨i, rfl, i0, i1⟩ := go_args g
    rw [if_pos rfl]
    refine ⟨by simp [firstG], fun j m => ?_⟩
    rw [show firstG [.n i] = [i.toNat] from rfl, List.mem_singleton] at m
    omega
  rw [if_neg h2]
  have a1 : (if k + 1 < n then [k + 1] else []).length ≤ 1 ∧ ∀ j ∈ (if k + 1 < n then [k + 1] else []), j < n := by
    split
    · exact ⟨by simp, fun j m => by rw [List.mem_singleton.mp m]; assumption⟩
    · exact ⟨by simp, fun j m => by simp at m⟩
  by_cases h3 : op = "ask"
  · subst h3
    obtain ⟨a, b, m, i, rfl, _, _, _, i0, i1⟩ := ask_args g
    rw [if_pos rfl]
    refine ⟨by rw [List.length_append]; have := a1.1; show _ + 1 ≤ 10; omega, fun j m => ?_⟩
    rcases List.mem_append.mp m with m | m
    · exact a1.2 j m
    · rw [show lastG [.w a, .w b, .n _, .n i] = [i.toNat] from rfl, List.mem_singleton] at m
      omega
  · rw [if_neg h3, List.append_nil]
    exact ⟨by have := a1.1; omega, a1.2⟩
theorem r_joinI {c : Prop} [Decidable c] {t1 t2 : TE} {σ1 σ2 : L2.St} {H1 H2 : Hp} {Q : VK} (G : V → Hp → Prop) (h2 : ∀ v H', G v H' → Q v H') (h1 : ∀ Q' : VK, (∀ v H', G v H' → Q' v H') → if c then t1 σ1 H1 Q' else t2 σ2 H2 Q') : if c then t1 σ1 H1 Q else t2 σ2 H2 Q := h1 Q h2
theorem sm_none {H H' : Hp} {a : Addr} (k : Same H H') (e : H' a = none) : H a = none := by
  cases h : H a with
  | none => rfl
  | some o => rw [k _ _ h] at e; cases e
def sp_idle_goals (_ : PySem.W.Frag) : Sp := fun vs H Q _ => ∃ (v : V) (k hid : Nat) (p : Int) (code : List Ins) (x : Ins), vs = [v, .int (k : Nat)] ∧ CodeV H v code ∧ code[k]? = some x ∧ GoodI hid (code.length : Nat) p x ∧ code.length ≤ 1000 ∧
  ∀ l H', Same H H' → H l = none → H' l = some (.lst ((idleG x k code.length).map fun (n : Nat) => V.int n)) → Q (.ref l) H'
section
variable {P : Program} {w : World} {K : PySem.W.Frag} {mg : Str → Option Value} {base : Heap}
theorem ok_idle_goals {c_Coded : Addr} {c_Machine : Addr} {c_CodeReader : Addr} {c_REGISTERS : Addr} {c_CELLS : Addr} {c_SHAPES : Addr} (T : Tx K mg c_Coded c_Machine c_CodeReader c_REGISTERS c_CELLS c_SHAPES w)  {f : Addr} {fd : FuncData} (F : Here K mg "idle_goals" s_idle_goals ["code", "at"] f fd) : Cal P w K mg base "idle_goals" 1 ["code", "at"] (sp_idle_goals K) s_idle_goals f fd := by
  refine F.cal sc_idle_goals (fun vs H Q E h => ?_) (fun cdv A outer s H vs Q E hr h => ?_)
  · obtain ⟨v, k, hid, p, code, x, rfl, _⟩ := h
    rfl
  · obtain ⟨v, k, hid, p, code, ⟨op, args⟩, rfl, ⟨t, us, rfl, ht, al⟩, ex, g, lc, q⟩ := h
    refine ⟨_, (pss_cons (ps_set (i := 2) sc_idle_goals.nd rfl (by first | exact .inl rfl | exact .inr rfl) (pe_ix (ix_tupK (K := K)) (pv 0) (pv 1) (fun _ _ => rfl)))
      (pss_cons (ps_if (pt_cmpR (op_inSeqK (K := K)) (pe_ix (ix_tupK (K := K)) (pv 2) pe_int (fun _ _ => rfl)) (pe_tup (pa_cons pe_str (pa_cons pe_str (pa_cons pe_str (pa_cons pe_str pa_nil))))) (by rfl)) (pss_one (ps_ret (pe_lst pa_nil))) pss_nil)
      (pss_cons (ps_if (pt_cmpR op_eq (pe_ix (ix_tupK (K := K)) (pv 2) pe_int (fun _ _ => rfl)) pe_str (nomark _)) (pss_one (ps_ret (pe_lst (pa_cons (pe_ix (ix_tupK (K := K)) (pv 2) pe_int (fun _ _ => rfl)) pa_nil)))) pss_nil)
      (pss_cons (ps_set (i := 3) sc_idle_goals.nd rfl (by first | exact .inl rfl | exact .inr rfl) (pe_ifExp (pt_cmpR op_lt (pe_op op_add (pv 1) pe_int) (pe_callB (cr_lenK (K := K)) (by rfl) T.m_len (by decide +kernel) (pa_cons (pv 0) pa_nil)) (nomark _)) (pe_lst (pa_cons (pe_op op_add (pv 1) pe_int) pa_nil)) (pe_lst pa_nil)))
      (pss_one (ps_ret (pe_ifExp (pt_cmpR op_eq (pe_ix (ix_tupK (K := K)) (pv 2) pe_int (fun _ _ => rfl)) pe_str (nomark _)) (pe_op op_cat (pv 3) (pe_lst (pa_cons (pe_ix (ix_tupK (K := K)) (pv 2) pe_int (fun _ _ => rfl)) pa_nil))) (pv 3)))))))), ?_⟩
    obtain ⟨u, eu, t2, as, rfl, h2, al2⟩ := al.at ex
    have ixk : atI us ((k : Nat) : Int) = some (.ref t2) := atI_nat eu
    have ix0 : atI (V.str op :: as) 0 = some (.str op) := (show atI _ ((0 : Nat) : Int) = _ from atI_nat rfl)
    have lu := al.1
    walk_at "st"
    walk_at "if"
    intro ps hps
    have s1 := Same.upd_new (x := .tup (stopL.map V.str)) hps
    have es : upd H ps (.tup (stopL.map V.str)) ps = some (.tup (stopL.map V.str)) := upd_same
    show rIn K false (V.str op) (V.ref ps) (upd H ps (.tup (stopL.map V.str))) _
    generalize upd H ps (.tup (stopL.map V.str)) = H1 at *
    have ht1 := s1 _ _ ht
    have h21 := s1 _ _ h2
    refine ⟨ps, _, rfl, .inr (SqT.of es), rfl, rfl, decide (op ∈ stopL), by rw [if_neg (by decide), in_strs], ?_⟩
    unfold idleG at q
    by_cases c1 : op ∈ stopL
    · rw [if_pos c1] at q
      rw [decide_eq_true c1, if_pos rfl]
      walk_at "st"
      intro l hl
      exact q l _ (s1.trans (Same.upd_new hl)) (sm_none s1 hl) upd_same
    rw [if_neg c1] at q
    rw [decide_eq_false c1, if_neg (by decide)]
    have dstr : ∀ z : Str, decide (V.str op = V.str z) = decide (op = z) := fun z => decide_eq_decide.mpr ⟨fun e => by injection e, fun e => by rw [e]⟩
    walk_at "st"
    walk_at "if"
    rw [dstr]
    by_cases c2 : op = "go"
    · subst c2
      rw [if_pos rfl] at q
      obtain ⟨i, rfl, i0, i1⟩ := go_args g
      rw [decide_eq_true rfl, if_pos rfl]
      match as, al2 with
      | [], al2 => have := al2.1; simp at this
      | a0 :: as0, al2 =>
        obtain rfl : a0 = .int i := al2.tail.1
        have ix1 : atI (V.str "go" :: V.int i :: as0) 1 = some (.int i) := (show atI _ ((1 : Nat) : Int) = _ from atI_nat rfl)
        walk_at "st"
        intro l hl
        refine q l _ (s1.trans (Same.upd_new hl)) (sm_none s1 hl) ?_
        rw [upd_same]
        show some (HO.lst [V.int i]) = some (.lst [V.int ((i.toNat : Nat) : Int)])
        rw [Int.toNat_of_nonneg i0]
    rw [if_neg c2] at q
    rw [decide_eq_false c2, if_neg (by decide)]
    walk_at "st"
    refine r_joinI (fun v H' => ∃ lf, v = .ref lf ∧ Same H1 H' ∧ H1 lf = none ∧ H' lf = some (.lst ((if k + 1 < code.length then [k + 1] else []).map fun (n : Nat) => V.int n))) (fun v H2 g2 => ?_) (fun Q' hQ => ?_)
    case refine_2 =>
      have e : decide (((k : Nat) : Int) + 1 < (us.length : Nat)) = decide (k + 1 < code.length) := decide_eq_decide.mpr (by omega)
      rw [e]
      by_cases c : k + 1 < code.length
      · rw [decide_eq_true c, if_pos rfl]
        walk_at "st"
        intro l hl
        exact hQ _ _ ⟨l, rfl, Same.upd_new hl, hl, by rw [if_pos c, upd_same]; rfl⟩
      · rw [decide_eq_false c, if_neg (by decide)]
        walk_at "st"
        intro l hl
        exact hQ _ _ ⟨l, rfl, Same.upd_new hl, hl, by rw [if_neg c]; exact upd_same⟩
    obtain ⟨lf, rfl, s2, nlf, el⟩ := g2
    have h22 := s2 _ _ h21
    walk_at "st"
    rw [dstr]
    by_cases c3 : op = "ask"
    · subst c3
      rw [if_pos rfl] at q
      obtain ⟨wa, wb, m, i, rfl, _, _, _, i0, i1⟩ := ask_args g
      rw [decide_eq_true rfl, if_pos rfl]
      obtain ⟨u4, eu4, hu4⟩ := al2.at (i := 3) (x := .n i) rfl
      obtain rfl : u4 = .int i := hu4
      have ix4 : atI (V.str "ask" :: as) 4 = some (.int i) := (show atI _ ((4 : Nat) : Int) = _ from atI_nat (by simpa using eu4))
      walk_at "st"
      intro l hl
      have lq : ((if k + 1 < code.length then [k + 1] else []).map fun (n : Nat) => V.int n).length ≤ 1 := by
        rw [List.length_map]; split <;> simp
      refine ⟨lf, l, _, _, rfl, rfl, hl_new el hl, upd_same, Nat.le_trans (Nat.add_le_add lq (Nat.le_refl 1)) (by decide), fun p3 hp3 => ?_⟩
      refine q p3 _ (((s1.trans s2).trans (Same.upd_new hl)).trans (Same.upd_new hp3)) (sm_none ((s1.trans s2).trans (Same.upd_new hl)) hp3) ?_
      rw [upd_same, List.map_append]
      show some (HO.lst (_ ++ [V.int i])) = some (.lst (_ ++ [V.int ((i.toNat : Nat) : Int)]))
      rw [Int.toNat_of_nonneg i0]
    · rw [if_neg c3, List.append_nil] at q
      rw [decide_eq_false c3, if_neg (by decide)]
      walk_at "st"
      exact q lf _ (s1.trans s2) (sm_none s1 nlf) el
end
local macro_rules | `(tactic| walk_at "ssz") => `(tactic| first | decide | exact str_small (by assumption) | (have : (1000000 : Nat) ≤ sizeLine := (by decide); omega))
local macro_rules | `(tactic| walk_at "st1") => `(tactic| first
  | with_reducible refine' r_nt ?_ | with_reducible refine' r_nf ?_
  | ((with_reducible refine r_lenS ?e1 ?_); (case e1 => walk_at "ssz"))
  | with_reducible refine r_inS ?_
  | with_reducible refine r_ninS ?_
  | ((with_reducible refine r_addS ?e1 ?_); (case e1 => walk_at "ssz"))
  | ((with_reducible refine' r_ixS ?e1 ?e2 ?_); (case e1 => walk_at "ssz"); (case e2 => first | assumption | rfl))
  | with_reducible refine r_istr ?_
  | with_reducible refine r_is ?_
  | with_reducible refine r_un ?_
  | with_reducible refine r_u ?_)
local macro_rules | `(tactic| walk_at "st1") => `(tactic| first
  | with_reducible refine r_tru ?_
  | ((with_reducible refine' r_truT ?e1 ?_); (case e1 => walk_at "sq"))
  | with_reducible refine r_isN ?_
  | with_reducible refine r_tyS ?_
  | with_reducible refine r_m1 ?_
  | with_reducible refine r_sx ?_
  | ((with_reducible refine r_strC ?e1 ?_); (case e1 => omega)))
local macro_rules | `(tactic| walk_at "st1") => `(tactic| first
  | with_reducible refine r_par ?_
  | with_reducible refine r_parx ?_
  | ((with_reducible refine' r_gtup ?e1 ?e2 ?_); (case e1 => walk_at "sq"); (case e2 => rfl))
  | with_reducible refine r_gcons ?_
  | with_reducible refine r_gnil ?_
  | with_reducible refine r_ient ?_
  | ((with_reducible refine' r_ent ?e1 ?_); (case e1 => walk_at "sq")))
local macro_rules | `(tactic| walk_at "st1") => `(tactic| first
  | with_reducible refine' r_nt ?_
  | with_reducible refine' r_nf ?_
  | with_reducible refine r_un ?_
  | with_reducible refine r_u ?_)
local macro_rules | `(tactic| walk_at "st1") => `(tactic| first
  | with_reducible refine r_fld ?_
  | with_reducible refine r_sfld ?_
  | ((with_reducible refine' r_fldr ?e1 ?e2 ?e3 ?e4 ?_); (case e1 => walk_at "hl"); (case e2 => assumption); (case e3 => assumption); (case e4 => assumption)))
/-! ### deeds -/
def goalsG (code : List Ins) : List (List Nat) := (List.range code.length).map fun k => match code[k]? with
  | some x => idleG x k code.length
  | none => []
theorem goals_at {code : List Ins} {k : Nat} {x : Ins} (e : code[k]? = some x) : (goalsG code)[k]? = some (idleG x k code.length) := by
  have lk := (List.getElem?_eq_some_iff.mp e).1
  unfold goalsG
  rw [List.getElem?_map, List.getElem?_range lk]
  show some (match code[k]? with
    | some x => idleG x k code.length
    | none => []) = _
  rw [e]
theorem goals_in {code : List Ins} {g : List Nat} (m : g ∈ goalsG code) : ∃ (k : Nat) (x : Ins), code[k]? = some x ∧ g = idleG x k code.length := by
  obtain ⟨k, mk, e⟩ := List.mem_map.mp m
  have lk := List.mem_range.mp mk
  have ex : code[k]? = some code[k] := List.getElem?_eq_getElem lk
  rw [ex] at e
  exact ⟨k, code[k], ex, e.symm⟩
def DeedV (H : Hp) (v : V) (d : Deed) : Prop := ∃ (t : Addr) (c : V), v = .ref t ∧ H t = some (.tup [.str d.1, .int d.2.1, c]) ∧ CodeV H c d.2.2
theorem DeedV.same {H H' : Hp} {v : V} {d : Deed} (h : DeedV H v d) (k : Same H H') : DeedV H' v d := by
  obtain ⟨t, c, e, ht, hc⟩ := h
  exact ⟨t, c, e, k _ _ ht, hc.same k⟩
structure GoodD (hid : Nat) (p : Int) (d : Deed) : Prop where
  name : NameS d.1
  many : 0 ≤ d.2.1 ∧ d.2.1 < 4
  len : d.2.2.length ≤ 400
  ins : ∀ x ∈ d.2.2, GoodI hid (d.2.2.length : Nat) p x
  acyc : Acyc (goalsG d.2.2)
theorem r_mkT {C : Addr} {sp : Sp} {dvs : List V} {E : XK} {t : TA} {σ : L2.St} {H : Hp} {Q : VK} (h : t σ H fun vs H1 => ∀ x dx, H1 x = none → H1 dx = none → dx ≠ x → sp (.ref x :: (vs ++ dvs)) (upd (upd H1 dx (.own x)) x (.ins C dx [])) (fun v H2 => v = .non ∧ Q (.ref x) H2) E) : tMake C sp dvs E t σ H Q := h
def sp_is_deed (_ : PySem.W.Frag) : Sp := fun vs H Q _ => ∃ (v : V) (hid : Nat) (p : Int) (d : Deed), vs = [v, .int (hid : Nat), .int p] ∧ DeedV H v d ∧ hid ≤ 3 ∧ GoodD hid p d ∧ ∀ H', Same H H' → Q (.bl true) H'
section
variable {P : Program} {w : World} {K : PySem.W.Frag} {mg : Str → Option Value} {base : Heap}
theorem ok_is_deed {c_Coded : Addr} {c_Machine : Addr} {c_CodeReader : Addr} {c_REGISTERS : Addr} {c_CELLS : Addr} {c_SHAPES : Addr} (T : Tx K mg c_Coded c_Machine c_CodeReader c_REGISTERS c_CELLS c_SHAPES w) {f_Machine___init__ : Addr} {fd_Machine___init__ : FuncData} (C_Machine___init__ : CalI P w K mg base c_Machine "__init__" 1 ["self", "hidden", "many", "p"] (sp_Machine___init__ K c_Machine) s_Machine___init__ f_Machine___init__ fd_Machine___init__) {f_is_tuple : Addr} {fd_is_tuple : FuncData} (C_is_tuple : Cal P w K mg base "is_tuple" 1 ["thing", "least", "most"] (sp_is_tuple K) s_is_tuple f_is_tuple fd_is_tuple) {f_leads_round : Addr} {fd_leads_round : FuncData} (C_leads_round : Cal P w K mg base "leads_round" 1 ["goals"] (sp_leads_round K) s_leads_round f_leads_round fd_leads_round) {f_is_name : Addr} {fd_is_name : FuncData} (C_is_name : Cal P w K mg base "is_name" 2 ["thing"] (sp_is_name K) s_is_name f_is_name fd_is_name) {f_is_number : Addr} {fd_is_number : FuncData} (C_is_number : Cal P w K mg base "is_number" 2 ["thing", "p"] (sp_is_number K) s_is_number f_is_number fd_is_number) {f_is_instruction : Addr} {fd_is_instruction : FuncData} (C_is_instruction : Cal P w K mg base "is_instruction" 5 ["thing", "machine"] (sp_is_instruction K c_Machine) s_is_instruction f_is_instruction fd_is_instruction) {f_idle_goals : Addr} {fd_idle_goals : FuncData} (C_idle_goals : Cal P w K mg base "idle_goals" 1 ["code", "at"] (sp_idle_goals K) s_idle_goals f_idle_goals fd_idle_goals) {f : Addr} {fd : FuncData} (F : Here K mg "is_deed" s_is_deed ["thing", "hidden", "p"] f fd) : Cal P w K mg base "is_deed" 6 ["thing", "hidden", "p"] (sp_is_deed K) s_is_deed f fd := by
  refine F.cal sc_is_deed (fun vs H Q E h => ?_) (fun cdv A outer s H vs Q E hr h => ?_)
  · obtain ⟨v, hid, p, d, rfl, _⟩ := h
    rfl
  · obtain ⟨v, hid, p, ⟨nm, many, code⟩, rfl, ⟨t, c, rfl, ht, tc, us, rfl, hc, al⟩, lh, g, q⟩ := h
    refine ⟨_, (pss_cons (ps_if (pt_not (pt_val (pe_call C_is_tuple.ok (hr.mono (by decide)) (by rfl) C_is_tuple.at_ C_is_tuple.kp C_is_tuple.b .nil pass0 (pa_cons (pv 0) (pa_cons pe_int (pa_cons pe_int pa_nil)))))) (pss_one (ps_ret pe_bl)) pss_nil)
      (pss_cons (ps_asg (pv 0) (castPG (K := K) (n := 3) (pg_tup rfl (pgs_cons (pg_name (i := 3) sc_is_deed.nd rfl (by first | exact .inl rfl | exact .inr rfl)) (pgs_cons (pg_name (i := 4) sc_is_deed.nd rfl (by first | exact .inl rfl | exact .inr rfl)) (pgs_cons (pg_name (i := 5) sc_is_deed.nd rfl (by first | exact .inl rfl | exact .inr rfl)) pgs_nil))))))
      (pss_cons (ps_if (PW.pt (pw_or (pt_not (pt_val (pe_call C_is_name.ok (hr.mono (by decide)) (by rfl) C_is_name.at_ C_is_name.kp C_is_name.b .nil pass0 (pa_cons (pv 3) pa_nil)))) (pw_or (pt_not (pt_val (pe_call C_is_number.ok (hr.mono (by decide)) (by rfl) C_is_number.at_ C_is_number.kp C_is_number.b .nil pass0 (pa_cons (pv 4) (pa_cons (pe_op op_add (pe_glob (v := .int 3) (by rfl) (T.c_MOST_NUMBERS).choose_spec ⟨_, rfl⟩) pe_int) pa_nil))))) (pw_or1 (pt_not (pt_val (pe_call C_is_tuple.ok (hr.mono (by decide)) (by rfl) C_is_tuple.at_ C_is_tuple.kp C_is_tuple.b .nil pass0 (pa_cons (pv 5) (pa_cons pe_int (pa_cons (pe_glob (v := .int 400) (by rfl) (T.c_MOST_CODE).choose_spec ⟨_, rfl⟩) pa_nil)))))))))) (pss_one (ps_ret pe_bl)) pss_nil)
      (pss_cons (ps_set (i := 6) sc_is_deed.nd rfl (by first | exact .inl rfl | exact .inr rfl) (pe_make C_Machine___init__.mkk C_Machine___init__.ok (hr.mono (by decide)) (by rfl) T.g_Machine C_Machine___init__.b .nil pass0 (pa_cons (pv 1) (pa_cons (pe_callB (cr_lenK (K := K)) (by rfl) T.m_len (by decide +kernel) (pa_cons (pv 5) pa_nil)) (pa_cons (pv 2) pa_nil)))))
      (pss_cons (ps_if (pt_not (pt_val (pe_callB (cr_allK (K := K) rfl) (by rfl) T.m_all (by decide +kernel) (pa_cons (pe_lc rfl sc_is_deed.nd (pi_tupK (K := K) (pv 5)) (blkOk_by (own := [("step", 7)]) (N := ["thing", "hidden", "p", "name", "many", "code", "machine", "step", "at"]) (sc := (defScope s_is_deed)) (by decide +kernel)) (fun _ _ _ _ _ => (pg_name (i := 7) sc_is_deed.nd rfl (by first | exact .inl rfl | exact .inr rfl))) (fun _ _ _ _ _ => pts_nil) (fun _ _ _ _ _ => (pe_call C_is_instruction.ok (hr.mono (by decide)) (by rfl) C_is_instruction.at_ C_is_instruction.kp C_is_instruction.b .nil pass0 (pa_cons (pv 7) (pa_cons (pv 6) pa_nil))))) pa_nil)))) (pss_one (ps_ret pe_bl)) pss_nil)
      (pss_one (ps_ret (pe_not (pe_call C_leads_round.ok (hr.mono (by decide)) (by rfl) C_leads_round.at_ C_leads_round.kp C_leads_round.b .nil pass0 (pa_cons (pe_lc rfl sc_is_deed.nd (pi_range1 (by rfl) T.m_range (pa_cons (pe_callB (cr_lenK (K := K)) (by rfl) T.m_len (by decide +kernel) (pa_cons (pv 5) pa_nil)) pa_nil)) (blkOk_by (own := [("at", 8)]) (N := ["thing", "hidden", "p", "name", "many", "code", "machine", "step", "at"]) (sc := (defScope s_is_deed)) (by decide +kernel)) (fun _ _ _ _ _ => (pg_name (i := 8) sc_is_deed.nd rfl (by first | exact .inl rfl | exact .inr rfl))) (fun _ _ _ _ _ => pts_nil) (fun _ _ _ _ _ => (pe_call C_idle_goals.ok (hr.mono (by decide)) (by rfl) C_idle_goals.at_ C_idle_goals.kp C_idle_goals.b .nil pass0 (pa_cons (pv 5) (pa_cons (pv 8) pa_nil))))) pa_nil)))))))))), ?_⟩
    have al : Al (InsV H) us code := al
    have ht : H t = some (.tup [.str nm, .int many, .ref tc]) := ht
    have lu := al.1
    have g3 : code.length ≤ 400 := g.len
    walk_at "st"
    walk_at "if"
    refine ⟨t, _, 3, 3, rfl, ht, by simp, by simp, ?_⟩
    walk_at "st"
    walk_at "if"
    refine ⟨nm, rfl, g.name, fun H1 s1 => ?_⟩
    walk_at "st"
    refine ⟨many, 3 + 1, rfl, g.many, ?_⟩
    have hc1 := s1 _ _ hc
    walk_at "st"
    refine ⟨tc, us, 0, 400, rfl, hc1, by omega, by omega, ?_⟩
    walk_at "st"
    refine r_mkT ?_
    walk_at "st"
    intro x dx hx hdx nxd
    refine ⟨x, dx, hid, _, p, rfl, upd_same, lh, fun H2 k2 mv => ⟨rfl, ?_⟩⟩
    have s2 : Same H1 H2 := fun b o e => k2 b o (hl_set (ne_of_none e hx) (hl_set (ne_of_none e hdx) e)) (ne_of_none e hx)
    clear k2 nxd hx hdx
    have hc2 := s2 _ _ hc1
    rw [lu] at mv
    have S2 := s1.trans s2
    replace al := al.imp fun u y h => h.same S2
    walk_at "st"
    walk_at "if"
    intro D hD
    refine lc_map (walk_tup (xs := us)) (by omega) hD (fun i y _ => y = .bl true) (fun _ _ _ _ h _ => h) (fun _ _ _ _ _ h _ => h) (fun H' k => SqT.of (k _ _ hc2)) (fun i H1 x H2 y => by rw [y.1]; exact Same.refl _)
      (fun i v H3 H4 Y No hi s3 y hY => ?_) (fun ys H3 el s3 eD hys => ?_)
    · obtain ⟨rfl, ex⟩ := y
      obtain ⟨y, ey, iv⟩ := al.2 i v ex
      refine ⟨rfl, ?_⟩
      walk_at "st"
      exact ⟨v, x, hid, _, p, y, rfl, mv.same s3, iv.same s3, g.ins y (List.mem_of_getElem? ey), fun H' s4 => hY _ _ s4 rfl⟩
    have e1 := all_trues hys
    rw [e1] at eD
    walk_at "st"
    rw [all_rep]
    walk_at "st"
    have hc3 := s3 _ _ hc2
    walk_at "st"
    intro D2 hD2
    have cv : CodeV H3 (.ref tc) code := ⟨tc, us, rfl, hc3, al.imp fun u y h => h.same s3⟩
    refine lc_by (walk_range (lo := 0) (n := ((us.length : Nat) : Int).toNat)) (fun i H' => Same H3 H' ∧ ∃ zs : List V, zs.length = i ∧ H' D2 = some (.lst zs) ∧ ∀ (j : Nat) (v : V), zs[j]? = some v → ∃ gg c, (goalsG code)[j]? = some gg ∧ v = .ref c ∧ c ≠ D2 ∧ H' c = some (.lst (gg.map fun (n : Nat) => V.int n)))
      ⟨Same.upd_new hD2, [], rfl, upd_same, fun j v e => by simp at e⟩ (fun _ _ _ _ => trivial) (fun i v H4 H5 hi z y => ?_) (fun H4 z => ?_)
    · obtain ⟨s4, zs, lz, eD4, hzs⟩ := z
      obtain ⟨rfl, rfl⟩ := y
      have li : i < code.length := by omega
      have ei : code[i]? = some code[i] := List.getElem?_eq_getElem li
      refine ⟨rfl, ?_⟩
      walk_at "st"
      refine ⟨.ref tc, i, hid, p, code, code[i], by show [V.ref tc, V.int (0 + (i : Int))] = _; rw [Int.zero_add], cv.same s4, ei, g.ins _ (List.getElem_mem li), by omega, fun l H6 s6 nl el => ?_⟩
      have eD6 := s6 _ _ eD4
      have nlD : l ≠ D2 := fun e => by rw [e, eD4] at nl; cases nl
      refine ⟨zs, eD6, Nat.lt_of_le_of_lt (show zs.length ≤ 400 by omega) (by decide), fun b o e => hl_set (ne_of_none e hD2) (s6 _ _ (s4 _ _ e)), zs ++ [.ref l], by rw [List.length_append, lz]; rfl, upd_same, fun j v e => ?_⟩
      by_cases c : j < zs.length
      · rw [List.getElem?_append_left c] at e
        obtain ⟨gg, c2, e1, e2, e3, e4⟩ := hzs j v e
        exact ⟨gg, c2, e1, e2, e3, hl_set e3 (s6 _ _ e4)⟩
      · rw [List.getElem?_append_right (by omega)] at e
        have j0 : j - zs.length = 0 := by
          cases h0 : j - zs.length with
          | zero => rfl
          | succ n => rw [h0] at e; simp at e
        rw [j0] at e
        have ji : j = i := by omega
        subst ji
        exact ⟨_, l, goals_at ei, (Option.some.inj (show some (V.ref l) = some v from e)).symm, nlD, hl_set nlD el⟩
    obtain ⟨s4, zs, el4, eD4, hzs⟩ := z
    have gl : GL H4 zs (goalsG code) := ⟨by rw [el4]; unfold goalsG; rw [List.length_map, List.length_range]; omega, fun i v e => by
      obtain ⟨gg, c, e1, e2, _, e4⟩ := hzs i v e
      exact ⟨gg, e1, c, e2, e4⟩⟩
    have lg : (goalsG code).length = code.length := by unfold goalsG; rw [List.length_map, List.length_range]
    walk_at "st"
    refine ⟨D2, zs, goalsG code, rfl, eD4, gl, by omega, fun gg m => ?_, fun gg m j mj => ?_, fun _ H5 s5 => ?_, fun n => absurd g.acyc n⟩
    · obtain ⟨k, x, ex, rfl⟩ := goals_in m
      exact (idle_ok (g.ins x (List.mem_of_getElem? ex))).1
    · obtain ⟨k, x, ex, rfl⟩ := goals_in m
      rw [lg]
      exact (idle_ok (g.ins x (List.mem_of_getElem? ex))).2 j mj
    · walk_at "st"
      exact q _ (((S2.trans s3).trans s4).trans s5)
end
local macro_rules | `(tactic| walk_at "ssz") => `(tactic| first | decide | exact str_small (by assumption) | (have : (1000000 : Nat) ≤ sizeLine := (by decide); omega))
local macro_rules | `(tactic| walk_at "st1") => `(tactic| first
  | with_reducible refine' r_nt ?_ | with_reducible refine' r_nf ?_
  | ((with_reducible refine r_lenS ?e1 ?_); (case e1 => walk_at "ssz"))
  | with_reducible refine r_inS ?_
  | with_reducible refine r_ninS ?_
  | ((with_reducible refine r_addS ?e1 ?_); (case e1 => walk_at "ssz"))
  | ((with_reducible refine' r_ixS ?e1 ?e2 ?_); (case e1 => walk_at "ssz"); (case e2 => first | assumption | rfl))
  | with_reducible refine r_istr ?_
  | with_reducible refine r_is ?_
  | with_reducible refine r_un ?_
  | with_reducible refine r_u ?_)
local macro_rules | `(tactic| walk_at "st1") => `(tactic| first
  | with_reducible refine r_tru ?_
  | ((with_reducible refine' r_truT ?e1 ?_); (case e1 => walk_at "sq"))
  | with_reducible refine r_isN ?_
  | with_reducible refine r_tyS ?_
  | with_reducible refine r_m1 ?_
  | with_reducible refine r_sx ?_
  | ((with_reducible refine r_strC ?e1 ?_); (case e1 => omega)))
local macro_rules | `(tactic| walk_at "st1") => `(tactic| first
  | with_reducible refine r_par ?_
  | with_reducible refine r_parx ?_
  | ((with_reducible refine' r_gtup ?e1 ?e2 ?_); (case e1 => walk_at "sq"); (case e2 => rfl))
  | with_reducible refine r_gcons ?_
  | with_reducible refine r_gnil ?_
  | with_reducible refine r_ient ?_
  | ((with_reducible refine' r_ent ?e1 ?_); (case e1 => walk_at "sq")))
local macro_rules | `(tactic| walk_at "st1") => `(tactic| first
  | with_reducible refine' r_nt ?_
  | with_reducible refine' r_nf ?_
  | with_reducible refine r_un ?_
  | with_reducible refine r_u ?_)
local macro_rules | `(tactic| walk_at "st1") => `(tactic| first
  | with_reducible refine r_fld ?_
  | with_reducible refine r_sfld ?_
  | ((with_reducible refine' r_fldr ?e1 ?e2 ?e3 ?e4 ?_); (case e1 => walk_at "hl"); (case e2 => assumption); (case e3 => assumption); (case e4 => assumption)))
/-! ### what is asked -/
abbrev Ask := Str × Str × Int
def askOf : Ins → Option Ask
  | (op, [.w a, .w b, .n m, .n _]) => if op = "ask" then some (a, b, m) else none
  | _ => none
def keyA (x : Ask) : List Key := [Sum.inr x.1, Sum.inr x.2.1, Sum.inl x.2.2]
theorem keyA_inj {x y : Ask} (h : keyA x = keyA y) : x = y := by
  injection h with h1 h2
  injection h2 with h2 h3
  injection h3 with h3 _
  exact Prod.ext (Sum.inr.inj h1) (Prod.ext (Sum.inr.inj h2) (Sum.inl.inj h3))
theorem ask_of {hid : Nat} {many p : Int} {x : Ins} (g : GoodI hid many p x) (e : x.1 = "ask") : ∃ a : Ask, askOf x = some a ∧ ∃ i : Int, x.2 = [.w a.1, .w a.2.1, .n a.2.2, .n i] := by
  obtain ⟨op, args⟩ := x
  obtain rfl : op = "ask" := e
  obtain ⟨a, b, m, i, rfl, _⟩ := ask_args g
  refine ⟨(a, b, m), ?_, i, rfl⟩
  show (if (Str.ofString "ask") = "ask" then some (a, b, m) else none) = _
  rw [if_pos rfl]
theorem ask_none {x : Ins} (e : ¬ x.1 = "ask") : askOf x = none := by
  obtain ⟨op, args⟩ := x
  unfold askOf
  split
  · rename_i h
    cases h
    rw [if_neg e]
  · rfl
def asksL (ds : List Deed) : List Ask := ds.flatMap fun d => d.2.2.filterMap askOf
/-- unlike triples begin unlike -/
def AsksOk (as : List Ask) : Prop := ∀ x ∈ as, ∀ y ∈ as, x.1 = y.1 → x = y
def AsV (H : Hp) (v : V) (a : Ask) : Prop := ∃ t : Addr, v = .ref t ∧ H t = some (.tup [.str a.1, .str a.2.1, .int a.2.2])
/-- as they are told: in order, each once -/
structure Told (as bs : List Ask) : Prop where
  mem : ∀ x, x ∈ bs ↔ x ∈ as
  ris : (bs.map (·.1)).Pairwise ltS
def DeedsV (H : Hp) (v : V) (ds : List Deed) : Prop := ∃ (t : Addr) (us : List V), v = .ref t ∧ H t = some (.tup us) ∧ Al (DeedV H) us ds
theorem DeedsV.same {H H' : Hp} {v : V} {ds : List Deed} (h : DeedsV H v ds) (k : Same H H') : DeedsV H' v ds := by
  obtain ⟨t, us, e, ht, al⟩ := h
  exact ⟨t, us, e, k _ _ ht, al.imp fun u d h => h.same k⟩
theorem putK_in {kvs : List (List Key × V)} {k : List Key} {v : V} (h : k ∈ kvs.map (fun kv => kv.1)) : (putK kvs k v).map (fun kv => kv.1) = kvs.map (fun kv => kv.1) := by
  unfold putK
  obtain ⟨kv, m, e⟩ := List.mem_map.mp h
  rw [if_pos (List.any_eq_true.mpr ⟨kv, m, decide_eq_true e⟩), List.map_map]
  exact List.map_congr_left fun x _ => by
    show (if x.1 = k then (x.1, v) else x).1 = x.1
    split <;> rfl
theorem putK_out {kvs : List (List Key × V)} {k : List Key} {v : V} (h : k ∉ kvs.map (fun kv => kv.1)) : (putK kvs k v).map (fun kv => kv.1) = kvs.map (fun kv => kv.1) ++ [k] := by
  unfold putK
  rw [if_neg fun z => by
    obtain ⟨kv, m, e⟩ := List.any_eq_true.mp z
    exact h (List.mem_map.mpr ⟨kv, m, of_decide_eq_true e⟩), List.map_append]
  rfl
theorem keys_al {H : Hp} : ∀ {kvs : List (List Key × V)} {bs : List Addr} {as : List Ask}, IsKeys H kvs bs → kvs.map (fun kv => kv.1) = as.map keyA → Al (AsV H) (bs.map V.ref) as
  | _, _, [], .nil, _ => .nil
  | _, _, _ :: _, .nil, e => by simp at e
  | _, _, [], .cons _ _, e => by simp at e
  | _, _, a :: as, .cons hq r, e => by
    rw [List.map_cons, List.map_cons] at e
    injection e with e1 e2
    refine .cons ⟨_, rfl, ?_⟩ (keys_al r e2)
    rw [e1] at hq
    exact hq
theorem Al.perm {α : Type} {R : V → α → Prop} {ys us : List V} (p : ys.Perm us) : ∀ {xs : List α}, Al R us xs → ∃ xs', xs'.Perm xs ∧ Al R ys xs' := by
  induction p with
  | nil => exact fun {xs} h => ⟨xs, .refl _, h⟩
  | @cons a l1 l2 _ ih =>
    intro xs h
    match xs, h with
    | [], h => have := h.1; simp at this
    | x :: xs, h =>
      obtain ⟨xs', p', h'⟩ := ih h.tail.2
      exact ⟨x :: xs', p'.cons x, .cons h.tail.1 h'⟩
  | @swap a b l =>
    intro xs h
    match xs, h with
    | [], h => have := h.1; simp at this
    | [x], h => have := h.1; simp at this
    | x :: y :: xs, h => exact ⟨y :: x :: xs, .swap x y xs, .cons h.tail.2.tail.1 (.cons h.tail.1 h.tail.2.tail.2)⟩
  | trans _ _ ih1 ih2 =>
    intro xs h
    obtain ⟨xs1, p1, h1⟩ := ih2 h
    obtain ⟨xs2, p2, h2⟩ := ih1 h1
    exact ⟨xs2, p2.trans p1, h2⟩
theorem told_of {H : Hp} {ys : List V} {as bs : List Ask} (al : Al (AsV H) ys bs) (p : bs.Perm as) (nd : as.Nodup) (ok : AsksOk as) (ri : ys.Pairwise (fun x y => ¬ (heS H y).cps.toList < (heS H x).cps.toList)) : Told as bs := by
  refine ⟨fun x => p.mem_iff, ?_⟩
  have ndb := p.nodup_iff.mpr nd
  refine List.pairwise_iff_getElem.mpr fun i j hi hj hij => ?_
  rw [List.length_map] at hi hj
  rw [List.getElem_map, List.getElem_map]
  obtain ⟨u, eu, tu, rfl, hu⟩ := al.at (List.getElem?_eq_getElem hi)
  obtain ⟨v, ev, tv, rfl, hv⟩ := al.at (List.getElem?_eq_getElem hj)
  obtain ⟨li, e1⟩ := List.getElem?_eq_some_iff.mp eu
  obtain ⟨lj, e2⟩ := List.getElem?_eq_some_iff.mp ev
  have q := List.pairwise_iff_getElem.mp ri i j li lj hij
  rw [e1, e2, heS_is hu, heS_is hv] at q
  have le := List.not_lt.mp q
  by_cases e : bs[i].1 = bs[j].1
  · have := ok _ (p.mem_iff.mp (List.getElem_mem hi)) _ (p.mem_iff.mp (List.getElem_mem hj)) e
    exact absurd this (List.pairwise_iff_getElem.mp ndb i j hi hj hij)
  · show cs bs[i].1 < cs bs[j].1
    have ne : ¬ cs bs[i].1 = cs bs[j].1 := fun z => e (by rw [← Sx_cs bs[i].1, ← Sx_cs bs[j].1, z])
    exact Classical.byContradiction fun z => ne (List.le_antisymm le (List.not_lt.mp z))
def SeenD (H : Hp) (D : Addr) (seen : List Ask) (n : Nat) : Prop := ∃ (as : List Ask) (kvs : List (List Key × V)), H D = some (.dT kvs) ∧ kvs.map (fun kv => kv.1) = as.map keyA ∧ as.Nodup ∧ (∀ x, x ∈ as ↔ x ∈ seen) ∧ as.length ≤ n
theorem SeenD.same {H H' : Hp} {D : Addr} {seen : List Ask} {n m : Nat} (h : SeenD H D seen n) (k : Same H H') (l : n ≤ m) : SeenD H' D seen m := by
  obtain ⟨as, kvs, e, r1, r2, r3, r4⟩ := h
  exact ⟨as, kvs, k _ _ e, r1, r2, r3, Nat.le_trans r4 l⟩
def sp_asks_in (_ : PySem.W.Frag) : Sp := fun vs H Q _ => ∃ (v : V) (hid : Nat) (p : Int) (ds : List Deed), vs = [v] ∧ DeedsV H v ds ∧ ds.length ≤ 4 ∧ (∀ d ∈ ds, GoodD hid p d) ∧ AsksOk (asksL ds) ∧
  ∀ t us bs H', Same H H' → H' t = some (.tup us) → Al (AsV H') us bs → Told (asksL ds) bs → Q (.ref t) H'
section
variable {P : Program} {w : World} {K : PySem.W.Frag} {mg : Str → Option Value} {base : Heap}
theorem ok_asks_in {c_Coded : Addr} {c_Machine : Addr} {c_CodeReader : Addr} {c_REGISTERS : Addr} {c_CELLS : Addr} {c_SHAPES : Addr} (T : Tx K mg c_Coded c_Machine c_CodeReader c_REGISTERS c_CELLS c_SHAPES w)  {f : Addr} {fd : FuncData} (F : Here K mg "asks_in" s_asks_in ["deeds"] f fd) : Cal P w K mg base "asks_in" 1 ["deeds"] (sp_asks_in K) s_asks_in f fd := by
  refine F.cal sc_asks_in (fun vs H Q E h => ?_) (fun cdv A outer s H vs Q E hr h => ?_)
  · obtain ⟨v, hid, p, ds, rfl, _⟩ := h
    rfl
  · obtain ⟨v, hid, p, ds, rfl, ⟨td, us, rfl, htd, al⟩, ld, g, ao, q⟩ := h
    refine ⟨_, (pss_cons (ps_set (i := 1) sc_asks_in.nd rfl (by first | exact .inl rfl | exact .inr rfl) pe_dnewT)
      (pss_cons (ps_for PassesOwn.never rfl (pi_tupK (K := K) (pv 0)) (castPG (K := K) (n := 3) (pg_tup rfl (pgs_cons (pg_name (i := 2) sc_asks_in.nd rfl (by first | exact .inl rfl | exact .inr rfl)) (pgs_cons (pg_name (i := 2) sc_asks_in.nd rfl (by first | exact .inl rfl | exact .inr rfl)) (pgs_cons (pg_name (i := 3) sc_asks_in.nd rfl (by first | exact .inl rfl | exact .inr rfl)) pgs_nil))))) (pss_one (ps_for PassesOwn.never rfl (pi_tupK (K := K) (pv 3)) (pg_name (i := 4) sc_asks_in.nd rfl (by first | exact .inl rfl | exact .inr rfl)) (pss_one (ps_if (pt_cmpR op_eq (pe_ix (ix_tupK (K := K)) (pv 4) pe_int (fun _ _ => rfl)) pe_str (nomark _)) (pss_one (ps_asg pe_bl (pg_sub (pv 1) (pe_slice (sl_tupAK (K := K)) (pv 4) (po_some pe_int) (po_some pe_int)) (set_dict (hu_of hr))))) pss_nil)))))
      (pss_one (ps_ret (pe_callTy (cr_tupOfK (K := K)) (by rfl) T.m_tuple (by decide +kernel) (pa_cons (pe_callB (cr_sortDS rfl) (by rfl) T.m_sorted (by decide +kernel) (pa_cons (pv 1) pa_nil)) pa_nil)))))), ?_⟩
    walk_at "st"
    intro D hD
    have lu := al.1
    have sD : Same H (upd H D (.dT [])) := Same.upd_new hD
    have eD0 : upd H D (.dT []) D = some (.dT []) := upd_same
    generalize upd H D (.dT []) = H0 at *
    have keep0 : ∀ {H' : Hp}, (∀ b o, H b = some o → H' b = some o) → Same H H' := fun h => h
    walk_at "st"
    refine lp_by (walk_tup (a := td) (xs := us)) (fun i σ' H' => ∃ (x2 x3 x4 : Option V), σ' = [some (.ref td), some (.ref D), x2, x3, x4] ∧ Same H H' ∧ SeenD H' D (asksL (ds.take i)) (400 * i))
      ⟨_, _, _, rfl, sD, [], [], eD0, rfl, List.nodup_nil, fun x => by simp [asksL], Nat.zero_le _⟩ (fun i σ' H' _ z => by obtain ⟨_, _, _, _, z1, _⟩ := z; exact SqT.of (z1 _ _ htd)) (fun i v σ' HX HX' hi z y => ?_) (fun σ' HX z => ?_)
    · obtain ⟨y2, y3, y4, rfl, sm, sn⟩ := z
      obtain ⟨rfl, ex⟩ := y
      obtain ⟨d, ed, t, c, rfl, ht, tc, cu, rfl, hc, ac⟩ := al.2 i v ex
      have gd := g d (List.mem_of_getElem? ed)
      have ht2 := sm _ _ ht
      have hc2 := sm _ _ hc
      have lc := gd.len
      have lcu := ac.1
      have i4 : i < 4 := by omega
      refine ⟨t, _, rfl, SqT.of ht2, rfl, ?_⟩
      walk_at "st"
      have hc3 : HX' tc = some (.tup cu) := hc2
      refine lp_by (walk_tup (a := tc) (xs := cu)) (fun k σ' H' => ∃ (x2 x4 : Option V), σ' = [some (.ref td), some (.ref D), x2, some (.ref tc), x4] ∧ Same H H' ∧ SeenD H' D (asksL (ds.take i) ++ (d.2.2.take k).filterMap askOf) (400 * i + k))
        ⟨_, _, rfl, sm, by simpa using sn⟩ (fun k σ' H' _ z => by obtain ⟨_, _, _, z1, _⟩ := z; exact SqT.of (z1 _ _ hc)) (fun k v σ' HY HY' hk z y => ?_) (fun σ' HY z => ?_)
      · obtain ⟨z2, z4, rfl, sy, sny⟩ := z
        obtain ⟨rfl, ex⟩ := y
        obtain ⟨x, ei, t3, as3, rfl, h3, al3⟩ := ac.2 k v ex
        have gx := gd.ins x (List.mem_of_getElem? ei)
        have h3y := sy _ _ h3
        have tk : d.2.2.take (k + 1) = d.2.2.take k ++ [x] := by rw [List.take_succ, ei]; rfl
        rw [tk, List.filterMap_append]
        have ix0 : atI (V.str x.1 :: as3) 0 = some (.str x.1) := (show atI _ ((0 : Nat) : Int) = _ from atI_nat rfl)
        walk_at "st"
        walk_at "if"
        have dstr : decide (V.str x.1 = V.str (Str.ofString "ask")) = decide (x.1 = "ask") := decide_eq_decide.mpr ⟨fun e => by injection e, fun e => by rw [e]⟩
        rw [dstr]
        by_cases c1 : x.1 = "ask"
        · rw [decide_eq_true c1, if_pos rfl]
          obtain ⟨a, ea, ix, ex2⟩ := ask_of gx c1
          rw [show [x].filterMap askOf = [a] by simp [ea]]
          obtain ⟨as, kvs, eD, ek, nd, mem, len⟩ := sny
          have e3 : as3.take 3 = [V.str a.1, V.str a.2.1, V.int a.2.2] := by
            rw [ex2] at al3
            match as3, al3 with
            | b0 :: b1 :: b2 :: r, al3 =>
              obtain ⟨q0, r0⟩ := al3.tail
              obtain ⟨q1, r1⟩ := r0.tail
              obtain ⟨q2, _⟩ := r1.tail
              have q0 : b0 = .str a.1 := q0
              have q1 : b1 = .str a.2.1 := q1
              have q2 : b2 = .int a.2.2 := q2
              rw [q0, q1, q2]; rfl
            | [], al3 => have := al3.1; simp at this
            | [_], al3 => have := al3.1; simp at this
            | [_, _], al3 => have := al3.1; simp at this
          walk_at "st"
          have l3 : as3.length = 4 := by rw [al3.1, ex2]; rfl
          have q1 : HT.sIx (V.str x.1 :: as3).length 0 (some 1) = 1 := by rw [List.length_cons, l3]; rfl
          have q4 : HT.sIx (V.str x.1 :: as3).length (V.str x.1 :: as3).length (some 4) = 4 := by rw [List.length_cons, l3]; rfl
          have ecut : cutV (V.str x.1 :: as3) (some 1) (some 4) = (keyA a).map kV := by
            unfold cutV
            rw [q1, q4]
            exact e3
          refine ⟨t3, _, rfl, SqT.of h3y, fun z => absurd (q1.symm.trans z.1) (by decide), fun _ p1 hp1 => ?_⟩
          rw [ecut]
          have s1 : Same HY' (upd HY' p1 (.tup ((keyA a).map kV))) := Same.upd_new hp1
          have e1 : upd HY' p1 (.tup ((keyA a).map kV)) p1 = some (.tup ((keyA a).map kV)) := upd_same
          generalize upd HY' p1 (.tup ((keyA a).map kV)) = H1 at *
          have eD1 := s1 _ _ eD
          have lk : kvs.length ≤ 400 * i + k := by
            have := congrArg List.length ek
            rw [List.length_map, List.length_map] at this
            omega
          refine ⟨D, _, rfl, DPut.t (k := keyA a) eD1 e1 (Nat.lt_of_le_of_lt (show kvs.length ≤ 2000 by omega) (by decide)), ?_⟩
          refine ⟨_, _, rfl, fun b o e => hl_set (ne_of_none e hD) (s1 _ _ (sy _ _ e)), ?_⟩
          by_cases m : a ∈ as
          · have mk : keyA a ∈ kvs.map fun kv => kv.1 := by rw [ek]; exact List.mem_map.mpr ⟨a, m, rfl⟩
            refine ⟨as, _, upd_same, (putK_in mk).trans ek, nd, fun y => ?_, by omega⟩
            rw [← List.append_assoc, List.mem_append, ← mem y]
            exact ⟨fun h => .inl h, fun h => h.elim id fun q => by rw [List.mem_singleton.mp q]; exact m⟩
          · have mk : keyA a ∉ kvs.map fun kv => kv.1 := by
              rw [ek]
              intro z
              obtain ⟨b, mb, e⟩ := List.mem_map.mp z
              exact m (by rw [← keyA_inj e]; exact mb)
            refine ⟨as ++ [a], _, upd_same, ?_, List.nodup_append.mpr ⟨nd, by simp, fun y my b mb e => m ?_⟩, fun y => ?_, by rw [List.length_append]; show as.length + 1 ≤ _; omega⟩
            · rw [putK_out mk, ek, List.map_append]; rfl
            · rw [← List.mem_singleton.mp mb, ← e]; exact my
            · rw [← List.append_assoc, List.mem_append, List.mem_append, ← mem y]
        · rw [decide_eq_false c1, if_neg (by decide)]
          walk_at "st"
          refine ⟨_, _, rfl, sy, ?_⟩
          rw [show [x].filterMap askOf = [] by simp [ask_none c1], List.append_nil]
          exact sny.same (Same.refl _) (by omega)
      · obtain ⟨z2, z4, rfl, sy, sny⟩ := z
        refine ⟨_, _, _, rfl, sy, ?_⟩
        rw [lcu, List.take_length] at sny
        have tk : ds.take (i + 1) = ds.take i ++ [d] := by rw [List.take_succ, ed]; rfl
        rw [tk]
        have e : asksL (ds.take i ++ [d]) = asksL (ds.take i) ++ d.2.2.filterMap askOf := by
          unfold asksL
          rw [List.flatMap_append, List.flatMap_cons, List.flatMap_nil, List.append_nil]
        rw [e]
        exact sny.same (Same.refl _) (by omega)
    obtain ⟨y2, y3, y4, rfl, sm, as, kvs, eD, ek, nd, mem, len⟩ := z
    rw [lu, List.take_length] at mem
    have ok : AsksOk as := fun x mx y my e => ao x ((mem x).mp mx) y ((mem y).mp my) e
    walk_at "st"
    refine ⟨D, kvs, rfl, .inl eD, fun kv m => ?_, fun bs ik x mx y my e => ?_, fun bs ys p ik pm ri hp => ?_⟩
    · have m2 : kv.1 ∈ as.map keyA := by rw [← ek]; exact List.mem_map.mpr ⟨kv, m, rfl⟩
      obtain ⟨a, _, ea⟩ := List.mem_map.mp m2
      exact ⟨_, _, _, ea.symm⟩
    · have ka := keys_al ik ek
      obtain ⟨i, ei⟩ := List.getElem?_of_mem mx
      obtain ⟨j, ej⟩ := List.getElem?_of_mem my
      obtain ⟨a, ea, t1, e1, h1⟩ := ka.2 i (.ref x) (by rw [List.getElem?_map, ei]; rfl)
      obtain ⟨b, eb, t2, e2, h2⟩ := ka.2 j (.ref y) (by rw [List.getElem?_map, ej]; rfl)
      cases e1
      cases e2
      rw [heS_is h1, heS_is h2] at e
      have hab := ok a (List.mem_of_getElem? ea) b (List.mem_of_getElem? eb) e
      subst hab
      have hij : i = j := by
        have li := (List.getElem?_eq_some_iff.mp ea).1
        exact (List.getElem?_inj li nd).mp (ea.trans eb.symm)
      subst hij
      exact Option.some.inj (ei.symm.trans ej)
    · obtain ⟨bs2, pb, alb⟩ := (keys_al ik ek).perm pm
      have td2 := told_of alb pb nd ok ri
      have sp := Same.upd_new (x := .lst ys) hp
      walk_at "st"
      intro pt hpt
      refine q pt ys bs2 _ ((sm.trans sp).trans (Same.upd_new hpt)) upd_same ?_ ⟨fun x => (td2.mem x).trans (mem x), td2.ris⟩
      exact alb.imp fun u a ⟨t, e, h⟩ => ⟨t, e, hl_new (sp _ _ h) hpt⟩
end
local macro_rules | `(tactic| walk_at "ssz") => `(tactic| first | decide | exact str_small (by assumption) | (have : (1000000 : Nat) ≤ sizeLine := (by decide); omega))
local macro_rules | `(tactic| walk_at "st1") => `(tactic| first
  | with_reducible refine' r_nt ?_ | with_reducible refine' r_nf ?_
  | ((with_reducible refine r_lenS ?e1 ?_); (case e1 => walk_at "ssz"))
  | with_reducible refine r_inS ?_
  | with_reducible refine r_ninS ?_
  | ((with_reducible refine r_addS ?e1 ?_); (case e1 => walk_at "ssz"))
  | ((with_reducible refine' r_ixS ?e1 ?e2 ?_); (case e1 => walk_at "ssz"); (case e2 => first | assumption | rfl))
  | with_reducible refine r_istr ?_
  | with_reducible refine r_is ?_
  | with_reducible refine r_un ?_
  | with_reducible refine r_u ?_)
local macro_rules | `(tactic| walk_at "st1") => `(tactic| first
  | with_reducible refine r_tru ?_
  | ((with_reducible refine' r_truT ?e1 ?_); (case e1 => walk_at "sq"))
  | with_reducible refine r_isN ?_
  | with_reducible refine r_tyS ?_
  | with_reducible refine r_m1 ?_
  | with_reducible refine r_sx ?_
  | ((with_reducible refine r_strC ?e1 ?_); (case e1 => omega)))
local macro_rules | `(tactic| walk_at "st1") => `(tactic| first
  | with_reducible refine r_par ?_
  | with_reducible refine r_parx ?_
  | ((with_reducible refine' r_gtup ?e1 ?e2 ?_); (case e1 => walk_at "sq"); (case e2 => rfl))
  | with_reducible refine r_gcons ?_
  | with_reducible refine r_gnil ?_
  | with_reducible refine r_ient ?_
  | ((with_reducible refine' r_ent ?e1 ?_); (case e1 => walk_at "sq")))
local macro_rules | `(tactic| walk_at "st1") => `(tactic| first
  | with_reducible refine' r_nt ?_
  | with_reducible refine' r_nf ?_
  | with_reducible refine r_un ?_
  | with_reducible refine r_u ?_)
local macro_rules | `(tactic| walk_at "st1") => `(tactic| first
  | with_reducible refine r_fld ?_
  | with_reducible refine r_sfld ?_
  | ((with_reducible refine' r_fldr ?e1 ?e2 ?e3 ?e4 ?_); (case e1 => walk_at "hl"); (case e2 => assumption); (case e3 => assumption); (case e4 => assumption)))
/-! ### coded units: what they are made of -/
def KeepT (H H' : Hp) : Prop := ∀ b xs, H b = some (.tup xs) → H' b = some (.tup xs)
theorem ArgV.tup {H H' : Hp} {v : V} {a : Arg} (h : ArgV H v a) (k : KeepT H H') : ArgV H' v a := by
  cases a with
  | w z => exact h
  | n i => exact h
  | ways l =>
    obtain ⟨t, us, e, ht, al⟩ := h
    exact ⟨t, us, e, k _ _ ht, al.imp fun u x ⟨t, e, h⟩ => ⟨t, e, k _ _ h⟩⟩
theorem InsV.tup {H H' : Hp} {v : V} {x : Ins} (h : InsV H v x) (k : KeepT H H') : InsV H' v x := by
  obtain ⟨t, us, e, ht, al⟩ := h
  exact ⟨t, us, e, k _ _ ht, al.imp fun u a h => h.tup k⟩
theorem DeedsV.tup {H H' : Hp} {v : V} {ds : List Deed} (h : DeedsV H v ds) (k : KeepT H H') : DeedsV H' v ds := by
  obtain ⟨t, us, e, ht, al⟩ := h
  refine ⟨t, us, e, k _ _ ht, al.imp fun u d h => ?_⟩
  obtain ⟨t, c, e, ht, t2, us2, e2, h2, al2⟩ := h
  exact ⟨t, c, e, k _ _ ht, t2, us2, e2, k _ _ h2, al2.imp fun u a h => h.tup k⟩
def codF (h : Int) (d : V) (p : Int) (a : V) : List (Str × V) := putF "_asks" a (putF "_prime" (.int p) (putF "_deeds" d (putF "_hidden" (.int h) [])))
def AskdV (H : Hp) (v : V) (ds : List Deed) : Prop := ∃ (t : Addr) (us : List V) (bs : List Ask), v = .ref t ∧ H t = some (.tup us) ∧ Al (AsV H) us bs ∧ Told (asksL ds) bs
theorem AskdV.tup {H H' : Hp} {v : V} {ds : List Deed} (h : AskdV H v ds) (k : KeepT H H') : AskdV H' v ds := by
  obtain ⟨t, us, bs, e, ht, al, td⟩ := h
  exact ⟨t, us, bs, e, k _ _ ht, al.imp fun u a ⟨t, e, h⟩ => ⟨t, e, k _ _ h⟩, td⟩
theorem keepT_of {H H' : Hp} (h : Same H H') : KeepT H H' := fun b _ e => h b _ e
structure GoodU (hid : Nat) (ds : List Deed) (p : Int) : Prop where
  lid : hid ≤ 3
  len : 1 ≤ ds.length ∧ ds.length ≤ 4
  good : ∀ d ∈ ds, GoodD hid p d
  unlike : (ds.map (·.1)).Nodup
  asks : AsksOk (asksL ds)
  few : ∃ l : List Str, l.length ≤ 4 ∧ ∀ x ∈ asksL ds, x.1 ∈ l
  prime : PrimeI p
def CodV (C : Addr) (H : Hp) (x : Addr) (hid : Nat) (ds : List Deed) (p : Int) : Prop := ∃ (dx : Addr) (dv av : V), H x = some (.ins C dx (codF (hid : Nat) dv p av)) ∧ DeedsV H dv ds ∧ AskdV H av ds ∧ GoodU hid ds p
theorem CodV.same {C : Addr} {H H' : Hp} {x : Addr} {hid : Nat} {ds : List Deed} {p : Int} (h : CodV C H x hid ds p) (k : Same H H') : CodV C H' x hid ds p := by
  obtain ⟨dx, dv, av, hx, hd, ha, g⟩ := h
  exact ⟨dx, dv, av, k _ _ hx, hd.tup (keepT_of k), ha.tup (keepT_of k), g⟩
theorem short_of {α : Type} [DecidableEq α] : ∀ {xs l : List α}, xs.Nodup → (∀ x ∈ xs, x ∈ l) → xs.length ≤ l.length
  | [], _, _, _ => Nat.zero_le _
  | x :: xs, l, nd, h => by
    have nd2 := List.nodup_cons.mp nd
    have hx := h x List.mem_cons_self
    have ih := short_of (xs := xs) (l := l.erase x) nd2.2 fun y my => (List.mem_erase_of_ne (fun e => nd2.1 (by rw [← e]; exact my))).mpr (h y (List.mem_cons_of_mem _ my))
    rw [List.length_erase_of_mem hx] at ih
    have := List.length_pos_of_mem hx
    rw [List.length_cons]; omega
theorem ris_nodup {ws : List Str} (h : ws.Pairwise ltS) : ws.Nodup := h.imp fun {a b} l e => by
  rw [e] at l
  exact List.lt_irrefl _ l
theorem Told.few {hid : Nat} {ds : List Deed} {p : Int} {bs : List Ask} (g : GoodU hid ds p) (t : Told (asksL ds) bs) : bs.length ≤ 4 := by
  obtain ⟨l, l4, h⟩ := g.few
  have e := short_of (ris_nodup t.ris) fun z m => by
    obtain ⟨x, mx, rfl⟩ := List.mem_map.mp m
    exact h x ((t.mem x).mp mx)
  rw [List.length_map] at e
  omega
def pairK (b : Ask) : List Key := [Sum.inr b.1, Sum.inr b.2.1]
def PairV (H : Hp) (v : V) (b : Ask) : Prop := ∃ t : Addr, v = .ref t ∧ H t = some (.tup ((pairK b).map kV))
theorem pairs_of {H : Hp} : ∀ {us : List V} {bs : List Ask}, Al (PairV H) us bs → ∃ ks : List (Addr × List Key), us = ks.map (fun p => V.ref p.1) ∧ ks.map (·.2) = bs.map pairK ∧ ∀ p ∈ ks, H p.1 = some (.tup (p.2.map kV))
  | [], [], _ => ⟨[], rfl, rfl, fun p m => by cases m⟩
  | [], b :: bs, h => by have := h.1; simp at this
  | u :: us, [], h => by have := h.1; simp at this
  | u :: us, b :: bs, h => by
    obtain ⟨⟨t, e, ht⟩, r⟩ := h.tail
    obtain ⟨ks, e1, e2, e3⟩ := pairs_of r
    refine ⟨(t, pairK b) :: ks, by rw [e, e1]; rfl, by rw [List.map_cons, e2]; rfl, fun p m => ?_⟩
    rcases List.mem_cons.mp m with e | m
    · rw [e]; exact ht
    · exact e3 p m
theorem pairs_nodup {as bs : List Ask} (t : Told as bs) : (bs.map pairK).Nodup := by
  have nd := ris_nodup t.ris
  rw [List.nodup_iff_pairwise_ne, List.pairwise_map] at nd ⊢
  refine nd.imp fun {a b} ne e => ne ?_
  injection e with e _
  exact Sum.inr.inj e
def sp_Coded___init__ (_ : PySem.W.Frag) (C : Addr) : Sp := fun vs H Q _ => ∃ (x dx : Addr) (hid : Nat) (dv : V) (ds : List Deed) (p : Int), vs = [.ref x, .int (hid : Nat), dv, .int p] ∧ H x = some (.ins C dx []) ∧ DeedsV H dv ds ∧ GoodU hid ds p ∧
  ∀ H', (∀ b o, H b = some o → b ≠ x → H' b = some o) → CodV C H' x hid ds p → Q .non H'
section
variable {P : Program} {w : World} {K : PySem.W.Frag} {mg : Str → Option Value} {base : Heap}
theorem ok_Coded___init__ {c_Coded : Addr} {c_Machine : Addr} {c_CodeReader : Addr} {c_REGISTERS : Addr} {c_CELLS : Addr} {c_SHAPES : Addr} (T : Tx K mg c_Coded c_Machine c_CodeReader c_REGISTERS c_CELLS c_SHAPES w) {f_asks_in : Addr} {fd_asks_in : FuncData} (C_asks_in : Cal P w K mg base "asks_in" 1 ["deeds"] (sp_asks_in K) s_asks_in f_asks_in fd_asks_in) {f_is_prime : Addr} {fd_is_prime : FuncData} (C_is_prime : Cal P w K mg base "is_prime" 2 ["thing"] (sp_is_prime K) s_is_prime f_is_prime fd_is_prime) {f_are_unlike : Addr} {fd_are_unlike : FuncData} (C_are_unlike : Cal P w K mg base "are_unlike" 1 ["things"] (sp_are_unlike K) s_are_unlike f_are_unlike fd_are_unlike) {f_is_whole : Addr} {fd_is_whole : FuncData} (C_is_whole : Cal P w K mg base "is_whole" 1 ["thing"] (sp_is_whole K) s_is_whole f_is_whole fd_is_whole) {f_is_tuple : Addr} {fd_is_tuple : FuncData} (C_is_tuple : Cal P w K mg base "is_tuple" 1 ["thing", "least", "most"] (sp_is_tuple K) s_is_tuple f_is_tuple fd_is_tuple) {f_is_deed : Addr} {fd_is_deed : FuncData} (C_is_deed : Cal P w K mg base "is_deed" 6 ["thing", "hidden", "p"] (sp_is_deed K) s_is_deed f_is_deed fd_is_deed) {f : Addr} {fd : FuncData} (F : HereD K c_Coded "__init__" "Coded.__init__" [("prime", V.int 97)] s_Coded___init__ ["self", "hidden", "deeds", "prime"] f fd) : CalD P w K mg base c_Coded "__init__" "Coded.__init__" 7 ["self", "hidden", "deeds", "prime"] [("prime", V.int 97)] (sp_Coded___init__ K c_Coded) s_Coded___init__ f fd := by
  refine F.cal sc_Coded___init__ (fun vs H Q E h => ?_) (fun cdv A outer s H vs Q E hr h => ?_)
  · obtain ⟨x, dx, hid, dv, ds, p, rfl, _⟩ := h
    rfl
  · obtain ⟨x, dx, hid, dv, ds, p, rfl, hx, ⟨td, us, rfl, htd, al⟩, g, q⟩ := h
    have lu := al.1
    have ⟨l1, l4⟩ := g.len
    refine ⟨_, (pss_cons (ps_if (pt_not (pt_val (pe_call C_is_prime.ok (hr.mono (by decide)) (by rfl) C_is_prime.at_ C_is_prime.kp C_is_prime.b .nil pass0 (pa_cons (pv 3) pa_nil)))) (pss_one ps_never) pss_nil)
      (pss_cons (ps_if (PW.pt (pw_or (pt_not (pt_val (pe_call C_is_whole.ok (hr.mono (by decide)) (by rfl) C_is_whole.at_ C_is_whole.kp C_is_whole.b .nil pass0 (pa_cons (pv 1) pa_nil)))) (pw_or1 (pt_not (pt_chain op_le op_le pe_int (pv 1) (pe_callB (cr_lenK (K := K)) (by rfl) T.m_len (by decide +kernel) (pa_cons (pe_glob (v := .ref c_CELLS) (by rfl) T.g_CELLS rfl) pa_nil))))))) (pss_one ps_never) pss_nil)
      (pss_cons (ps_if (PW.pt (pw_or (pt_not (pt_val (pe_call C_is_tuple.ok (hr.mono (by decide)) (by rfl) C_is_tuple.at_ C_is_tuple.kp C_is_tuple.b .nil pass0 (pa_cons (pv 2) (pa_cons pe_int (pa_cons (pe_glob (v := .int 4) (by rfl) (T.c_MOST_DEEDS).choose_spec ⟨_, rfl⟩) pa_nil)))))) (pw_or1 (pt_not (pt_val (pe_callB (cr_allK (K := K) rfl) (by rfl) T.m_all (by decide +kernel) (pa_cons (pe_lc rfl sc_Coded___init__.nd (pi_tupK (K := K) (pv 2)) (blkOk_by (own := [("deed", 4)]) (N := ["self", "hidden", "deeds", "prime", "deed", "name", "_", "asks", "unit"]) (sc := (defScope s_Coded___init__)) (by decide +kernel)) (fun _ _ _ _ _ => (pg_name (i := 4) sc_Coded___init__.nd rfl (by first | exact .inl rfl | exact .inr rfl))) (fun _ _ _ _ _ => pts_nil) (fun _ _ _ _ _ => (pe_call C_is_deed.ok (hr.mono (by decide)) (by rfl) C_is_deed.at_ C_is_deed.kp C_is_deed.b .nil pass0 (pa_cons (pv 4) (pa_cons (pv 1) (pa_cons (pv 3) pa_nil)))))) pa_nil))))))) (pss_one ps_never) pss_nil)
      (pss_cons (ps_if (pt_not (pt_val (pe_call C_are_unlike.ok (hr.mono (by decide)) (by rfl) C_are_unlike.at_ C_are_unlike.kp C_are_unlike.b .nil pass0 (pa_cons (pe_lc rfl sc_Coded___init__.nd (pi_tupK (K := K) (pv 2)) (blkOk_by (own := [("name", 5), ("_", 6), ("_", 6)]) (N := ["self", "hidden", "deeds", "prime", "deed", "name", "_", "asks", "unit"]) (sc := (defScope s_Coded___init__)) (by decide +kernel)) (fun _ _ _ _ _ => (castPG (K := K) (n := 3) (pg_tup rfl (pgs_cons (pg_name (i := 5) sc_Coded___init__.nd rfl (by first | exact .inl rfl | exact .inr rfl)) (pgs_cons (pg_name (i := 6) sc_Coded___init__.nd rfl (by first | exact .inl rfl | exact .inr rfl)) (pgs_cons (pg_name (i := 6) sc_Coded___init__.nd rfl (by first | exact .inl rfl | exact .inr rfl)) pgs_nil)))))) (fun _ _ _ _ _ => pts_nil) (fun _ _ _ _ _ => (pv 5))) pa_nil)))) (pss_one ps_never) pss_nil)
      (pss_cons (ps_set (i := 7) sc_Coded___init__.nd rfl (by first | exact .inl rfl | exact .inr rfl) (pe_call C_asks_in.ok (hr.mono (by decide)) (by rfl) C_asks_in.at_ C_asks_in.kp C_asks_in.b .nil pass0 (pa_cons (pv 2) pa_nil)))
      (pss_cons (ps_if (pt_not (pt_val (pe_call C_are_unlike.ok (hr.mono (by decide)) (by rfl) C_are_unlike.at_ C_are_unlike.kp C_are_unlike.b .nil pass0 (pa_cons (pe_lc rfl sc_Coded___init__.nd (pi_tupK (K := K) (pv 7)) (blkOk_by (own := [("unit", 8), ("deed", 4), ("_", 6)]) (N := ["self", "hidden", "deeds", "prime", "deed", "name", "_", "asks", "unit"]) (sc := (defScope s_Coded___init__)) (by decide +kernel)) (fun _ _ _ _ _ => (castPG (K := K) (n := 3) (pg_tup rfl (pgs_cons (pg_name (i := 8) sc_Coded___init__.nd rfl (by first | exact .inl rfl | exact .inr rfl)) (pgs_cons (pg_name (i := 4) sc_Coded___init__.nd rfl (by first | exact .inl rfl | exact .inr rfl)) (pgs_cons (pg_name (i := 6) sc_Coded___init__.nd rfl (by first | exact .inl rfl | exact .inr rfl)) pgs_nil)))))) (fun _ _ _ _ _ => pts_nil) (fun _ _ _ _ _ => (pe_tup (pa_cons (pv 8) (pa_cons (pv 4) pa_nil))))) pa_nil)))) (pss_one ps_never) pss_nil)
      (pss_cons (ps_fldK (K := K) (pv 0) (pv 1) rfl)
      (pss_cons (ps_fldK (K := K) (pv 0) (pv 2) rfl)
      (pss_cons (ps_fldK (K := K) (pv 0) (pv 3) rfl)
      (pss_one (ps_fldK (K := K) (pv 0) (pv 7) rfl))))))))))), ?_⟩
    walk_at "st"
    walk_at "if"
    refine ⟨p, rfl, g.prime, fun H1 s1 => ?_⟩
    walk_at "st"
    walk_at "if"
    refine ⟨_, rfl, ?_⟩
    walk_at "st"
    rw [decide_eq_true (Int.natCast_nonneg _), if_pos rfl]
    have lid := g.lid
    walk_at "st"
    refine r_lent T.ce_CELLS.sq ?_
    walk_at "st"
    have lh : decide ((hid : Int) ≤ ((cellsL.map V.str).length : Nat)) = true := decide_eq_true (by show (hid : Int) ≤ (3 : Nat); omega)
    rw [lh]
    walk_at "st"
    walk_at "if"
    refine ⟨td, us, 1, 4, rfl, s1 _ _ htd, by omega, by omega, ?_⟩
    walk_at "st"
    intro D hD
    refine lc_map (walk_tup (xs := us)) (by omega) hD (fun i y _ => y = .bl true) (fun _ _ _ _ h _ => h) (fun _ _ _ _ _ h _ => h) (fun H' k => SqT.of (k _ _ (s1 _ _ htd))) (fun i H1 x H2 y => by rw [y.1]; exact Same.refl _)
      (fun i v H3 H4 Y No hi s3 y hY => ?_) (fun ys H3 el s3 eD hys => ?_)
    · obtain ⟨rfl, ex⟩ := y
      obtain ⟨d, ed, dv⟩ := al.2 i v ex
      refine ⟨rfl, ?_⟩
      walk_at "st"
      exact ⟨v, hid, p, d, rfl, dv.same (s1.trans s3), lid, g.good d (List.mem_of_getElem? ed), fun H' s4 => hY _ _ s4 rfl⟩
    have e1 := all_trues hys
    rw [e1] at eD
    have S3 := s1.trans s3
    walk_at "st"
    rw [all_rep]
    walk_at "st"
    walk_at "if"
    intro D2 hD2
    refine lc_map (walk_tup (xs := us)) (by omega) hD2 (fun i y _ => ∃ d, ds[i]? = some d ∧ y = .str d.1) (fun _ _ _ _ h _ => h) (fun _ _ _ _ _ h _ => h) (fun H' k => SqT.of (k _ _ (S3 _ _ htd))) (fun i H1 x H2 y => by rw [y.1]; exact Same.refl _)
      (fun i v H4 H5 Y No hi s4 y hY => ?_) (fun zs H4 el4 s4 eD2 hzs => ?_)
    · obtain ⟨rfl, ex⟩ := y
      obtain ⟨d, ed, t, c, rfl, ht, _⟩ := al.2 i v ex
      refine ⟨t, _, rfl, SqT.of (s4 _ _ (S3 _ _ ht)), rfl, _, _, rfl, _, _, rfl, _, _, rfl, rfl, ?_⟩
      refine ⟨rfl, ?_⟩
      walk_at "st"
      exact hY _ _ (Same.refl _) ⟨d, ed, rfl⟩
    obtain rfl : zs = (ds.map (·.1)).map V.str := by
      apply List.ext_getElem?
      intro i
      cases e : zs[i]? with
      | none =>
        rw [List.getElem?_eq_none_iff] at e
        rw [List.getElem?_eq_none_iff.mpr (by rw [List.length_map, List.length_map]; omega)]
      | some y =>
        obtain ⟨d, ed, rfl⟩ := hzs i y e
        rw [List.getElem?_map, List.getElem?_map, ed]; rfl
    have S4 := S3.trans s4
    walk_at "st"
    refine .inl ⟨D2, ds.map (·.1), rfl, .inl (SqL.of eD2), by rw [List.length_map]; omega, ?_⟩
    rw [decide_eq_true g.unlike]
    walk_at "st"
    refine ⟨_, hid, p, ds, rfl, ⟨td, us, rfl, S4 _ _ htd, al.imp fun u d h => h.same S4⟩, l4, g.good, g.asks, fun ta as bs H5 s5 hta ala told => ?_⟩
    have b4 := Told.few g told
    have la := ala.1
    walk_at "st"
    walk_at "if"
    intro D3 hD3
    refine lc_map (walk_tup (xs := as)) (by omega) hD3 (fun i y H' => ∃ b, bs[i]? = some b ∧ PairV H' y b) (fun i v H H' ⟨b, eb, t, e, ht⟩ k => ⟨b, eb, t, e, k _ _ ht⟩) (fun i v H' acc acc' ⟨b, eb, t, e, ht⟩ hd => ⟨b, eb, t, e, hl_set (fun z => by rw [z, hd] at ht; cases ht) ht⟩) (fun H' k => SqT.of (k _ _ hta)) (fun i H1 x H2 y => by rw [y.1]; exact Same.refl _)
      (fun i v H6 H7 Y No hi s6 y hY => ?_) (fun zs H6 el6 s6 eD3 hzs => ?_)
    · obtain ⟨rfl, ex⟩ := y
      obtain ⟨b, eb, t, rfl, ht⟩ := ala.2 i v ex
      refine ⟨t, _, rfl, SqT.of (s6 _ _ ht), rfl, _, _, rfl, _, _, rfl, _, _, rfl, rfl, ?_⟩
      refine ⟨rfl, ?_⟩
      walk_at "st"
      exact fun p hp => hY _ _ (Same.upd_new hp) ⟨b, eb, p, rfl, upd_same⟩
    obtain ⟨ks, rfl, ek, hks⟩ := pairs_of (⟨by omega, hzs⟩ : Al (PairV H6) zs bs)
    have lk : ks.length ≤ 4 := by rw [List.length_map] at el6; omega
    have S6 := (S4.trans s5).trans s6
    walk_at "st"
    refine .inr ⟨D3, ks, rfl, SqL.of eD3, hks, by rw [ek]; exact pairs_nodup told, lk, ?_⟩
    walk_at "st"
    have hx6 := S6 _ _ hx
    refine r_sfr hx6 T.cl_Coded T.na__hidden (by show 0 < 1000; decide) ?_
    walk_at "st"
    refine r_sfr upd_same T.cl_Coded T.na__deeds (by show 1 < 1000; decide) ?_
    walk_at "st"
    refine r_sfr upd_same T.cl_Coded T.na__prime (by show 2 < 1000; decide) ?_
    walk_at "st"
    refine r_sfr upd_same T.cl_Coded T.na__asks (by show 3 < 1000; decide) ?_
    have keep : ∀ (b : Addr) (o : HO) {u1 u2 u3 u4 : HO}, H6 b = some o → b ≠ x → upd (upd (upd (upd H6 x u1) x u2) x u3) x u4 b = some o := fun b o _ _ _ _ e n => hl_set n (hl_set n (hl_set n (hl_set n e)))
    have kt : ∀ {u1 u2 u3 u4 : HO}, KeepT H6 (upd (upd (upd (upd H6 x u1) x u2) x u3) x u4) := fun b xs e => keep b _ e fun z => by rw [z, hx6] at e; cases e
    have dd : DeedsV H6 (.ref td) ds := ⟨td, us, rfl, S6 _ _ htd, al.imp fun u d h => h.same S6⟩
    have aa : AskdV H6 (.ref ta) ds := ⟨ta, as, bs, rfl, s6 _ _ hta, ala.imp fun u b ⟨t, e, h⟩ => ⟨t, e, s6 _ _ h⟩, told⟩
    exact q _ (fun b o e n => keep b o (S6 _ _ e) n) ⟨dx, .ref td, .ref ta, upd_same, dd.tup kt, aa.tup kt, g⟩
end
local macro_rules | `(tactic| walk_at "ssz") => `(tactic| first | decide | exact str_small (by assumption) | (have : (1000000 : Nat) ≤ sizeLine := (by decide); omega))
local macro_rules | `(tactic| walk_at "st1") => `(tactic| first
  | with_reducible refine' r_nt ?_ | with_reducible refine' r_nf ?_
  | ((with_reducible refine r_lenS ?e1 ?_); (case e1 => walk_at "ssz"))
  | with_reducible refine r_inS ?_
  | with_reducible refine r_ninS ?_
  | ((with_reducible refine r_addS ?e1 ?_); (case e1 => walk_at "ssz"))
  | ((with_reducible refine' r_ixS ?e1 ?e2 ?_); (case e1 => walk_at "ssz"); (case e2 => first | assumption | rfl))
  | with_reducible refine r_istr ?_
  | with_reducible refine r_is ?_
  | with_reducible refine r_un ?_
  | with_reducible refine r_u ?_)
local macro_rules | `(tactic| walk_at "st1") => `(tactic| first
  | with_reducible refine r_tru ?_
  | ((with_reducible refine' r_truT ?e1 ?_); (case e1 => walk_at "sq"))
  | with_reducible refine r_isN ?_
  | with_reducible refine r_tyS ?_
  | with_reducible refine r_m1 ?_
  | with_reducible refine r_sx ?_
  | ((with_reducible refine r_strC ?e1 ?_); (case e1 => omega)))
local macro_rules | `(tactic| walk_at "st1") => `(tactic| first
  | with_reducible refine r_par ?_
  | with_reducible refine r_parx ?_
  | ((with_reducible refine' r_gtup ?e1 ?e2 ?_); (case e1 => walk_at "sq"); (case e2 => rfl))
  | with_reducible refine r_gcons ?_
  | with_reducible refine r_gnil ?_
  | with_reducible refine r_ient ?_
  | ((with_reducible refine' r_ent ?e1 ?_); (case e1 => walk_at "sq")))
local macro_rules | `(tactic| walk_at "st1") => `(tactic| first
  | with_reducible refine' r_nt ?_
  | with_reducible refine' r_nf ?_
  | with_reducible refine r_un ?_
  | with_reducible refine r_u ?_)
local macro_rules | `(tactic| walk_at "st1") => `(tactic| first
  | with_reducible refine r_fld ?_
  | with_reducible refine r_sfld ?_
  | ((with_reducible refine' r_fldr ?e1 ?e2 ?e3 ?e4 ?_); (case e1 => walk_at "hl"); (case e2 => assumption); (case e3 => assumption); (case e4 => assumption)))
/-! ### coded units: what they tell, when they are equal -/
def dArg : Arg → PyData
  | .w z => .str z
  | .n i => .int i
  | .ways l => .tuple (l.map fun x => .tuple [.str x.1, .int x.2])
def dIns (x : Ins) : PyData := .tuple (.str x.1 :: x.2.map dArg)
def dDeed (d : Deed) : PyData := .tuple [.str d.1, .int d.2.1, .tuple (d.2.2.map dIns)]
def dDs (ds : List Deed) : PyData := .tuple (ds.map dDeed)
theorem dp_all {α : Type} {K : PySem.W.Frag} {H : Hp} {R : V → α → Prop} {g : α → PyData} (h : ∀ u x, R u x → Dp K H u (g x)) : ∀ {us : List V} {xs : List α}, Al R us xs → DpAll K H us (xs.map g)
  | [], [], _ => .nil
  | [], x :: xs, a => by have := a.1; simp at this
  | u :: us, [], a => by have := a.1; simp at this
  | u :: us, x :: xs, a => .cons (h u x a.tail.1) (dp_all h a.tail.2)
theorem dp_arg {K : PySem.W.Frag} {H : Hp} {u : V} {a : Arg} (h : ArgV H u a) : Dp K H u (dArg a) := by
  cases a with
  | w z => rw [show u = .str z from h]; exact .str z
  | n i => rw [show u = .int i from h]; exact .int i
  | ways l =>
    obtain ⟨t, us, rfl, ht, al⟩ := h
    refine .tup (SqT.of ht) (dp_all (fun u x h => ?_) al)
    obtain ⟨t, rfl, ht⟩ := h
    exact .tup (SqT.of ht) (.cons (.str _) (.cons (.int _) .nil))
theorem dp_ds {K : PySem.W.Frag} {H : Hp} {v : V} {ds : List Deed} (h : DeedsV H v ds) : Dp K H v (dDs ds) := by
  obtain ⟨t, us, rfl, ht, al⟩ := h
  refine .tup (SqT.of ht) (dp_all (fun u d h => ?_) al)
  obtain ⟨t, c, rfl, ht, tc, us2, rfl, hc, al2⟩ := h
  refine .tup (SqT.of ht) (.cons (.str _) (.cons (.int _) (.cons (.tup (SqT.of hc) (dp_all (fun u x h => ?_) al2)) .nil)))
  obtain ⟨t, us3, rfl, h3, al3⟩ := h
  exact .tup (SqT.of h3) (.cons (.str _) (dp_all (fun u a h => dp_arg h) al3))
theorem ok_name {z : Str} (h : NameS z) : PyData.strOk z = true := by
  unfold PyData.strOk
  rw [← Array.all_toList]
  exact List.all_eq_true.mpr fun c m => decide_eq_true (by
    have h1 : ∀ c ∈ lettersL, c < 0x110000 := by decide +kernel
    exact h1 c (h.2.2 c m))
theorem ok_known {hid : Nat} {z : Str} (h : z ∈ knownL hid) : PyData.strOk z = true := by
  have h1 : ∀ z ∈ regsL ++ cellsL, PyData.strOk z = true := by decide +kernel
  refine h1 z ?_
  unfold knownL at h
  rcases List.mem_append.mp h with h | h
  · exact List.mem_append_left _ h
  · exact List.mem_append_right _ (List.mem_of_mem_take h)
theorem ok_op : ∀ q ∈ shapesS, PyData.strOk q.1 = true := by decide +kernel
theorem lay_str {z : Str} (h : PyData.strOk z = true) : (PyData.str z).canLay0 = true ∧ (PyData.str z).depth ≤ 0 := ⟨by rw [PyData.canLay0]; exact h, by rw [PyData.depth]; exact Nat.le_refl _⟩
theorem lay_int (i : Int) : (PyData.int i).canLay0 = true ∧ (PyData.int i).depth ≤ 0 := ⟨by rw [PyData.canLay0], by rw [PyData.depth]; exact Nat.le_refl _⟩
theorem lay_tup {n : Nat} {ds : List PyData} (h : ∀ d ∈ ds, d.canLay0 = true ∧ d.depth ≤ n) : (PyData.tuple ds).canLay0 = true ∧ (PyData.tuple ds).depth ≤ n + 1 := by
  rw [PyData.canLay0, PyData.depth]
  have : PyData.depthAll ds ≤ n := depth_all fun d m => (h d m).2
  exact ⟨canLay_all fun d m => (h d m).1, by omega⟩
theorem lay_up {n m : Nat} {d : PyData} (h : d.canLay0 = true ∧ d.depth ≤ n) (l : n ≤ m) : d.canLay0 = true ∧ d.depth ≤ m := ⟨h.1, Nat.le_trans h.2 l⟩
theorem lay_arg {hid c : Nat} {many p : Int} {a : Arg} (h : Fits hid many p NameS Ris c a) : (dArg a).canLay0 = true ∧ (dArg a).depth ≤ 2 := by
  cases h with
  | u h => exact lay_up (lay_str (ok_known h)) (by omega)
  | n h => exact lay_up (lay_int _) (by omega)
  | t h => exact lay_up (lay_int _) (by omega)
  | m h => exact lay_up (lay_int _) (by omega)
  | d h => exact lay_up (lay_str (ok_name h)) (by omega)
  | @w l h1 h2 h3 =>
    unfold dArg
    refine lay_tup fun d m => ?_
    obtain ⟨x, mx, rfl⟩ := List.mem_map.mp m
    refine lay_tup fun d m => ?_
    simp only [List.mem_cons, List.not_mem_nil, or_false] at m
    rcases m with e | e
    · rw [e]; exact lay_str (ok_name (h2 x mx).1)
    · rw [e]; exact lay_int _
theorem lay_ins {hid : Nat} {many p : Int} {x : Ins} (g : GoodI hid many p x) : (dIns x).canLay0 = true ∧ (dIns x).depth ≤ 3 := by
  obtain ⟨sh, ms, l, ft⟩ := g
  unfold dIns
  refine lay_tup fun d m => ?_
  rcases List.mem_cons.mp m with e | m
  · rw [e]; exact lay_up (lay_str (ok_op _ ms)) (by omega)
  · obtain ⟨a, ma, rfl⟩ := List.mem_map.mp m
    obtain ⟨i, ei⟩ := List.getElem?_of_mem ma
    have li := (List.getElem?_eq_some_iff.mp ei).1
    exact lay_arg (ft i _ a (List.getElem?_eq_getElem (by rw [l]; exact li)) ei)
theorem lay_deed {hid : Nat} {p : Int} {d : Deed} (g : GoodD hid p d) : (dDeed d).canLay0 = true ∧ (dDeed d).depth ≤ 5 := by
  unfold dDeed
  refine lay_tup fun e m => ?_
  simp only [List.mem_cons, List.not_mem_nil, or_false] at m
  rcases m with e | e | e
  · rw [e]; exact lay_up (lay_str (ok_name g.name)) (by omega)
  · rw [e]; exact lay_up (lay_int _) (by omega)
  · rw [e]
    refine lay_tup fun d m => ?_
    obtain ⟨x, mx, rfl⟩ := List.mem_map.mp m
    exact lay_ins (g.ins x mx)
theorem lay_ds {hid : Nat} {p : Int} {ds : List Deed} (g : ∀ d ∈ ds, GoodD hid p d) : (dDs ds).canLay0 = true ∧ (dDs ds).depth ≤ 6 := by
  unfold dDs
  refine lay_tup fun d m => ?_
  obtain ⟨x, mx, rfl⟩ := List.mem_map.mp m
  exact lay_deed (g x mx)
theorem shaped_of {d : PyData} {n : Nat} (h : d.canLay0 = true ∧ d.depth ≤ n) (l : n ≤ 64) : SeqAt.shaped d = true := by
  unfold SeqAt.shaped
  rw [h.1, decide_eq_true (Nat.le_trans h.2 l)]; rfl
theorem eqv_str (x y : Str) : PyData.eqv (.str x) (.str y) = decide (x = y) := by
  rw [PyData.eqv]
  by_cases c : x = y <;> simp [c]
theorem eqv_int (x y : Int) : PyData.eqv (.int x) (.int y) = decide (x = y) := by
  rw [PyData.eqv]
  by_cases c : x = y <;> simp [c]
theorem eqv_arg (a b : Arg) : PyData.eqv (dArg a) (dArg b) = decide (a = b) := by
  cases a with
  | w z =>
    cases b with
    | w y => unfold dArg; rw [eqv_str]; simp
    | n j => unfold dArg; rw [PyData.eqv]; simp
    | ways l => unfold dArg; rw [PyData.eqv]; simp
  | n i =>
    cases b with
    | w y => unfold dArg; rw [PyData.eqv]; simp
    | n j => unfold dArg; rw [eqv_int]; simp
    | ways l => unfold dArg; rw [PyData.eqv]; simp
  | ways k =>
    cases b with
    | w y => unfold dArg; rw [PyData.eqv]; simp
    | n j => unfold dArg; rw [PyData.eqv]; simp
    | ways l =>
      unfold dArg
      rw [PyData.eqv, eqvAll_map (fun x y => ?_) k l]
      · exact decide_eq_decide.mpr ⟨fun e => by rw [e], fun e => by injection e⟩
      · rw [PyData.eqv, PyData.eqvAll, eqv_str, PyData.eqvAll, eqv_int, PyData.eqvAll]
        by_cases c1 : x.1 = y.1
        · by_cases c2 : x.2 = y.2
          · simp [c1, c2, Prod.ext_iff]
          · simp [c2, Prod.ext_iff]
        · simp [c1, Prod.ext_iff]
theorem eqv_ins (x y : Ins) : PyData.eqv (dIns x) (dIns y) = decide (x = y) := by
  unfold dIns
  rw [PyData.eqv, PyData.eqvAll, eqv_str, eqvAll_map eqv_arg]
  by_cases c1 : x.1 = y.1
  · by_cases c2 : x.2 = y.2
    · simp [c1, c2, Prod.ext_iff]
    · simp [c2, Prod.ext_iff]
  · simp [c1, Prod.ext_iff]
theorem eqv_deed (x y : Deed) : PyData.eqv (dDeed x) (dDeed y) = decide (x = y) := by
  unfold dDeed
  rw [PyData.eqv, PyData.eqvAll, eqv_str, PyData.eqvAll, eqv_int, PyData.eqvAll, PyData.eqv, eqvAll_map eqv_ins, PyData.eqvAll]
  by_cases c1 : x.1 = y.1
  · by_cases c2 : x.2.1 = y.2.1
    · by_cases c3 : x.2.2 = y.2.2
      · simp [c1, c2, c3, Prod.ext_iff]
      · simp [c3, Prod.ext_iff]
    · simp [c2, Prod.ext_iff]
  · simp [c1, Prod.ext_iff]
theorem eqv_ds (a b : List Deed) : PyData.eqv (dDs a) (dDs b) = decide (a = b) := by
  unfold dDs
  rw [PyData.eqv]
  exact eqvAll_map eqv_deed a b
theorem cod_h (h : Int) (d : V) (p : Int) (a : V) : (codF h d p a).lookup ("_hidden" : Str) = some (.int h) := by
  unfold codF
  rw [lookup_putF, if_neg (by decide +kernel), lookup_putF, if_neg (by decide +kernel), lookup_putF, if_neg (by decide +kernel), lookup_putF, if_pos rfl]
theorem cod_d (h : Int) (d : V) (p : Int) (a : V) : (codF h d p a).lookup ("_deeds" : Str) = some d := by
  unfold codF
  rw [lookup_putF, if_neg (by decide +kernel), lookup_putF, if_neg (by decide +kernel), lookup_putF, if_pos rfl]
theorem cod_p (h : Int) (d : V) (p : Int) (a : V) : (codF h d p a).lookup ("_prime" : Str) = some (.int p) := by
  unfold codF
  rw [lookup_putF, if_neg (by decide +kernel), lookup_putF, if_pos rfl]
theorem cod_a (h : Int) (d : V) (p : Int) (a : V) : (codF h d p a).lookup ("_asks" : Str) = some a := by
  unfold codF
  rw [lookup_putF, if_pos rfl]
theorem cod_no (h : Int) (d : V) (p : Int) (a : V) {m : Str} (h1 : ¬ m = "_asks") (h2 : ¬ m = "_prime") (h3 : ¬ m = "_deeds") (h4 : ¬ m = "_hidden") : (codF h d p a).lookup m = none := by
  unfold codF
  rw [lookup_putF, if_neg h1, lookup_putF, if_neg h2, lookup_putF, if_neg h3, lookup_putF, if_neg h4]
  all_goals rfl
def sp_Coded_hidden (_ : PySem.W.Frag) (C : Addr) : Sp := fun vs H Q _ => ∃ (x : Addr) (hid : Nat) (ds : List Deed) (p : Int), vs = [.ref x] ∧ CodV C H x hid ds p ∧ Q (.int (hid : Nat)) H
def sp_Coded_prime (_ : PySem.W.Frag) (C : Addr) : Sp := fun vs H Q _ => ∃ (x : Addr) (hid : Nat) (ds : List Deed) (p : Int), vs = [.ref x] ∧ CodV C H x hid ds p ∧ Q (.int p) H
def sp_Coded_deeds (_ : PySem.W.Frag) (C : Addr) : Sp := fun vs H Q _ => ∃ (x : Addr) (hid : Nat) (ds : List Deed) (p : Int), vs = [.ref x] ∧ CodV C H x hid ds p ∧ ∀ dv, DeedsV H dv ds → Q dv H
def sp_Coded_asks (_ : PySem.W.Frag) (C : Addr) : Sp := fun vs H Q _ => ∃ (x : Addr) (hid : Nat) (ds : List Deed) (p : Int), vs = [.ref x] ∧ CodV C H x hid ds p ∧ ∀ av, AskdV H av ds → Q av H
def sp_Coded___eq__ (_ : PySem.W.Frag) (C : Addr) : Sp := fun vs H Q _ => ∃ (x : Addr) (hid : Nat) (ds : List Deed) (p : Int) (y : V), vs = [.ref x, y] ∧ CodV C H x hid ds p ∧
  (((∃ i, y = .int i) ∨ ∃ b xs, y = .ref b ∧ H b = some (.tup xs)) ∧ Q (.bl false) H ∨ ∃ (b : Addr) (hid2 : Nat) (ds2 : List Deed) (p2 : Int), y = .ref b ∧ CodV C H b hid2 ds2 p2 ∧ Q (.bl (decide (hid = hid2 ∧ ds = ds2 ∧ p = p2))) H)
section
variable {P : Program} {w : World} {K : PySem.W.Frag} {mg : Str → Option Value} {base : Heap}
theorem ok_Coded_hidden {c_Coded : Addr} {c_Machine : Addr} {c_CodeReader : Addr} {c_REGISTERS : Addr} {c_CELLS : Addr} {c_SHAPES : Addr} (T : Tx K mg c_Coded c_Machine c_CodeReader c_REGISTERS c_CELLS c_SHAPES w)  {f : Addr} {fd : FuncData} (F : HereM K c_Coded "hidden" "Coded.hidden" s_Coded_hidden ["self"] f fd) : CalM P w K mg base c_Coded "hidden" 1 ["self"] (sp_Coded_hidden K c_Coded) s_Coded_hidden f fd := by
  refine F.cal sc_Coded_hidden (fun vs H Q E h => ?_) (fun cdv A outer s H vs Q E hr h => ?_)
  · obtain ⟨x, hid, ds, p, rfl, _⟩ := h
    rfl
  · obtain ⟨x, hid, ds, p, rfl, ⟨dx, dv, av, hx, hd, ha, g⟩, q⟩ := h
    refine ⟨_, (pss_one (ps_ret (pe_fldK (K := K) (pv 0) rfl))), ?_⟩
    have cl := T.cl_Coded
    have n1 := T.na__hidden
    have l1 := cod_h (hid : Nat) dv p av
    walk_at "st"
    exact q
theorem ok_Coded_prime {c_Coded : Addr} {c_Machine : Addr} {c_CodeReader : Addr} {c_REGISTERS : Addr} {c_CELLS : Addr} {c_SHAPES : Addr} (T : Tx K mg c_Coded c_Machine c_CodeReader c_REGISTERS c_CELLS c_SHAPES w)  {f : Addr} {fd : FuncData} (F : HereM K c_Coded "prime" "Coded.prime" s_Coded_prime ["self"] f fd) : CalM P w K mg base c_Coded "prime" 1 ["self"] (sp_Coded_prime K c_Coded) s_Coded_prime f fd := by
  refine F.cal sc_Coded_prime (fun vs H Q E h => ?_) (fun cdv A outer s H vs Q E hr h => ?_)
  · obtain ⟨x, hid, ds, p, rfl, _⟩ := h
    rfl
  · obtain ⟨x, hid, ds, p, rfl, ⟨dx, dv, av, hx, hd, ha, g⟩, q⟩ := h
    refine ⟨_, (pss_one (ps_ret (pe_fldK (K := K) (pv 0) rfl))), ?_⟩
    have cl := T.cl_Coded
    have n1 := T.na__prime
    have l1 := cod_p (hid : Nat) dv p av
    walk_at "st"
    exact q
theorem ok_Coded_deeds {c_Coded : Addr} {c_Machine : Addr} {c_CodeReader : Addr} {c_REGISTERS : Addr} {c_CELLS : Addr} {c_SHAPES : Addr} (T : Tx K mg c_Coded c_Machine c_CodeReader c_REGISTERS c_CELLS c_SHAPES w)  {f : Addr} {fd : FuncData} (F : HereM K c_Coded "deeds" "Coded.deeds" s_Coded_deeds ["self"] f fd) : CalM P w K mg base c_Coded "deeds" 1 ["self"] (sp_Coded_deeds K c_Coded) s_Coded_deeds f fd := by
  refine F.cal sc_Coded_deeds (fun vs H Q E h => ?_) (fun cdv A outer s H vs Q E hr h => ?_)
  · obtain ⟨x, hid, ds, p, rfl, _⟩ := h
    rfl
  · obtain ⟨x, hid, ds, p, rfl, ⟨dx, dv, av, hx, hd, ha, g⟩, q⟩ := h
    refine ⟨_, (pss_one (ps_ret (pe_fldK (K := K) (pv 0) rfl))), ?_⟩
    have cl := T.cl_Coded
    have n1 := T.na__deeds
    have l1 := cod_d (hid : Nat) dv p av
    walk_at "st"
    exact q dv hd
theorem ok_Coded_asks {c_Coded : Addr} {c_Machine : Addr} {c_CodeReader : Addr} {c_REGISTERS : Addr} {c_CELLS : Addr} {c_SHAPES : Addr} (T : Tx K mg c_Coded c_Machine c_CodeReader c_REGISTERS c_CELLS c_SHAPES w)  {f : Addr} {fd : FuncData} (F : HereM K c_Coded "asks" "Coded.asks" s_Coded_asks ["self"] f fd) : CalM P w K mg base c_Coded "asks" 1 ["self"] (sp_Coded_asks K c_Coded) s_Coded_asks f fd := by
  refine F.cal sc_Coded_asks (fun vs H Q E h => ?_) (fun cdv A outer s H vs Q E hr h => ?_)
  · obtain ⟨x, hid, ds, p, rfl, _⟩ := h
    rfl
  · obtain ⟨x, hid, ds, p, rfl, ⟨dx, dv, av, hx, hd, ha, g⟩, q⟩ := h
    refine ⟨_, (pss_one (ps_ret (pe_fldK (K := K) (pv 0) rfl))), ?_⟩
    have cl := T.cl_Coded
    have n1 := T.na__asks
    have l1 := cod_a (hid : Nat) dv p av
    walk_at "st"
    exact q av ha
theorem ok_Coded___eq__ {c_Coded : Addr} {c_Machine : Addr} {c_CodeReader : Addr} {c_REGISTERS : Addr} {c_CELLS : Addr} {c_SHAPES : Addr} (T : Tx K mg c_Coded c_Machine c_CodeReader c_REGISTERS c_CELLS c_SHAPES w)  {f : Addr} {fd : FuncData} (F : HereM K c_Coded "__eq__" "Coded.__eq__" s_Coded___eq__ ["self", "other"] f fd) : CalM P w K mg base c_Coded "__eq__" 1 ["self", "other"] (sp_Coded___eq__ K c_Coded) s_Coded___eq__ f fd := by
  refine F.cal sc_Coded___eq__ (fun vs H Q E h => ?_) (fun cdv A outer s H vs Q E hr h => ?_)
  · obtain ⟨x, hid, ds, p, y, rfl, _⟩ := h
    rfl
  · obtain ⟨x, hid, ds, p, y, rfl, ⟨dx, dv, av, hx, hd, ha, g⟩, h⟩ := h
    refine ⟨_, (pss_one (ps_ret (pe_and (pe_callB (cr_isiK (K := K)) (by rfl) T.m_isinstance (by decide +kernel) (pa_cons (pv 1) (pa_cons (pe_glob (v := .ref c_Coded) (by rfl) T.g_Coded rfl) pa_nil))) (pe_and (pe_cmpR op_eq (pe_fldK (K := K) (pv 0) rfl) (pe_fldK (K := K) (pv 1) rfl) (nomark _)) (pe_and (pe_cmpR (op_eqDK (K := K) (hu_of64 hr)) (pe_fldK (K := K) (pv 0) rfl) (pe_fldK (K := K) (pv 1) rfl) (nomark _)) (pe_one (pe_cmpR op_eq (pe_fldK (K := K) (pv 0) rfl) (pe_fldK (K := K) (pv 1) rfl) (nomark _)))))))), ?_⟩
    have cl := T.cl_Coded
    have n1 := T.na__hidden
    have n2 := T.na__deeds
    have n3 := T.na__prime
    have l1 := cod_h (hid : Nat) dv p av
    have l2 := cod_d (hid : Nat) dv p av
    have l3 := cod_p (hid : Nat) dv p av
    walk_at "st"
    rcases h with ⟨ky, q⟩ | ⟨b, hid2, ds2, p2, rfl, ⟨dx2, dv2, av2, hb, hd2, ha2, g2⟩, q⟩
    · have no : ∀ (t : Value) {Z : VK}, TyX K H y t → t ≠ .ref c_Coded → PySem.W.subIn K t (.ref c_Coded) = some false → Z (.bl false) H → rIsi K [y, .ref c_Coded] H Z := fun t Z ty ne sb z =>
        ⟨y, _, t, _, false, rfl, .own _, ty, kit_cls ne T.ic_Coded T.tc_Coded sb, z⟩
      rcases ky with ⟨i, rfl⟩ | ⟨b, xs, rfl, hb⟩
      · exact no _ (.base (.int i)) (fun e => nomatch e) sub_int ⟨false, rfl, q⟩
      · exact no _ (.base (.tup hb)) (fun e => nomatch e) sub_tuple ⟨false, rfl, q⟩
    · refine ⟨_, _, _, _, true, rfl, .own _, .base (.ins hb T.cl_Coded T.oc_Coded T.gd_object T.td_object T.mo_Coded), kit_same, true, rfl, ?_⟩
      have k1 := cod_h (hid2 : Nat) dv2 p2 av2
      have k2 := cod_d (hid2 : Nat) dv2 p2 av2
      have k3 := cod_p (hid2 : Nat) dv2 p2 av2
      walk_at "st"
      have e1 : decide (V.int (hid : Nat) = V.int (hid2 : Nat)) = decide (hid = hid2) := decide_eq_decide.mpr ⟨fun e => by injection e with e; omega, fun e => by rw [e]⟩
      rw [e1]
      by_cases c1 : hid = hid2
      · rw [if_pos (decide_eq_true c1)]
        walk_at "st"
        refine ⟨_, _, dp_ds hd, dp_ds hd2, shaped_of (lay_ds g.good) (by decide), shaped_of (lay_ds g2.good) (by decide), ?_⟩
        rw [eqv_ds]
        walk_at "st"
        by_cases c2 : ds = ds2
        · rw [if_pos (decide_eq_true c2)]
          walk_at "st"
          have e3 : decide (V.int p = V.int p2) = decide (hid = hid2 ∧ ds = ds2 ∧ p = p2) := decide_eq_decide.mpr ⟨fun e => by injection e with e; exact ⟨c1, c2, e⟩, fun e => by rw [e.2.2]⟩
          rw [e3]; exact q
        · rw [if_neg (by simp [c2])]
          rw [decide_eq_false fun z => c2 z.2.1] at q
          exact q
      · rw [if_neg (by simp [c1])]
        rw [decide_eq_false fun z => c1 z.1] at q
        exact q
/-! ### how one is made -/
theorem cod_b {f : Addr} {fd : FuncData} (F : FunD K "__init__" "Coded.__init__" (defArgs s_Coded___init__) (defBody s_Coded___init__) (defScope s_Coded___init__) [] [("prime", V.int 97)] f fd) : ∃ ds, Vals [V.int 97] ds ∧ Binds K fd ["self", "hidden", "deeds", "prime"] ds :=
  F.binds0 3 (by simp) rfl fun D doc pm an cdv ct us ks h1 h2 => match us, h1, ks, h2 with
    | [_, _, _], _, [_], _ => ⟨_, _, _, _, _, _, rfl, rfl, rfl⟩
theorem cod_k1 {f : Addr} {fd : FuncData} (F : FunD K "__init__" "Coded.__init__" (defArgs s_Coded___init__) (defBody s_Coded___init__) (defScope s_Coded___init__) [] [("prime", V.int 97)] f fd) : KBn K fd ["self", "hidden", "deeds", "prime"] 3 ["prime"] (fun us ws => us ++ ws) (fun vs zs => vs ++ zs) := by
  obtain ⟨mv, h⟩ := F.kbinds0 (ps := ["self", "hidden", "deeds", "prime"]) 3 ["prime"] [] (fun us _ ws => us ++ ws) (by simp) (fun q m => by cases m) (fun r1 _ r3 => r1.append r3) fun D doc pm an cdv ct us mv ws h1 h2 h3 => match us, h1, mv, h2, ws, h3 with
    | [_, _, _], _, [], _, [_], _ => show bindArgs _ _ = pure _ from rfl
  exact h
theorem cod_k2 {f : Addr} {fd : FuncData} (F : FunD K "__init__" "Coded.__init__" (defArgs s_Coded___init__) (defBody s_Coded___init__) (defScope s_Coded___init__) [] [("prime", V.int 97)] f fd) : KBn K fd ["self", "hidden", "deeds", "prime"] 1 ["prime", "deeds", "hidden"] (fun us ws => us ++ ws.reverse) (fun vs zs => vs ++ zs.reverse) := by
  obtain ⟨mv, h⟩ := F.kbinds0 (ps := ["self", "hidden", "deeds", "prime"]) 1 ["prime", "deeds", "hidden"] [] (fun us _ ws => us ++ ws.reverse) (by simp) (fun q m => by cases m) (fun r1 _ r3 => r1.append (vals_rev r3)) fun D doc pm an cdv ct us mv ws h1 h2 h3 => match us, h1, mv, h2, ws, h3 with
    | [_], _, [], _, [_, _, _], _ => show bindArgs _ _ = pure _ from rfl
  exact h
end
/-! ### list(text) -/
section
variable {P : Program} {w : World} {A : Around} {E : Value → Shared → Prop} {s : Shared}
theorem hint_text {x : Str} {t : Tok} {Q : Bool → Shared → Prop} (q : Q false s) : wpAny (model P w) A (Builtin.List.listLengthHint (.str x t)) Q E s := by
  unfold Builtin.List.listLengthHint
  refine wpAny_bind (wpAny_specialOf (typeIs_str s x t) F.slot_str_len.lookup ?_)
  generalize hn : ("str.__len__" : String) = nm
  wp_delta
  rw [show splitId nm = some ("str", "__len__") from by subst hn; decide +kernel]
  subst hn
  refine wpAny_bind (wpAny_isInstance (T := "str") (b := true) (typeIs_str s x t) (by rw [isSubtype_type]; kernel_rfl) ?_)
  refine wpAny_ite_split (fun z => absurd z (by decide)) (fun _ => ?_); refine wpAny_ite_split (fun _ => ?_) (fun z => absurd (by decide +kernel) z)
  exact wpAny_bind (wpAny_typeOf (typeIs_str s x t) (wpAny_pure q))
theorem extend_text {R : Result → Shared → Prop} {x : Str} {t : Tok} (hh : A.handled = none) (len : x.length ≤ 2 ^ 24) (S : Addr) (res : Value) (c0 : Nat) (hS : s.heap.get? S = some { cls := .type "list", data := .seq #[] c0 })
    (fin : ∀ h' tk acc c', (∀ b o, b ≠ S → s.heap.get? b = some o → h'.get? b = some o) → h'.get? S = some { cls := .type "list", dict := none, data := .seq acc c', slots := #[] } → ItemsOf (SignAt x) acc x.length → R (.ok (.ret res)) { s with heap := h', toks := tk }) :
    wpAny (model P w) A.in1 (Builtin.List.listExtendWith (.ref S) (.str x t) res) (fun fin s' => match fin with | .done f => R (.ok f) s' | .again c' => c'.quiet = true ∧ codeAny (model P w) A c' R s') (fun e s' => R (.error e) s') s := by
  have lt : S < s.heap.objs.size := Heap.lt_size hS
  have ne : S ≠ s.heap.objs.size := Nat.ne_of_lt lt
  have out : S ∉ [s.heap.objs.size] := fun m => ne (List.mem_singleton.mp m)
  unfold Builtin.List.listExtendWith
  refine wpAny_bind (wpAny_typeOf (typeIs_str s x t) ?_)
  have h1 : Builtin.List.listSameRef (.ref S) (.str x t) = false := rfl
  have h2 : (Value.type "str" == Value.type "list") = false := by decide
  have h3 : (Value.type "str" == Value.type "tuple") = false := by decide
  simp only [h1, h2, h3, Bool.or_false, Bool.false_eq_true, if_false]
  refine wpAny_bind (wpAny_pyIter_str fun ob St W st0 => ?_)
  have W1 := (W A.in1 hh).toS
  have key : ∀ (h : Heap) (c1 tk : Nat), St 0 h → (∀ b o, b ≠ S → s.heap.get? b = some o → h.get? b = some o) → h.get? S = some { cls := .type "list", data := .seq #[] c1 } →
      codeAny (model P w) A (.builtin "list.extend.loop" ⟨[.ref S, .ref s.heap.objs.size, res], []⟩) R { s with heap := h, toks := tk } := by
    intro h c1 tk st kp hS1
    refine codeAny_extend_loopS W1 (by rw [sizeLine_eq]; exact Nat.le_trans len (by decide)) S out res x.cps.size 0 _ #[] c1 rfl (Nat.zero_le _) st hS1 (ItemsOf.nil _) fun s' acc c' mv hS2 items => ?_
    rw [Moved.eq_with mv]
    refine fin s'.heap s'.toks acc c' (fun b o nb e => mv.heap b o (fun m => ?_) (kp b o nb e)) hS2 items
    rcases List.mem_cons.mp m with e2 | m
    · exact nb e2
    · exact absurd (Heap.lt_size e) (by rw [List.mem_singleton.mp m]; exact Nat.lt_irrefl _)
  refine wpAny_bind (wpAny_holding (hint_text ?_))
  have hS1 := Heap.get?_push_of_some ob hS
  refine wpAny_ite_split (fun z => absurd z (by decide)) (fun _ => wpAny_pure ⟨plainId_quiet F.plain_extend_loop _, key _ c0 _ st0 (fun b o _ e => Heap.get?_push_of_some _ e) hS1⟩)
theorem list_of_text {x : Str} {t : Tok} {Q : Value → Shared → Prop} (hh : A.handled = none) (len : x.length ≤ 2 ^ 24)
    (fin : ∀ h' tk acc c', (∀ b o, s.heap.get? b = some o → h'.get? b = some o) → h'.get? s.heap.objs.size = some { cls := .type "list", dict := none, data := .seq acc c', slots := #[] } → ItemsOf (SignAt x) acc x.length → Q (.ref s.heap.objs.size) { s with heap := h', toks := tk }) :
    wpAny (model P w) A (call (.type "list") [.str x t]) Q E s := by
  refine callType_codes (Q₁ := fun ob s1 => ob = .ref s.heap.objs.size ∧ s1 = { s with heap := s.heap.push { cls := .type "list", data := .seq #[] } }) F.called_list (F.typeCall_list_1 _) F.entry_list_init (code_list_new _ ⟨rfl, rfl⟩) fun ob s1 z => ?_
  obtain ⟨rfl, rfl⟩ := z
  generalize ho0 : ({ cls := .type "list", data := .seq #[] } : Obj) = o0 at *
  have hS : (s.heap.push o0).get? s.heap.objs.size = some o0 := Heap.get?_push_size _ (by rw [← ho0]; rfl)
  refine ⟨⟨_, hS, by rw [← ho0]⟩, F.args_list_init_2 _ _, ?_⟩
  subst ho0
  show wpAny _ _ (do let old ← Builtin.List.listItems (.ref s.heap.objs.size); Builtin.List.listUpdate (.ref s.heap.objs.size) (fun _ => #[]); letGo old.toList.reverse; Builtin.List.listExtendWith (.ref s.heap.objs.size) (.str x t) .none) _ _ _
  refine wpAny_bind ?_
  unfold Builtin.List.listItems
  refine wpAny_bind (wpAny_seqItems hS rfl (wpAny_pure ?_))
  show wpAny _ _ (updateSeq s.heap.objs.size (fun _ => #[]) >>= fun _ => letGo (#[] : Array Value).toList.reverse >>= fun _ => Builtin.List.listExtendWith (.ref s.heap.objs.size) (.str x t) .none) _ _ _
  refine wpAny_bind (wpAny_updateSeq hS rfl ?_)
  have hS2 := Heap.get?_update_self (Obj.mapSeq (fun _ => (#[] : Array Value))) hS rfl
  refine wpAny_bind (wpAny_letGo ?_)
  refine extend_text (A := A.in1) hh len _ .none _ hS2 fun h' tk acc c' kp hS3 items => ⟨rfl, fin h' tk acc c' (fun b o e => ?_) hS3 items⟩
  have nb : b ≠ s.heap.objs.size := Nat.ne_of_lt (Heap.lt_size e)
  exact kp b o nb ((Heap.get?_update_other _ _ (Ne.symm nb)).trans (Heap.get?_push_of_some _ e))
end
theorem vals_at : ∀ {xs : List V} {us : List Value}, xs.length = us.length → (∀ (i : Nat) x u, xs[i]? = some x → us[i]? = some u → RelV x u) → Vals xs us
  | [], [], _, _ => .nil
  | x :: xs, u :: us, l, h => .cons (h 0 x u rfl rfl) (vals_at (by simpa using l) fun i x u e1 e2 => h (i + 1) x u (by simpa using e1) (by simpa using e2))
  | [], _ :: _, l, _ => by simp at l
  | _ :: _, [], l, _ => by simp at l
def sgn1 (c : Nat) : V := .str ⟨#[c]⟩
def rListS : List V → Hp → VK → Prop := fun xs H Q => ∃ z : Str, xs = [.str z] ∧ z.length ≤ 1000 ∧ ∀ l, H l = none → Q (.ref l) (upd H l (.lst (z.cps.toList.map sgn1)))
theorem cr_listS {X : Cx} (hc : X.calm = true) : CallR X (.type "list") rListS := by
  intro pins s σ H xs us Q I r h
  obtain ⟨z, rfl, lz, q⟩ := h
  obtain ⟨u, rfl, t, rfl⟩ := vals1 r
  refine list_of_text (I.ok.hd hc) (Nat.le_trans lz (by decide)) fun h' tk acc c' kp e items => ?_
  have sz : z.cps.toList.length ≤ sizeLine := by rw [Array.length_toList]; exact Nat.le_trans lz (by decide)
  refine ⟨.ref s.heap.objs.size, _, I.laid (t' := tk) kp (Nat.le_refl _) (show ObjOk X.prog X.w _ h' _ (.lst (z.cps.toList.map sgn1)) from ⟨by rw [List.length_map]; exact sz, acc.toList, c', vals_at (by rw [List.length_map, Array.length_toList, Array.length_toList, items.1]; rfl) fun i x u e1 e2 => ?_, by simpa using e⟩), rfl, q _ (I.hok.fresh (Nat.le_refl _))⟩
  rw [Array.getElem?_toList] at e2
  obtain ⟨c, k, ec, rfl⟩ := items.2 i u e2
  rw [List.getElem?_map, Array.getElem?_toList, ec] at e1
  rw [← Option.some.inj e1]
  exact ⟨k, rfl⟩
/-! ### dict(pairs), the keys tuples -/
def putAllK (acc kvs : List (List Key × V)) : List (List Key × V) := kvs.foldl (fun a kv => putK a kv.1 kv.2) acc
def PrAt (H : Hp) (p : Addr) (kv : List Key × V) : Prop := ∃ q : Addr, H p = some (.tup [.ref q, kv.2]) ∧ H q = some (.tup (kv.1.map kV))
def rDictPT : List V → Hp → VK → Prop := fun xs H Q => ∃ (a : Addr) (ps : List Addr) (kvs : List (List Key × V)), xs = [.ref a] ∧ H a = some (.lst (ps.map V.ref)) ∧ Paired (PrAt H) ps kvs ∧ ∀ p, H p = none → Q (.ref p) (upd H p (.dT (putAllK [] kvs)))
section
variable {X : Cx}
theorem raw_prs {pins : List (Addr × Obj)} {σ : L2.St} {H : Hp} {s : Shared} (I : Inv X pins σ H s) {ps : List Addr} {kvs : List (List Key × V)} (h : Paired (PrAt H) ps kvs) :
    ∃ prs : List (List Key × Addr × Value), KT H kvs prs ∧ prs.length = ps.length ∧ ∀ (j : Nat) p x, ps[j]? = some p → prs[j]? = some x → PairAt s.heap p (.ref x.2.1) x.2.2 := by
  induction h with
  | nil => exact ⟨[], .nil, rfl, fun j p x e => by simp at e⟩
  | @cons p kv ps kvs h _ ih =>
    obtain ⟨prs, r, l, hp⟩ := ih
    obtain ⟨q, h1, h2⟩ := h
    obtain ⟨_, its, rv, o, e1, e2, n, e3⟩ := (show ObjOk X.prog X.w H s.heap p (.tup [.ref q, kv.2]) from I.hok p _ h1)
    match its, rv with
    | [u1, u2], .cons r1 (.cons r2 .nil) =>
      cases (show u1 = Value.ref q from r1)
      refine ⟨(kv.1, q, u2) :: prs, .cons ⟨rfl, h2, r2⟩ r, by rw [List.length_cons, List.length_cons, l], fun j p' x ep ex => ?_⟩
      cases j with
      | zero =>
        rw [← Option.some.inj (show some p = some p' from ep), ← Option.some.inj (show some (kv.1, q, u2) = some x from ex)]
        exact .inl ⟨o, e1, e2, n, e3⟩
      | succ j => exact hp j p' x (by simpa using ep) (by simpa using ex)
theorem kt_all {H : Hp} : ∀ {kvs : List (List Key × V)} {prs : List (List Key × Addr × Value)} {acc : List (List Key × V)} {xs : List (List Key × Addr × Value)}, KT H acc xs → KT H kvs prs → KT H (putAllK acc kvs) (storedAllH xs prs)
  | _, _, _, _, r, .nil => r
  | kv :: kvs, x :: prs, acc, xs, r, .cons h t => by
    obtain ⟨h1, h2, h3⟩ := h
    have step := r.put kv.1 h2 h3
    rw [show storedH xs kv.1 x.2.1 x.2.2 = storedH xs x.1 x.2.1 x.2.2 by rw [h1]] at step
    show KT H (putAllK (putK acc kv.1 kv.2) kvs) (storedAllH (storedH xs x.1 x.2.1 x.2.2) prs)
    exact kt_all step t
theorem putAllK_len : ∀ (kvs acc : List (List Key × V)), (putAllK acc kvs).length ≤ acc.length + kvs.length
  | [], acc => Nat.le_refl _
  | kv :: kvs, acc => by
    have h1 := putAllK_len kvs (putK acc kv.1 kv.2)
    have h2 := length_putK acc kv.1 kv.2
    rw [List.length_cons]
    show (putAllK (putK acc kv.1 kv.2) kvs).length ≤ _
    omega
theorem kt_len {H : Hp} : ∀ {kvs : List (List Key × V)} {prs : List (List Key × Addr × Value)}, KT H kvs prs → kvs.length = prs.length
  | _, _, .nil => rfl
  | _, _, .cons _ t => by rw [List.length_cons, List.length_cons, kt_len t]
theorem kt_in {H : Hp} : ∀ {kvs : List (List Key × V)} {prs : List (List Key × Addr × Value)}, KT H kvs prs → ∀ x ∈ prs, H x.2.1 = some (.tup (x.1.map kV))
  | _, _, .nil, x, m => by cases m
  | _, _, .cons h t, x, m => by
    rcases List.mem_cons.mp m with e | m
    · rw [e, ← h.1]; exact h.2.1
    · exact kt_in t x m
theorem cr_dictPT (hc : X.calm = true) (hu : X.A.units + 64 < cLine) : CallR X (.type "dict") rDictPT := by
  intro pins s σ H xs us Q I r h
  obtain ⟨a, ps, kvs, rfl, ha, hp, q⟩ := h
  obtain ⟨u, rfl, rx⟩ := vals1 r
  cases rx
  obtain ⟨its, rv, pl, hz⟩ := I.list (SqL.of ha)
  have ei := refs_at rv
  subst ei
  obtain ⟨prs, rel, lp, hpr⟩ := raw_prs I hp
  rw [List.length_map] at hz
  obtain ⟨o, n, ho, hcl, hd, hdat⟩ := pl
  have items : PairItems s.heap (ps.map Value.ref).toArray (fun j => ps.getD j 0) (prs.map fun x => (Value.ref x.2.1, x.2.2)) := by
    refine ⟨by simp [lp], fun j k v e => ?_⟩
    rw [List.getElem?_map] at e
    cases ex : prs[j]? with
    | none => rw [ex] at e; cases e
    | some x =>
      rw [ex] at e
      cases e
      have lj : j < ps.length := by rw [← lp]; exact (List.getElem?_eq_some_iff.mp ex).1
      have ep : ps[j]? = some ps[j] := List.getElem?_eq_getElem lj
      have eg : ps.getD j 0 = ps[j] := by rw [List.getD_eq_getElem?_getD, ep]; rfl
      show (ps.map Value.ref).toArray[j]? = some (.ref (ps.getD j 0)) ∧ PairAt s.heap (ps.getD j 0) _ _
      rw [eg]
      exact ⟨by simp [ep], hpr j _ x ep ex⟩
  refine call_dict_pairsH (knd := tupleKind (mixKind X.prog X.w)) (ps := prs) (PairArg.list a _ (fun j => ps.getD j 0) (prs.map fun x => (Value.ref x.2.1, x.2.2))) (I.ok.hd hc) (by show X.A.units + 1 + 1 < cLine; omega) ⟨⟨o, n, ho, hcl, hd, hdat⟩, items⟩
    ⟨by rw [List.length_map], fun i key v e => ?_⟩ (fun h' kp x mx => ?_) (by rw [List.length_map, lp]; exact hz) fun h' tk dd kp => ?_
  · have e : (prs.map fun x => (Value.ref x.2.1, x.2.2))[i]? = some (key, v) := e
    rw [List.getElem?_map] at e
    cases ex : prs[i]? with
    | none => rw [ex] at e; cases e
    | some x => rw [ex] at e; cases e; exact ⟨x.1, x.2.1, rfl, rfl⟩
  · have hx := key_of I.hok (kt_in rel x mx)
    exact IsK.to hx fun o e => kp _ o (Nat.ne_of_lt (Heap.lt_size e)) (by simp) e
  · have kp2 : ∀ b o, s.heap.get? b = some o → h'.get? b = some o := fun b o e => kp b o (by simp) e
    have lk := kt_len rel
    have l2 := putAllK_len kvs []
    rw [List.length_nil] at l2
    have hm : (s.heap.objs.size == sysModules) = false := beq_eq_false_iff_ne.mpr (Nat.ne_of_gt I.big)
    have fr := I.hok.fresh (Nat.le_refl s.heap.objs.size)
    have kt : KT (upd H s.heap.objs.size (.dT (putAllK [] kvs))) (putAllK [] kvs) (storedAllH [] prs) := (kt_all (xs := []) (acc := []) .nil rel).keeps fun c ys e => hl_new e fr
    obtain ⟨o2, es, ep, ho2, x1, x2, x3, _, x4⟩ := dd
    exact ⟨.ref s.heap.objs.size, _, I.laid (t' := tk) kp2 (Nat.le_refl _) (show ObjOk X.prog X.w _ h' _ (.dT (putAllK [] kvs)) from ⟨by omega, hm, _, kt, o2, es, ep, ho2, x1, x2, x3, x4⟩), rfl, q _ fr⟩
end
local macro_rules | `(tactic| walk_at "ssz") => `(tactic| first | decide | exact str_small (by assumption) | (have : (1000000 : Nat) ≤ sizeLine := (by decide); omega))
local macro_rules | `(tactic| walk_at "st1") => `(tactic| first
  | with_reducible refine' r_nt ?_ | with_reducible refine' r_nf ?_
  | ((with_reducible refine r_lenS ?e1 ?_); (case e1 => walk_at "ssz"))
  | with_reducible refine r_inS ?_
  | with_reducible refine r_ninS ?_
  | ((with_reducible refine r_addS ?e1 ?_); (case e1 => walk_at "ssz"))
  | ((with_reducible refine' r_ixS ?e1 ?e2 ?_); (case e1 => walk_at "ssz"); (case e2 => first | assumption | rfl))
  | with_reducible refine r_istr ?_
  | with_reducible refine r_is ?_
  | with_reducible refine r_un ?_
  | with_reducible refine r_u ?_)
local macro_rules | `(tactic| walk_at "st1") => `(tactic| first
  | with_reducible refine r_tru ?_
  | ((with_reducible refine' r_truT ?e1 ?_); (case e1 => walk_at "sq"))
  | with_reducible refine r_isN ?_
  | with_reducible refine r_tyS ?_
  | with_reducible refine r_m1 ?_
  | with_reducible refine r_sx ?_
  | ((with_reducible refine r_strC ?e1 ?_); (case e1 => omega)))
local macro_rules | `(tactic| walk_at "st1") => `(tactic| first
  | with_reducible refine r_par ?_
  | with_reducible refine r_parx ?_
  | ((with_reducible refine' r_gtup ?e1 ?e2 ?_); (case e1 => walk_at "sq"); (case e2 => rfl))
  | with_reducible refine r_gcons ?_
  | with_reducible refine r_gnil ?_
  | with_reducible refine r_ient ?_
  | ((with_reducible refine' r_ent ?e1 ?_); (case e1 => walk_at "sq")))
local macro_rules | `(tactic| walk_at "st1") => `(tactic| first
  | with_reducible refine' r_nt ?_
  | with_reducible refine' r_nf ?_
  | with_reducible refine r_un ?_
  | with_reducible refine r_u ?_)
/-! ### the law's own draws -/
def sp_law_begin (K : PySem.W.Frag) : Sp := fun vs H Q _ => ∃ (a : Addr) (ns : List Int), vs = [.ref a] ∧ SqL K H a (ns.map .int) ∧ ns.length ≤ 63 ∧ ∀ s c H', Same H H' → St s c H' → Q (.ref s) H'
def sp_law_draw (_ : PySem.W.Frag) : Sp := fun vs H Q _ => ∃ (s c : Addr) (m : Int), vs = [.ref s, .int m] ∧ St s c H ∧ (0 < m ∧ m < 1073741824) ∧ ∀ d H', Kp [s, c] H H' → St s c H' → 0 ≤ d ∧ d < m → Q (.int d) H'
def sp_law_pick (_ : PySem.W.Frag) : Sp := fun vs H Q _ => ∃ (s c : Addr) (v : V), vs = [.ref s, v] ∧ St s c H ∧
  ((∃ (l : Addr) (xs : List V), v = .ref l ∧ H l = some (.lst xs) ∧ l ∉ [s, c] ∧ 0 < xs.length ∧ xs.length ≤ 1000 ∧ ∀ u H', u ∈ xs → Kp [s, c] H H' → St s c H' → Q u H') ∨
  (∃ z : Str, v = .str z ∧ 0 < z.length ∧ z.length ≤ 1000 ∧ ∀ k H', k ∈ cs z → Kp [s, c] H H' → St s c H' → Q (sgn1 k) H'))
def rLenP (K : PySem.W.Frag) : List V → Hp → VK → Prop := fun xs H Q => rLen K xs H Q ∨ rLenS xs H Q
theorem cr_lenP {X : Cx} {K : PySem.W.Frag} (q : X.K = K := by rfl) : CallR X (.builtin "len") (rLenP K) := (cr_lenK q).or cr_lenS
def rIxP (K : PySem.W.Frag) : R2 := fun x y H Q => rIxL K x y H Q ∨ rIxS x y H Q
theorem ix_pK {X : Cx} {K : PySem.W.Frag} (q : X.K = K := by rfl) : IxR X (rIxP K) := by
  subst q
  intro value slice pins s σ H x y v u Q I rx ry h hs
  rcases h with h | h
  · exact ix_list value slice pins s σ H x y v u Q I rx ry h hs
  · exact ix_str value slice pins s σ H x y v u Q I rx ry h hs
theorem cs_cut (z : Str) (n : Nat) : cs (cutS z none (some (n : Int))) = (cs z).take n := by
  unfold cutS cs
  have e1 : HT.sIx z.length 0 none = 0 := rfl
  have e2 : HT.sIx z.length z.length (some (n : Int)) = min n z.length := by
    simp [HT.sIx]; omega
  rw [e1, e2]
  simp only [List.drop_zero, Nat.sub_zero]
  have l : z.cps.toList.length = z.length := by rw [Array.length_toList]; rfl
  by_cases h : n ≤ z.length
  · rw [Nat.min_eq_left h]
  · rw [Nat.min_eq_right (by omega), List.take_of_length_le (by omega), List.take_of_length_le (by omega)]
theorem r_slS {z : Str} {lo hi : Option Int} {H : Hp} {Q : VK} (h : z.length ≤ sizeLine) (q : Q (.str (cutS z lo hi)) H) : rSlS (.str z) lo hi H Q := ⟨z, rfl, h, q⟩
def sp_law_spots (_ : PySem.W.Frag) : Sp := fun vs H Q _ => ∃ hid : Nat, vs = [.int (hid : Nat)] ∧ hid ≤ 3 ∧ ∀ l H', Same H H' → H l = none → H' l = some (.lst ((knownL hid).map V.str)) → Q (.ref l) H'
def sp_law_number (_ : PySem.W.Frag) : Sp := fun vs H Q _ => ∃ (s c : Addr) (p : Int), vs = [.ref s, .int p] ∧ St s c H ∧ (2 ≤ p ∧ p ≤ 997) ∧ ∀ n H', Kp [s, c] H H' → St s c H' → 0 ≤ n ∧ n < p → Q (.int n) H'
theorem St.nil0 {s c : Addr} {H : Hp} (h : St s c H) : H s ≠ none ∧ H c ≠ none := by
  obtain ⟨_, cs, j, r, h⟩ := h
  exact ⟨by rw [h.hs]; simp, by rw [h.hc]; simp⟩
theorem ints_of_all {p : Int → Prop} : ∀ {ys : List V}, (∀ y ∈ ys, ∃ n : Int, y = .int n ∧ p n) → ∃ cs : List Int, ys = cs.map .int ∧ ∀ n ∈ cs, p n
  | [], _ => ⟨[], rfl, by simp⟩
  | y :: ys, h => by
    obtain ⟨n, rfl, hn⟩ := h y List.mem_cons_self
    obtain ⟨cs, rfl, hc⟩ := ints_of_all (ys := ys) fun z hz => h z (List.mem_cons_of_mem _ hz)
    exact ⟨n :: cs, rfl, fun m hm => by
      rcases List.mem_cons.mp hm with rfl | hm
      · exact hn
      · exact hc m hm⟩
theorem atI_in {α : Type} {xs : List α} {i : Int} (h0 : 0 ≤ i) (h1 : i < xs.length) : ∃ v, atI xs i = some v ∧ v ∈ xs := by
  obtain ⟨j, rfl⟩ : ∃ j : Nat, i = j := ⟨i.toNat, by omega⟩
  have h2 : j < xs.length := by omega
  exact ⟨xs[j], atI_nat (List.getElem?_eq_getElem h2), List.getElem_mem h2⟩
theorem getElem?_map_int {ns : List Int} {i : Nat} {x : V} (e : (ns.map V.int)[i]? = some x) : ∃ n, ns[i]? = some n ∧ x = .int n := by
  rw [List.getElem?_map] at e
  cases h : ns[i]? with
  | none => rw [h] at e; cases e
  | some n => rw [h] at e; exact ⟨n, rfl, (Option.some.inj e).symm⟩
section
variable {P : Program} {w : World} {K : PySem.W.Frag} {mg : Str → Option Value} {base : Heap}
theorem ok_law_draw {c_Coded : Addr} {c_Machine : Addr} {c_CodeReader : Addr} {c_REGISTERS : Addr} {c_CELLS : Addr} {c_SHAPES : Addr} (T : Tx K mg c_Coded c_Machine c_CodeReader c_REGISTERS c_CELLS c_SHAPES w)  {f : Addr} {fd : FuncData} (F : Here K mg "_law_draw" s_law_draw ["state", "many"] f fd) : Cal P w K mg base "_law_draw" 1 ["state", "many"] (sp_law_draw K) s_law_draw f fd := by
  refine F.cal sc_law_draw (fun vs H Q E h => ?_) (fun cdv A outer s H vs Q E hr h => ?_)
  · obtain ⟨s, c, m, rfl, _⟩ := h
    rfl
  · obtain ⟨s, c, m, rfl, hst, ⟨m0, m1⟩, q⟩ := h
    refine ⟨_, (pss_cons (ps_set (i := 2) sc_law_draw.nd rfl (by first | exact .inl rfl | exact .inr rfl) (pe_ix (ix_listK (K := K)) (pv 0) pe_int (fun _ _ => rfl)))
      (pss_cons (ps_set (i := 3) sc_law_draw.nd rfl (by first | exact .inl rfl | exact .inr rfl) (pe_op op_mod (pe_ix (ix_listK (K := K)) (pv 0) pe_int (fun _ _ => rfl)) (pe_callB (cr_lenK (K := K)) (by rfl) T.m_len (by decide +kernel) (pa_cons (pv 2) pa_nil))))
      (pss_cons (ps_set (i := 4) sc_law_draw.nd rfl (by first | exact .inl rfl | exact .inr rfl) (pe_ix (ix_listK (K := K)) (pv 2) (pv 3) (fun _ _ => rfl)))
      (pss_cons (ps_if (pt_cmpR op_ge (pv 4) (pe_op op_pow pe_int pe_int) (nomark _)) (pss_cons (ps_asg (pe_op op_fdivW (pv 4) (pv 1)) (pg_sub (pv 2) (pv 3) set_list))
      (pss_one (ps_ret (pe_op op_mod (pv 4) (pv 1))))) pss_nil)
      (pss_cons (ps_asg (pe_op op_add (pe_ix (ix_listK (K := K)) (pv 0) pe_int (fun _ _ => rfl)) pe_int) (pg_sub (pv 0) pe_int set_list))
      (pss_cons (ps_asg (pe_op op_mod (pe_op op_add (pe_op op_add (pe_op op_mul (pe_ix (ix_listK (K := K)) (pv 0) pe_int (fun _ _ => rfl)) pe_int) (pv 4)) pe_int) pe_int) (pg_sub (pv 0) pe_int set_list))
      (pss_one (ps_ret (pe_op op_mod (pe_op op_fdivW (pe_op op_mod (pe_op op_mul (pe_ix (ix_listK (K := K)) (pv 0) pe_int (fun _ _ => rfl)) (pe_ix (ix_listK (K := K)) (pv 0) pe_int (fun _ _ => rfl))) pe_int) pe_int) (pv 1)))))))))), ?_⟩
    obtain ⟨hne, cs, j, r, hs, hc, ne, nn, len, hj, hr0, hr1⟩ := hst
    have hl : 0 < (cs.map V.int).length := by rw [List.length_map]; exact List.length_pos_iff.mpr ne
    obtain ⟨i, hi, ei⟩ : ∃ i : Nat, i < cs.length ∧ j % ((cs.map V.int).length : Int) = i := by
      have h1 := Int.emod_nonneg j (show ((cs.map V.int).length : Int) ≠ 0 by omega)
      have h2 := Int.emod_lt_of_pos j (show (0 : Int) < ((cs.map V.int).length : Int) by omega)
      rw [List.length_map] at h1 h2 ⊢
      exact ⟨(j % (cs.length : Int)).toNat, by omega, by omega⟩
    have hx : atI (cs.map V.int) (j % ((cs.map V.int).length : Int)) = some (.int cs[i]) := by
      rw [ei]; exact atI_nat (by rw [List.getElem?_map, List.getElem?_eq_getElem hi]; rfl)
    have hx0 : 0 ≤ cs[i] := nn _ (List.getElem_mem hi)
    have hxi : ixN (cs.map V.int).length (j % ((cs.map V.int).length : Int)) = some i := by
      rw [ei]; unfold ixN; rw [if_pos (by omega), if_pos (by rw [List.length_map]; omega)]; rfl
    have hw : CDivW cs[i] m := wide_div (b := 30) m0 (by omega) (by decide) (by decide)
    walk_at "st"
    walk_at "if"
    refine r_ite (fun hge => ?_) (fun hlt => ?_)
    · walk_at "st"
      refine q _ _ (fun b o e hb => ?_) ⟨hne, cs.set i (cs[i] / m), j, r, ?_, ?_, ?_, ?_, ?_, hj, hr0, hr1⟩ ⟨Int.emod_nonneg _ (by omega), Int.emod_lt_of_pos _ m0⟩
      · rw [upd_ne (by intro z; exact hb (by simp [z]))]; exact e
      · walk_at "hl"
      · rw [upd_same, List.map_set]
      · intro z; exact ne (by simpa using congrArg List.length z)
      · intro x hx
        rcases List.mem_or_eq_of_mem_set hx with h | h
        · exact nn _ h
        · rw [h]; exact Int.ediv_nonneg hx0 (by omega)
      · simpa using len
    · walk_at "st"
      refine q _ _ (fun b o e hb => ?_) ⟨hne, cs, j + 1, (r * 48271 + cs[i] + 12345) % 2147483647, upd_same, ?_, ne, nn, len, by omega, Int.emod_nonneg _ (by decide), Int.emod_lt_of_pos _ (by decide)⟩ ⟨Int.emod_nonneg _ (by omega), Int.emod_lt_of_pos _ m0⟩
      · rw [upd_ne (by intro z; exact hb (by simp [z])), upd_ne (by intro z; exact hb (by simp [z]))]; exact e
      · rw [upd_ne hne.symm, upd_ne hne.symm]; exact hc
theorem ok_law_begin {c_Coded : Addr} {c_Machine : Addr} {c_CodeReader : Addr} {c_REGISTERS : Addr} {c_CELLS : Addr} {c_SHAPES : Addr} (T : Tx K mg c_Coded c_Machine c_CodeReader c_REGISTERS c_CELLS c_SHAPES w)  {f : Addr} {fd : FuncData} (F : Here K mg "_law_begin" s_law_begin ["script"] f fd) : Cal P w K mg base "_law_begin" 1 ["script"] (sp_law_begin K) s_law_begin f fd := by
  refine F.cal sc_law_begin (fun vs H Q E h => ?_) (fun cdv A outer s H vs Q E hr h => ?_)
  · obtain ⟨a, ns, rfl, _⟩ := h
    rfl
  · obtain ⟨a, ns, rfl, hS, hlen, q⟩ := h
    refine ⟨_, (pss_cons (ps_setLc (i := 1) rfl sc_law_begin.nd rfl rfl (sw_true rfl rfl rfl (by decide +kernel)) (pi_listK (K := K) (pv 0)) (blkOk_by (own := [("cell", 2)]) (N := ["script", "cells", "cell"]) (sc := (defScope s_law_begin)) (by decide +kernel)) (fun _ _ _ _ _ => (pg_name (i := 2) sc_law_begin.nd rfl (by first | exact .inl rfl | exact .inr rfl))) (fun _ _ _ _ _ => pts_nil) (fun _ _ _ _ _ => (pe_callB cr_abs (by rfl) T.m_abs (by decide +kernel) (pa_cons (pv 2) pa_nil))))
      (pss_one (ps_ret (pe_lst (pa_cons (pe_ifExp (pt_cmpR (op_neNilK (K := K) (hu_of64 hr)) (pv 1) (pe_lst pa_nil) (nomark _)) (pv 1) (pe_lst (pa_cons pe_int pa_nil))) (pa_cons pe_int (pa_cons pe_int pa_nil))))))), ?_⟩
    walk_at "st"
    intro D hD
    refine lc_map (walk_list (xs := ns.map V.int)) (by rw [List.length_map]; omega) hD (fun _ y _ => ∃ n : Int, y = .int n ∧ 0 ≤ n) (fun _ _ _ _ h _ => h) (fun _ _ _ _ _ h _ => h) (fun H' k => k.seq hS) (fun i H1 x H2 y => by rw [y.1]; exact Same.refl _)
      (fun i x H1 H2 Y No hi sm y hY => ?_) (fun ys H' el sm eD hys => ?_)
    · obtain ⟨rfl, ex⟩ := y
      obtain ⟨n, _, rfl⟩ := getElem?_map_int ex
      refine ⟨rfl, ?_⟩
      walk_at "st"
      refine hY _ _ (Same.refl _) ⟨_, rfl, ?_⟩
      split <;> omega
    · have hall : ∀ y ∈ ys, ∃ n : Int, y = .int n ∧ 0 ≤ n := fun y hy => by
        obtain ⟨i, e⟩ := List.getElem?_of_mem hy
        exact hys i y e
      obtain ⟨cs, ecs, hcs⟩ := ints_of_all hall
      subst ecs
      have hcl2 : cs.length ≤ 63 := by rw [List.length_map, List.length_map] at el; omega
      walk_at "st"
      intro ln hln
      have eD2 := hl_new (u := .lst []) eD hln
      have sm2 : Same H (upd H' ln (.lst [])) := sm.trans (Same.upd_new hln)
      have eln : upd H' ln (.lst []) ln = some (.lst []) := upd_same
      generalize upd H' ln (.lst []) = H2 at *
      walk_at "st"
      by_cases h0 : cs = []
      · subst h0
        rw [if_neg (by simp)]
        walk_at "st"
        intro l hl
        walk_at "st"
        intro s hs
        have ne : s ≠ l := fun z => by rw [z, upd_same] at hs; cases hs
        exact q s l _ (by walk_at "sm") ⟨ne, [1], 0, 1, upd_same, hl_set ne.symm upd_same, by simp, by simp, by simp, by omega, by omega, by omega⟩
      · rw [if_pos (by cases cs <;> simp_all)]
        walk_at "st"
        intro s hs
        have ne : s ≠ D := (ne_of_none eD2 hs).symm
        exact q s D _ (by walk_at "sm") ⟨ne, cs, 0, 1, upd_same, hl_set ne.symm eD2, h0, hcs, by omega, by omega, by omega, by omega⟩
theorem ok_law_pick {c_Coded : Addr} {c_Machine : Addr} {c_CodeReader : Addr} {c_REGISTERS : Addr} {c_CELLS : Addr} {c_SHAPES : Addr} (T : Tx K mg c_Coded c_Machine c_CodeReader c_REGISTERS c_CELLS c_SHAPES w) {f_law_draw : Addr} {fd_law_draw : FuncData} (C_law_draw : Cal P w K mg base "_law_draw" 1 ["state", "many"] (sp_law_draw K) s_law_draw f_law_draw fd_law_draw) {f : Addr} {fd : FuncData} (F : Here K mg "_law_pick" s_law_pick ["state", "some"] f fd) : Cal P w K mg base "_law_pick" 2 ["state", "some"] (sp_law_pick K) s_law_pick f fd := by
  refine F.cal sc_law_pick (fun vs H Q E h => ?_) (fun cdv A outer s H vs Q E hr h => ?_)
  · obtain ⟨s, c, v, rfl, _⟩ := h
    rfl
  · obtain ⟨s, c, v, rfl, st, h⟩ := h
    refine ⟨_, (pss_one (ps_ret (pe_ix (ix_pK (K := K)) (pv 1) (pe_call C_law_draw.ok (hr.mono (by decide)) (by rfl) C_law_draw.at_ C_law_draw.kp C_law_draw.b .nil pass0 (pa_cons (pv 0) (pa_cons (pe_callB (cr_lenP (K := K)) (by rfl) T.m_len (by decide +kernel) (pa_cons (pv 1) pa_nil)) pa_nil))) (fun _ _ => rfl)))), ?_⟩
    rcases h with ⟨l, xs, rfl, hl, ol, l0, l1, q⟩ | ⟨z, rfl, l0, l1, q⟩
    · walk_at "st"
      refine .inl (r_len (SqL.of hl) ?_)
      walk_at "st"
      refine ⟨s, c, _, rfl, st, by omega, fun d H1 k1 st1 hd => ?_⟩
      obtain ⟨v, ev, hv⟩ := atI_in (xs := xs) hd.1 (by omega)
      exact .inl ⟨l, xs, d, v, rfl, rfl, SqL.of (k1 _ _ hl ol), ev, q v _ hv k1 st1⟩
    · walk_at "st"
      refine .inr (r_lenS (str_small l1) ?_)
      walk_at "st"
      refine ⟨s, c, _, rfl, st, by omega, fun d H1 k1 st1 hd => ?_⟩
      obtain ⟨v, ev, hv⟩ := atI_in (xs := z.cps.toList) hd.1 (by rw [Array.length_toList]; exact hd.2)
      exact .inr ⟨z, d, v, rfl, rfl, str_small l1, ev, q v _ hv k1 st1⟩
theorem ok_law_spots {c_Coded : Addr} {c_Machine : Addr} {c_CodeReader : Addr} {c_REGISTERS : Addr} {c_CELLS : Addr} {c_SHAPES : Addr} (T : Tx K mg c_Coded c_Machine c_CodeReader c_REGISTERS c_CELLS c_SHAPES w)  {f : Addr} {fd : FuncData} (F : Here K mg "_law_spots" s_law_spots ["cells"] f fd) : Cal P w K mg base "_law_spots" 1 ["cells"] (sp_law_spots K) s_law_spots f fd := by
  refine F.cal sc_law_spots (fun vs H Q E h => ?_) (fun cdv A outer s H vs Q E hr h => ?_)
  · obtain ⟨hid, rfl, _⟩ := h
    rfl
  · obtain ⟨hid, rfl, lh, q⟩ := h
    refine ⟨_, (pss_one (ps_ret (pe_op op_cat (pe_callTy (cr_listS rfl) (by rfl) T.m_list (by decide +kernel) (pa_cons pe_str pa_nil)) (pe_callTy (cr_listS rfl) (by rfl) T.m_list (by decide +kernel) (pa_cons (pe_slice sl_str pe_str po_none (po_some (pv 0))) pa_nil))))), ?_⟩
    walk_at "st"
    have e1 : (Str.ofString "abcdefgh").cps.toList.map sgn1 = regsL.map V.str := by decide +kernel
    have e2 : (Str.ofString "xyz").cps.toList.map sgn1 = cellsL.map V.str := by decide +kernel
    refine ⟨_, rfl, by decide, fun l1 hl1 => ?_⟩
    rw [e1]
    have s1 := Same.upd_new (x := .lst (regsL.map V.str)) hl1
    have f1 : upd H l1 (.lst (regsL.map V.str)) l1 = some (.lst (regsL.map V.str)) := upd_same
    generalize upd H l1 (.lst (regsL.map V.str)) = H1 at *
    walk_at "st"
    refine r_slS (by decide) ?_
    have e3 : (cutS (Str.ofString "xyz") none (some (hid : Int))).cps.toList.map sgn1 = (cellsL.take hid).map V.str := by
      show (cs (cutS (Str.ofString "xyz") none (some (hid : Int)))).map sgn1 = _
      rw [cs_cut, List.map_take, List.map_take]
      exact congrArg (List.take hid) e2
    have l3 : (cutS (Str.ofString "xyz") none (some (hid : Int))).length ≤ 3 := by
      rw [← cs_len, cs_cut, List.length_take]
      exact Nat.min_le_right _ _
    walk_at "st"
    refine ⟨_, rfl, Nat.le_trans l3 (by decide), fun l2 hl2 => ?_⟩
    rw [e3]
    have n12 : l2 ≠ l1 := fun e => by rw [e, f1] at hl2; cases hl2
    refine ⟨l1, l2, _, _, rfl, rfl, hl_new f1 hl2, upd_same, ?_, fun p hp => ?_⟩
    · rw [List.length_map, List.length_map, List.length_take]
      have : cellsL.length = 3 := rfl
      have : regsL.length = 8 := rfl
      have : (1000000 : Nat) ≤ sizeLine := by decide
      omega
    · have s3 := (s1.trans (Same.upd_new (x := .lst ((cellsL.take hid).map V.str)) hl2)).trans (Same.upd_new (x := .lst (regsL.map V.str ++ (cellsL.take hid).map V.str)) hp)
      exact q p _ s3 (by
        cases e : H p with
        | none => rfl
        | some o => rw [(s1.trans (Same.upd_new hl2)) _ _ e] at hp; cases hp) (by rw [upd_same, ← List.map_append]; rfl)
theorem ok_law_number {c_Coded : Addr} {c_Machine : Addr} {c_CodeReader : Addr} {c_REGISTERS : Addr} {c_CELLS : Addr} {c_SHAPES : Addr} (T : Tx K mg c_Coded c_Machine c_CodeReader c_REGISTERS c_CELLS c_SHAPES w) {f_law_pick : Addr} {fd_law_pick : FuncData} (C_law_pick : Cal P w K mg base "_law_pick" 2 ["state", "some"] (sp_law_pick K) s_law_pick f_law_pick fd_law_pick) {f_law_draw : Addr} {fd_law_draw : FuncData} (C_law_draw : Cal P w K mg base "_law_draw" 1 ["state", "many"] (sp_law_draw K) s_law_draw f_law_draw fd_law_draw) {f : Addr} {fd : FuncData} (F : Here K mg "_law_number" s_law_number ["state", "p"] f fd) : Cal P w K mg base "_law_number" 3 ["state", "p"] (sp_law_number K) s_law_number f fd := by
  refine F.cal sc_law_number (fun vs H Q E h => ?_) (fun cdv A outer s H vs Q E hr h => ?_)
  · obtain ⟨s, c, p, rfl, _⟩ := h
    rfl
  · obtain ⟨s, c, p, rfl, st, hp, q⟩ := h
    refine ⟨_, (pss_one (ps_ret (pe_call C_law_pick.ok (hr.mono (by decide)) (by rfl) C_law_pick.at_ C_law_pick.kp C_law_pick.b .nil pass0 (pa_cons (pv 0) (pa_cons (pe_lst (pa_cons pe_int (pa_cons pe_int (pa_cons (pe_op op_sub (pv 1) pe_int) (pa_cons (pe_op op_mod pe_int (pv 1)) (pa_cons (pe_call C_law_draw.ok (hr.mono (by decide)) (by rfl) C_law_draw.at_ C_law_draw.kp C_law_draw.b .nil pass0 (pa_cons (pv 0) (pa_cons (pv 1) pa_nil))) pa_nil)))))) pa_nil))))), ?_⟩
    walk_at "st"
    refine ⟨s, c, p, rfl, st, by omega, fun d1 H1 k1 st1 hd1 => ?_⟩
    walk_at "st"
    intro l hl
    have ol := st1.out hl
    refine ⟨s, c, _, rfl, st1.new hl, .inl ⟨l, _, rfl, upd_same, ol, by simp, by simp, fun u H2 mu k2 st2 => ?_⟩⟩
    have hu : ∃ n : Int, u = .int n ∧ 0 ≤ n ∧ n < p := by
      have m1 := Int.emod_nonneg 2 (show p ≠ 0 by omega)
      have m2 := Int.emod_lt_of_pos 2 (show 0 < p by omega)
      simp only [List.mem_cons, List.not_mem_nil, or_false] at mu
      rcases mu with e | e | e | e | e <;> exact ⟨_, e, by omega⟩
    obtain ⟨n, rfl, hn⟩ := hu
    exact q n _ ((k1.trans (Kp.new hl)).trans k2) st2 hn
end
local macro_rules | `(tactic| walk_at "ssz") => `(tactic| first | decide | exact str_small (by assumption) | (have : (1000000 : Nat) ≤ sizeLine := (by decide); omega))
local macro_rules | `(tactic| walk_at "st1") => `(tactic| first
  | with_reducible refine' r_nt ?_ | with_reducible refine' r_nf ?_
  | ((with_reducible refine r_lenS ?e1 ?_); (case e1 => walk_at "ssz"))
  | with_reducible refine r_inS ?_
  | with_reducible refine r_ninS ?_
  | ((with_reducible refine r_addS ?e1 ?_); (case e1 => walk_at "ssz"))
  | ((with_reducible refine' r_ixS ?e1 ?e2 ?_); (case e1 => walk_at "ssz"); (case e2 => first | assumption | rfl))
  | with_reducible refine r_istr ?_
  | with_reducible refine r_is ?_
  | with_reducible refine r_un ?_
  | with_reducible refine r_u ?_)
local macro_rules | `(tactic| walk_at "st1") => `(tactic| first
  | with_reducible refine r_tru ?_
  | ((with_reducible refine' r_truT ?e1 ?_); (case e1 => walk_at "sq"))
  | with_reducible refine r_isN ?_
  | with_reducible refine r_tyS ?_
  | with_reducible refine r_m1 ?_
  | with_reducible refine r_sx ?_
  | ((with_reducible refine r_strC ?e1 ?_); (case e1 => omega)))
local macro_rules | `(tactic| walk_at "st1") => `(tactic| first
  | with_reducible refine r_par ?_
  | with_reducible refine r_parx ?_
  | ((with_reducible refine' r_gtup ?e1 ?e2 ?_); (case e1 => walk_at "sq"); (case e2 => rfl))
  | with_reducible refine r_gcons ?_
  | with_reducible refine r_gnil ?_
  | with_reducible refine r_ient ?_
  | ((with_reducible refine' r_ent ?e1 ?_); (case e1 => walk_at "sq")))
local macro_rules | `(tactic| walk_at "st1") => `(tactic| first
  | with_reducible refine' r_nt ?_
  | with_reducible refine' r_nf ?_
  | with_reducible refine r_un ?_
  | with_reducible refine r_u ?_)
/-! ### unlike names -/
def ownL : List Str := ["main", "lib", "add", "get", "set", "pick", "take", "ret", "a", "x", "fail", "end", "prime", "deed", "cells"]
def nameB (z : Str) : Bool := (decide (1 ≤ z.length) && decide (z.length ≤ 8)) && (cs z).all (fun c => decide (c ∈ lettersL))
theorem nameB_ok {z : Str} (h : nameB z = true) : NameS z := by
  unfold nameB at h
  rw [Bool.and_eq_true, Bool.and_eq_true] at h
  exact ⟨of_decide_eq_true h.1.1, of_decide_eq_true h.1.2, fun c m => of_decide_eq_true (List.all_eq_true.mp h.2 c m)⟩
theorem own_ok : ∀ z ∈ ownL, NameS z := fun z m => nameB_ok (List.all_eq_true.mp (show ownL.all nameB = true by decide +kernel) z m)
def w7 (z : Str) : Str := cutS z none (some 7)
def spareT (z : Str) : List Str := lettersL.map fun c => w7 z ++ ⟨#[c]⟩
def spareL (z : Str) : List Str := z :: spareT z
theorem cs_w7 (z : Str) (c : Nat) : cs (w7 z ++ ⟨#[c]⟩) = (cs z).take 7 ++ [c] := by
  rw [cs_append]
  have := cs_cut z 7
  rw [← this]; rfl
theorem spare_name {z : Str} (h : NameS z) : ∀ y ∈ spareL z, NameS y := by
  intro y m
  rcases List.mem_cons.mp m with rfl | m
  · exact h
  · obtain ⟨c, mc, rfl⟩ := List.mem_map.mp m
    refine ⟨?_, ?_, fun k mk => ?_⟩
    · rw [← cs_len, cs_w7, List.length_append]
      show 1 ≤ _ + 1
      omega
    · rw [← cs_len, cs_w7, List.length_append, List.length_take]
      show min 7 _ + 1 ≤ 8
      omega
    · rw [cs_w7] at mk
      rcases List.mem_append.mp mk with mk | mk
      · exact h.2.2 k (List.mem_of_mem_take mk)
      · rw [List.mem_singleton.mp mk]; exact mc
theorem spare_nodup (z : Str) : (spareT z).Nodup :=
  List.Pairwise.map _ (fun a b hab e => hab (by
    have e2 := congrArg cs e
    rw [cs_w7, cs_w7] at e2
    have e3 := List.append_cancel_left e2
    exact (List.cons.inj e3).1)) (show lettersL.Pairwise (· ≠ ·) by decide +kernel)
theorem spare_left {z : Str} {zs : List Str} (l : zs.length < 26) : (spareL z).filter (fun y => decide (y ∉ zs)) ≠ [] := by
  intro e
  have sub : spareT z ⊆ zs := fun y m => Decidable.byContradiction fun h => by
    have m2 : y ∈ (spareL z).filter (fun y => decide (y ∉ zs)) := List.mem_filter.mpr ⟨List.mem_cons_of_mem _ m, decide_eq_true h⟩
    rw [e] at m2
    cases m2
  have h := List.Nodup.length_le_of_subset (spare_nodup z) sub
  unfold spareT at h
  rw [List.length_map] at h
  have : lettersL.length = 26 := by decide +kernel
  omega
theorem join_flat : ∀ L : List (List Nat), TL.joinL [] L = L.flatten
  | [] => rfl
  | [p] => by show p = _; rw [List.flatten_cons, List.flatten_nil, List.append_nil]
  | p :: q :: r => by
    show p ++ ([] ++ TL.joinL [] (q :: r)) = _
    rw [join_flat (q :: r), List.nil_append]
    rfl
theorem flat_ones : ∀ ws : List Nat, (ws.map fun c => [c]).flatten = ws
  | [] => rfl
  | c :: ws => by rw [List.map_cons, List.flatten_cons, flat_ones ws]; rfl
theorem sum_ones : ∀ ws : List Nat, (((ws.map fun c => [c]).map SX.S).map (·.length)).sum = ws.length
  | [] => rfl
  | c :: ws => by
    rw [List.map_cons, List.map_cons, List.map_cons, List.sum_cons, sum_ones ws, List.length_cons]
    show 1 + _ = _
    omega
theorem inV_strs (z : Str) : ∀ zs : List Str, inV (.str z) (zs.map V.str) = decide (z ∈ zs)
  | [] => by simp [inV]
  | y :: zs => by
    have ih := inV_strs z zs
    unfold inV at ih ⊢
    rw [List.map_cons, List.any_cons, ih]
    have e : eqV (V.str y) (V.str z) = decide (z = y) := by
      show (y == z) = _
      by_cases c : z = y
      · subst c; simp
      · rw [decide_eq_false c]; exact beq_false_of_ne fun w => c w.symm
    rw [e]
    by_cases c : z = y <;> simp [c]
theorem flat_strs (zs : List Str) : (zs.map V.str).all flatV = true := by
  rw [List.all_map]; exact List.all_eq_true.mpr fun _ _ => rfl
theorem op_ninSeqK {X : Cx} {K : PySem.W.Frag} (q : X.K = K := by rfl) : OpR X (compareOp .NotIn) (rIn K true) := q ▸ op_notIn_seq
theorem r_ninSeq {K : PySem.W.Frag} {H : Hp} {Q : VK} {p : Addr} {z : Str} {zs : List Str} (h : SqL K H p (zs.map V.str)) (q : Q (.bl (decide (z ∉ zs))) H) : rIn K true (.str z) (.ref p) H Q :=
  ⟨p, _, rfl, .inl h, rfl, flat_strs zs, by
    rw [if_pos rfl, inV_strs]
    have e : (!decide (z ∈ zs)) = decide (z ∉ zs) := by by_cases c : z ∈ zs <;> simp [c]
    rw [e]; exact q⟩
theorem r_catL {a b : Addr} {xs ys : List V} {H : Hp} {Q : VK} (h : H a = some (.lst xs)) (h2 : H b = some (.lst ys)) (z : xs.length + ys.length ≤ 1000000) (q : ∀ p, H p = none → Q (.ref p) (upd H p (.lst (xs ++ ys)))) : rCat (.ref a) (.ref b) H Q :=
  ⟨a, b, xs, ys, rfl, rfl, h, h2, Nat.le_trans z (by decide), q⟩
def sp_law_words (_ : PySem.W.Frag) : Sp := fun vs H Q _ => ∃ (s c : Addr) (m : Int), vs = [.ref s, .int m] ∧ St s c H ∧ (0 ≤ m ∧ m ≤ 6) ∧
  ∀ (l : Addr) (zs : List Str) (H' : Hp), Kp [s, c] H H' → St s c H' → H l = none → H' l = some (.lst (zs.map V.str)) → (zs.length : Int) = m → zs.Nodup → (∀ z ∈ zs, NameS z) → Q (.ref l) H'
section
variable {P : Program} {w : World} {K : PySem.W.Frag} {mg : Str → Option Value} {base : Heap}
theorem ok_law_words {c_Coded : Addr} {c_Machine : Addr} {c_CodeReader : Addr} {c_REGISTERS : Addr} {c_CELLS : Addr} {c_SHAPES : Addr} (T : Tx K mg c_Coded c_Machine c_CodeReader c_REGISTERS c_CELLS c_SHAPES w) {f_law_pick : Addr} {fd_law_pick : FuncData} (C_law_pick : Cal P w K mg base "_law_pick" 2 ["state", "some"] (sp_law_pick K) s_law_pick f_law_pick fd_law_pick) {f_law_draw : Addr} {fd_law_draw : FuncData} (C_law_draw : Cal P w K mg base "_law_draw" 1 ["state", "many"] (sp_law_draw K) s_law_draw f_law_draw fd_law_draw) {f : Addr} {fd : FuncData} (F : Here K mg "_law_words" s_law_words ["state", "many"] f fd) : Cal P w K mg base "_law_words" 3 ["state", "many"] (sp_law_words K) s_law_words f fd := by
  refine F.cal sc_law_words (fun vs H Q E h => ?_) (fun cdv A outer s H vs Q E hr h => ?_)
  · obtain ⟨s, c, m, rfl, _⟩ := h
    rfl
  · obtain ⟨s, c, m, rfl, st, hm, q⟩ := h
    refine ⟨_, (pss_cons (ps_set (i := 2) sc_law_words.nd rfl (by first | exact .inl rfl | exact .inr rfl) (pe_lst (pa_cons pe_str (pa_cons pe_str (pa_cons pe_str (pa_cons pe_str (pa_cons pe_str (pa_cons pe_str (pa_cons pe_str (pa_cons pe_str (pa_cons pe_str (pa_cons pe_str (pa_cons pe_str (pa_cons pe_str (pa_cons pe_str (pa_cons pe_str (pa_cons pe_str pa_nil)))))))))))))))))
      (pss_cons (ps_set (i := 3) sc_law_words.nd rfl (by first | exact .inl rfl | exact .inr rfl) (pe_lst pa_nil))
      (pss_cons (ps_while PassesOwn.never (pt_cmpR op_lt (pe_callB (cr_lenK (K := K)) (by rfl) T.m_len (by decide +kernel) (pa_cons (pv 3) pa_nil)) (pv 1) (nomark _)) (pss_cons (ps_set (i := 4) sc_law_words.nd rfl (by first | exact .inl rfl | exact .inr rfl) (pe_call C_law_pick.ok (hr.mono (by decide)) (by rfl) C_law_pick.at_ C_law_pick.kp C_law_pick.b .nil pass0 (pa_cons (pv 0) (pa_cons (pv 2) pa_nil))))
      (pss_cons (ps_if (pt_cmpR op_gt (pe_call C_law_draw.ok (hr.mono (by decide)) (by rfl) C_law_draw.at_ C_law_draw.kp C_law_draw.b .nil pass0 (pa_cons (pv 0) (pa_cons pe_int pa_nil))) pe_int (nomark _)) (pss_one (ps_set (i := 4) sc_law_words.nd rfl (by first | exact .inl rfl | exact .inr rfl) (castM1 (K := K) (pe_join pe_str (pe_lc rfl sc_law_words.nd (pi_range1 (by rfl) T.m_range (pa_cons (pe_op op_add pe_int (pe_call C_law_draw.ok (hr.mono (by decide)) (by rfl) C_law_draw.at_ C_law_draw.kp C_law_draw.b .nil pass0 (pa_cons (pv 0) (pa_cons pe_int pa_nil)))) pa_nil)) (blkOk_by (own := [("k", 5)]) (N := ["state", "many", "own", "got", "word", "k", "spare", "sign", "one"]) (sc := (defScope s_law_words)) (by decide +kernel)) (fun _ _ _ _ _ => (pg_name (i := 5) sc_law_words.nd rfl (by first | exact .inl rfl | exact .inr rfl))) (fun _ _ _ _ _ => pts_nil) (fun _ _ _ _ _ => (pe_call C_law_pick.ok (hr.mono (by decide)) (by rfl) C_law_pick.at_ C_law_pick.kp C_law_pick.b .nil pass0 (pa_cons (pv 0) (pa_cons pe_str pa_nil))))))))) pss_nil)
      (pss_cons (ps_set (i := 6) sc_law_words.nd rfl (by first | exact .inl rfl | exact .inr rfl) (pe_op op_cat (pe_lst (pa_cons (pv 4) pa_nil)) (pe_lc rfl sc_law_words.nd (pi_str pe_str) (blkOk_by (own := [("sign", 7)]) (N := ["state", "many", "own", "got", "word", "k", "spare", "sign", "one"]) (sc := (defScope s_law_words)) (by decide +kernel)) (fun _ _ _ _ _ => (pg_name (i := 7) sc_law_words.nd rfl (by first | exact .inl rfl | exact .inr rfl))) (fun _ _ _ _ _ => pts_nil) (fun _ _ _ _ _ => (pe_op op_addS (pe_slice sl_str (pv 4) po_none (po_some pe_int)) (pv 7))))))
      (pss_one (ps_expr (castBM (K := K) (pe_bm PySem.F.plainAttrs_list PySem.F.slot_list_append PySem.F.type_list_append mt_append (pv 3) (pa_cons (pe_ix (ix_listK (K := K)) (pe_lc rfl sc_law_words.nd (pi_listK (K := K) (pv 6)) (blkOk_by (own := [("one", 8)]) (N := ["state", "many", "own", "got", "word", "k", "spare", "sign", "one"]) (sc := (defScope s_law_words)) (by decide +kernel)) (fun _ _ _ _ _ => (pg_name (i := 8) sc_law_words.nd rfl (by first | exact .inl rfl | exact .inr rfl))) (fun _ _ _ _ _ => (pts_one (pt_cmpR (op_ninSeqK (K := K)) (pv 8) (pv 3) (by rfl)))) (fun _ _ _ _ _ => (pv 8))) pe_int (fun _ _ => rfl)) pa_nil)))))))))
      (pss_one (ps_ret (pv 3)))))), ?_⟩
    walk_at "st"
    rw [show [V.str "main", V.str "lib", V.str "add", V.str "get", V.str "set", V.str "pick", V.str "take", V.str "ret", V.str "a", V.str "x", V.str "fail", V.str "end", V.str "prime", V.str "deed", V.str "cells"] = ownL.map V.str from rfl]
    intro lo hlo
    have olo := st.out hlo
    have st1 := st.new (x := .lst (ownL.map V.str)) hlo
    have k1 : Kp [s, c] H (upd H lo (.lst (ownL.map V.str))) := Kp.new hlo
    have elo : upd H lo (.lst (ownL.map V.str)) lo = some (.lst (ownL.map V.str)) := upd_same
    generalize upd H lo (.lst (ownL.map V.str)) = H1 at *
    walk_at "st"
    intro lg hlg
    have olg := st1.out hlg
    have nlo : lo ≠ lg := fun e => by rw [← e, elo] at hlg; cases hlg
    have hlgH : H lg = none := k1.free hlg olg
    have st2 := st1.new (x := .lst []) hlg
    have k2 : Kp [s, c] H (upd H1 lg (.lst [])) := k1.trans (Kp.new hlg)
    have elo2 := hl_new (u := .lst []) elo hlg
    have elg : upd H1 lg (.lst []) lg = some (.lst []) := upd_same
    generalize upd H1 lg (.lst []) = H2 at *
    walk_at "st"
    refine ⟨fun m' σ' H' => ∃ (zs : List Str) (x4 x6 : Option V), σ' = [some (.ref s), some (.int m), some (.ref lo), some (.ref lg), x4, none, x6, none, none] ∧ Kp [s, c] H H' ∧ St s c H' ∧ H' lo = some (.lst (ownL.map V.str)) ∧ H' lg = some (.lst (zs.map V.str)) ∧ zs.Nodup ∧ (∀ z ∈ zs, NameS z) ∧ (zs.length : Int) ≤ m ∧ m' = m.toNat - zs.length,
      ⟨m.toNat, [], none, none, rfl, k2, st2, elo2, elg, List.nodup_nil, by simp, by simpa using hm.1, rfl⟩, fun m' σ' H' w => ?_⟩
    obtain ⟨zs, x4, x6, rfl, k3, st3, elo3, elg3, nd, nm, lz, rfl⟩ := w
    walk_at "st"
    refine r_ite (fun h => ?_) (fun h => ?_)
    · rw [List.length_map] at h
      refine ⟨fun σ' H' => ∃ m1, m1 < m.toNat - zs.length ∧ ∃ (zs : List Str) (x4 x6 : Option V), σ' = [some (.ref s), some (.int m), some (.ref lo), some (.ref lg), x4, none, x6, none, none] ∧ Kp [s, c] H H' ∧ St s c H' ∧ H' lo = some (.lst (ownL.map V.str)) ∧ H' lg = some (.lst (zs.map V.str)) ∧ zs.Nodup ∧ (∀ z ∈ zs, NameS z) ∧ (zs.length : Int) ≤ m ∧ m1 = m.toNat - zs.length, fun _ _ h => h, ?_⟩
      walk_at "st"
      refine ⟨s, c, _, rfl, st3, .inl ⟨lo, _, rfl, elo3, olo, by decide, by decide, fun u H4 mu k4 st4 => ?_⟩⟩
      obtain ⟨z, mz, rfl⟩ := List.mem_map.mp mu
      have elo4 := k4 _ _ elo3 olo
      have elg4 := k4 _ _ elg3 olg
      have K4 := k3.trans k4
      walk_at "st"
      refine r_join (fun σ' H' => ∃ z, σ' = [some (.ref s), some (.int m), some (.ref lo), some (.ref lg), some (.str z), none, x6, none, none] ∧ Kp [s, c] H H' ∧ St s c H' ∧ H' lo = some (.lst (ownL.map V.str)) ∧ H' lg = some (.lst (zs.map V.str)) ∧ NameS z) (fun σ' H5 g => ?_) (fun N hN => ?_)
      · obtain ⟨z, rfl, K5, st5, elo5, elg5, nz⟩ := g
        walk_at "st"
        intro l1 hl1
        have ol1 := st5.out hl1
        have K6 := K5.trans (Kp.new (S := [s, c]) (x := .lst [.str z]) hl1)
        have st6 := st5.new (x := .lst [.str z]) hl1
        have elo6 := hl_new (u := .lst [.str z]) elo5 hl1
        have elg6 := hl_new (u := .lst [.str z]) elg5 hl1
        have el1 : upd H5 l1 (.lst [.str z]) l1 = some (.lst [.str z]) := upd_same
        generalize upd H5 l1 (.lst [.str z]) = H6 at *
        walk_at "st"
        intro D hD
        refine lc_map (walk_str (z := "abcdefghijklmnopqrstuvwxyz")) (by decide) hD (fun i y _ => ∃ k, lettersL[i]? = some k ∧ y = .str (w7 z ++ ⟨#[k]⟩)) (fun _ _ _ _ h _ => h) (fun _ _ _ _ _ h _ => h) (fun _ _ => trivial) (fun i H1 x H2 y => by rw [y.1]; exact Same.refl _)
          (fun i x' H7 H8 Y No hi sm y hY => ?_) (fun ys H7 el sm eD hys => ?_)
        · obtain ⟨rfl, k, ek, rfl⟩ := y
          refine ⟨rfl, ?_⟩
          walk_at "st"
          have lz8 : z.length ≤ 1000 := Nat.le_trans nz.2.1 (by decide)
          refine r_slS (str_small lz8) ?_
          walk_at "st"
          have lw := cutS_length z none (some 7)
          refine r_addS (Nat.le_trans (show _ + 1 ≤ 1001 by omega) (by decide)) ?_
          exact hY _ _ (Same.refl _) ⟨k, by rw [← Array.getElem?_toList] at ek; exact ek, rfl⟩
        · have eys : ys = (spareT z).map V.str := by
            unfold spareT
            rw [List.map_map]
            apply List.ext_getElem?
            intro i
            cases e2 : ys[i]? with
            | none =>
              rw [List.getElem?_eq_none_iff] at e2
              rw [List.getElem?_eq_none_iff.mpr (by rw [List.length_map]; rw [el] at e2; exact e2)]
            | some y =>
              obtain ⟨k, ek, rfl⟩ := hys i y e2
              rw [List.getElem?_map, ek]; rfl
          subst eys
          have K7 := K6.trans (Kp.ofSame sm)
          have st7 := st6.same sm
          have elo7 := sm _ _ elo6
          have elg7 := sm _ _ elg6
          refine r_catL (sm _ _ el1) eD (by rw [List.length_map]; unfold spareT; rw [List.length_map]; exact (by decide : 1 + lettersL.length ≤ 1000000)) fun l2 hl2 => ?_
          have K8 := K7.trans (Kp.new (S := [s, c]) (x := .lst ((spareL z).map V.str)) hl2)
          have st8 := st7.new (x := .lst ((spareL z).map V.str)) hl2
          have ol2 := st7.out hl2
          have elo8 := hl_new (u := .lst ((spareL z).map V.str)) elo7 hl2
          have elg8 := hl_new (u := .lst ((spareL z).map V.str)) elg7 hl2
          have el2 : upd H7 l2 (.lst ((spareL z).map V.str)) l2 = some (.lst ((spareL z).map V.str)) := upd_same
          rw [show [V.str z] ++ (spareT z).map V.str = (spareL z).map V.str from rfl]
          generalize upd H7 l2 (.lst ((spareL z).map V.str)) = H8 at *
          walk_at "st"
          intro D2 hD2
          refine lc_by (walk_list (a := l2) (xs := (spareL z).map V.str)) (fun i H' => Same H8 H' ∧ H' D2 = some (.lst ((((spareL z).take i).filter fun y => decide (y ∉ zs)).map V.str))) ⟨Same.upd_new hD2, upd_same⟩ (fun i H' _ p => SqL.of (p.1 _ _ el2)) (fun i x' H9 H9' hi p y => ?_) (fun H9 p => ?_)
          · obtain ⟨s9, e9⟩ := p
            obtain ⟨rfl, ex⟩ := y
            obtain ⟨y, ey, rfl⟩ := getElem?_map_str ex
            refine ⟨rfl, ?_⟩
            have hl9 := (List.getElem?_eq_some_iff.mp ey).1
            have et : (spareL z).take (i + 1) = (spareL z).take i ++ [y] := by
              rw [List.take_succ, ey]; rfl
            walk_at "st"
            refine r_ninSeq (SqL.of (s9 _ _ elg8)) ?_
            walk_at "st"
            refine r_iteB (fun h2 => ?_) (fun h2 => ?_)
            · walk_at "st"
              refine ⟨_, e9, ?_, fun b o e => hl_set (ne_of_none e hD2) (s9 _ _ e), ?_⟩
              · rw [List.length_map]
                refine Nat.lt_of_le_of_lt (List.length_filter_le _ _) (Nat.lt_of_le_of_lt (List.length_take_le _ _) ?_)
                exact Nat.lt_of_lt_of_le hl9 (by unfold spareL spareT; rw [List.length_cons, List.length_map]; decide)
              · rw [upd_same, et, List.filter_append, List.map_append, List.filter_cons, if_pos h2]; rfl
            · refine ⟨s9, ?_⟩
              rw [et, List.filter_append, List.filter_cons, if_neg (by rw [h2]; decide)]
              rw [e9, List.filter_nil, List.append_nil]
          · obtain ⟨s9, e9⟩ := p
            rw [List.length_map, List.take_length] at e9
            have l26 : zs.length < 26 := by omega
            have mem9 : ∀ y ∈ (spareL z).filter (fun y => decide (y ∉ zs)), y ∈ spareL z ∧ y ∉ zs := fun y my => ⟨(List.mem_filter.mp my).1, of_decide_eq_true (List.mem_filter.mp my).2⟩
            have ne9 := spare_left (z := z) l26
            generalize (spareL z).filter (fun y => decide (y ∉ zs)) = F9 at *
            obtain ⟨y, F9, rfl⟩ : ∃ y F, F9 = y :: F := by
              cases F9 with
              | nil => exact absurd rfl ne9
              | cons y F => exact ⟨y, F, rfl⟩
            obtain ⟨m1, m2⟩ := mem9 y List.mem_cons_self
            have e0 : atI ((y :: F9).map V.str) 0 = some (.str y) := atI_nat (j := 0) rfl
            have elg9 := s9 _ _ elg8
            walk_at "st"
            refine ⟨m.toNat - (zs.length + 1), by omega, zs ++ [y], _, _, rfl, (K8.trans (Kp.ofSame s9)).own hlgH, (st8.same s9).set olg, ?_, ?_, ?_, fun x mx => ?_, ?_, ?_⟩
            · exact hl_set nlo (s9 _ _ elo8)
            · rw [upd_same, List.map_append]; rfl
            · exact List.nodup_append.mpr ⟨nd, by simp, fun a ha b hb e => m2 (by rw [List.mem_singleton.mp hb] at e; exact e ▸ ha)⟩
            · rcases List.mem_append.mp mx with mx | mx
              · exact nm x mx
              · rw [List.mem_singleton.mp mx]; exact spare_name nz y m1
            · rw [List.length_append]; show ((zs.length + 1 : Nat) : Int) ≤ m; omega
            · rw [List.length_append]; rfl
      · walk_at "if"
        refine ⟨s, c, _, rfl, st4, by omega, fun d H5 k5 st5 hd => ?_⟩
        have elo5 := k5 _ _ elo4 olo
        have elg5 := k5 _ _ elg4 olg
        have K5 := K4.trans k5
        walk_at "st"
        refine r_iteB (fun h2 => ?_) (fun h2 => ?_)
        · walk_at "st"
          refine ⟨s, c, _, rfl, st5, by omega, fun d6 H6 k6 st6 hd6 => ?_⟩
          have elo6 := k6 _ _ elo5 olo
          have elg6 := k6 _ _ elg5 olg
          have K6 := K5.trans k6
          walk_at "st"
          intro D hD
          have oD := st6.out hD
          refine lc_by (walk_range (lo := 0) (n := (1 + d6).toNat)) (fun i H' => Kp [s, c] H6 H' ∧ St s c H' ∧ ∃ ws : List Nat, H' D = some (.lst (((ws.map fun k => [k]).map SX.S).map V.str)) ∧ ws.length = i ∧ ∀ k ∈ ws, k ∈ lettersL)
            ⟨Kp.new hD, st6.new hD, [], upd_same, rfl, fun k mk => by cases mk⟩ (fun _ _ _ _ => trivial) (fun i x' H7 H7' hi p y => ?_) (fun H7 p => ?_)
          · obtain ⟨k7, st7, ws, eD, lw, hw⟩ := p
            obtain ⟨rfl, rfl⟩ := y
            refine ⟨rfl, ?_⟩
            walk_at "st"
            refine ⟨s, c, _, rfl, st7, .inr ⟨_, rfl, by decide, by decide, fun k H8 mk k8 st8 => ?_⟩⟩
            have eD8 := k8 _ _ eD oD
            refine ⟨_, eD8, ?_, (k7.trans k8).own hD, st8.set oD, ws ++ [k], ?_, by rw [List.length_append, lw]; rfl, fun x mx => ?_⟩
            · rw [List.length_map, List.length_map, List.length_map, lw]
              exact Nat.lt_of_lt_of_le (show i < 1000 by omega) (by decide)
            · rw [upd_same, List.map_append, List.map_append, List.map_append]; rfl
            · rcases List.mem_append.mp mx with mx | mx
              · exact hw x mx
              · rw [List.mem_singleton.mp mx]; exact mk
          · obtain ⟨k7, st7, ws, eD, lw, hw⟩ := p
            refine r_joinS (SqL.of eD) ?_ ?_
            · rw [sum_ones]
              show _ + _ * 0 ≤ _
              omega
            rw [show Str.ofString "" = SX.S [] from rfl, SX.join_S, join_flat, flat_ones]
            walk_at "st"
            refine hN _ _ ⟨_, rfl, K6.trans k7, st7, k7 _ _ elo6 olo, k7 _ _ elg6 olg, ?_⟩
            have e1 : (SX.S ws).length = ws.length := SX.S_len ws
            exact ⟨by rw [e1]; omega, by rw [e1]; omega, hw⟩
        · walk_at "st"
          exact hN _ _ ⟨z, rfl, K5, st5, elo5, elg5, own_ok z mz⟩
    · rw [List.length_map] at h
      walk_at "st"
      exact q lg zs _ k3 st3 hlgH elg3 (by omega) nd nm
end
local macro_rules | `(tactic| walk_at "ssz") => `(tactic| first | decide | exact str_small (by assumption) | (have : (1000000 : Nat) ≤ sizeLine := (by decide); omega))
local macro_rules | `(tactic| walk_at "st1") => `(tactic| first
  | with_reducible refine' r_nt ?_ | with_reducible refine' r_nf ?_
  | ((with_reducible refine r_lenS ?e1 ?_); (case e1 => walk_at "ssz"))
  | with_reducible refine r_inS ?_
  | with_reducible refine r_ninS ?_
  | ((with_reducible refine r_addS ?e1 ?_); (case e1 => walk_at "ssz"))
  | ((with_reducible refine' r_ixS ?e1 ?e2 ?_); (case e1 => walk_at "ssz"); (case e2 => first | assumption | rfl))
  | with_reducible refine r_istr ?_
  | with_reducible refine r_is ?_
  | with_reducible refine r_un ?_
  | with_reducible refine r_u ?_)
local macro_rules | `(tactic| walk_at "st1") => `(tactic| first
  | with_reducible refine r_tru ?_
  | ((with_reducible refine' r_truT ?e1 ?_); (case e1 => walk_at "sq"))
  | with_reducible refine r_isN ?_
  | with_reducible refine r_tyS ?_
  | with_reducible refine r_m1 ?_
  | with_reducible refine r_sx ?_
  | ((with_reducible refine r_strC ?e1 ?_); (case e1 => omega)))
local macro_rules | `(tactic| walk_at "st1") => `(tactic| first
  | with_reducible refine r_par ?_
  | with_reducible refine r_parx ?_
  | ((with_reducible refine' r_gtup ?e1 ?e2 ?_); (case e1 => walk_at "sq"); (case e2 => rfl))
  | with_reducible refine r_gcons ?_
  | with_reducible refine r_gnil ?_
  | with_reducible refine r_ient ?_
  | ((with_reducible refine' r_ent ?e1 ?_); (case e1 => walk_at "sq")))
local macro_rules | `(tactic| walk_at "st1") => `(tactic| first
  | with_reducible refine' r_nt ?_
  | with_reducible refine' r_nf ?_
  | with_reducible refine r_un ?_
  | with_reducible refine r_u ?_)
/-! ### instructions, drawn -/
theorem cr_sortedSK {X : Cx} {K : PySem.W.Frag} (q : X.K = K := by rfl) : CallR X (.builtin "sorted") (rSortedS K) := q ▸ cr_sortedS
theorem KeepT.trans {H H1 H2 : Hp} (a : KeepT H H1) (b : KeepT H1 H2) : KeepT H H2 := fun x xs h => b _ _ (a _ _ h)
theorem KeepT.kp {s c : Addr} {H H' : Hp} (k : Kp [s, c] H H') (t : St s c H) : KeepT H H' := fun a xs h => k _ _ h fun z => by
  obtain ⟨_, cs, j, r, h2⟩ := t
  rcases List.mem_cons.mp z with e1 | z
  · rw [e1, h2.hs] at h; cases h
  · rw [List.mem_singleton.mp z, h2.hc] at h; cases h
theorem KeepT.lst {H : Hp} {l : Addr} {xs : List V} {o : HO} (e : H l = some (.lst xs)) : KeepT H (upd H l o) := fun a xs h => hl_set (fun z => by rw [z, e] at h; cases h) h
def FitL (hid : Nat) (many p : Int) : List Nat → List Arg → Prop
  | [], [] => True
  | c :: l, a :: as => Fits hid many p NameS Ris c a ∧ FitL hid many p l as
  | _, _ => False
theorem FitL.ok {hid : Nat} {many p : Int} : ∀ {l : List Nat} {as : List Arg}, FitL hid many p l as → l.length = as.length ∧ ∀ (i c : Nat) (a : Arg), l[i]? = some c → as[i]? = some a → Fits hid many p NameS Ris c a
  | [], [], _ => ⟨rfl, fun i c a e => by simp at e⟩
  | c :: l, a :: as, h => by
    obtain ⟨h1, h2⟩ := h
    obtain ⟨e, k⟩ := h2.ok
    refine ⟨by rw [List.length_cons, List.length_cons, e], fun i c' a' e1 e2 => ?_⟩
    cases i with
    | zero =>
      rw [← Option.some.inj (show some c = some c' from e1), ← Option.some.inj (show some a = some a' from e2)]
      exact h1
    | succ i => exact k i c' a' (by simpa using e1) (by simpa using e2)
  | [], _ :: _, h => h.elim
  | _ :: _, [], h => h.elim
theorem good_mk {hid : Nat} {many p : Int} {op : Str} (sh : Str) {args : List Arg} (m : (op, sh) ∈ shapesS) (f : FitL hid many p (cs sh) args) : GoodI hid many p (op, args) := ⟨sh, m, f.ok.1, f.ok.2⟩
/-- right, goals that wait for nothing ahead of it, what it asks among as -/
structure InsOk (hid : Nat) (p : Int) (k n : Nat) (as : List Ask) (x : Ins) : Prop where
  good : GoodI hid (n : Nat) p x
  fwd : ∀ j ∈ idleG x k n, k < j
  asks : ∀ a, askOf x = some a → a ∈ as
theorem fwd_next {op : Str} {args : List Arg} {k n : Nat} (h1 : ¬ op = "go") (h2 : ¬ op = "ask") : ∀ j ∈ idleG (op, args) k n, k < j := by
  intro j m
  unfold idleG at m
  rw [if_neg (show ¬ (op, args).1 = "go" from h1), if_neg (show ¬ (op, args).1 = "ask" from h2)] at m
  split at m
  · cases m
  · rw [List.append_nil] at m
    split at m
    · rw [List.mem_singleton.mp m]; omega
    · cases m
theorem ok_next {hid : Nat} {p : Int} {k n : Nat} {as : List Ask} {op : Str} {args : List Arg} (h1 : ¬ op = "go") (h2 : ¬ op = "ask") (g : GoodI hid (n : Nat) p (op, args)) : InsOk hid p k n as (op, args) :=
  ⟨g, fwd_next h1 h2, fun a e => by rw [ask_none (show ¬ (op, args).1 = "ask" from h2)] at e; cases e⟩
theorem ok_go {hid : Nat} {p : Int} {k n : Nat} {as : List Ask} {i : Int} (h : (k : Int) < i) (h2 : i < n) : InsOk hid p k n as ("go", [.n i]) := by
  refine ⟨good_mk "t" (by decide) ⟨.t ⟨by omega, h2⟩, trivial⟩, fun j m => ?_, fun a e => by rw [ask_none (show ¬ (Str.ofString "go") = "ask" by decide)] at e; cases e⟩
  have e : idleG ("go", [.n i]) k n = [i.toNat] := by
    unfold idleG
    rw [if_neg (show ¬ (Str.ofString "go") ∈ stopL by decide), if_pos rfl]; rfl
  rw [e] at m
  rw [List.mem_singleton.mp m]; omega
theorem ok_ask {hid : Nat} {p : Int} {k n : Nat} {as : List Ask} {i : Int} {a : Ask} (ha : a ∈ as) (h1 : NameS a.1) (h2 : NameS a.2.1) (h3 : 0 ≤ a.2.2 ∧ a.2.2 < 4) (h : (k : Int) < i) (h4 : i < n) : InsOk hid p k n as ("ask", [.w a.1, .w a.2.1, .n a.2.2, .n i]) := by
  refine ⟨good_mk "ddmt" (by decide) ⟨.d h1, .d h2, .m h3, .t ⟨by omega, h4⟩, trivial⟩, fun j m => ?_, fun b e => ?_⟩
  · unfold idleG at m
    rw [if_neg (show ¬ (Str.ofString "ask") ∈ stopL by decide), if_neg (show ¬ (Str.ofString "ask") = "go" by decide), if_pos rfl] at m
    rcases List.mem_append.mp m with m | m
    · split at m
      · rw [List.mem_singleton.mp m]; omega
      · cases m
    · rw [List.mem_singleton.mp (show j ∈ [i.toNat] from m)]; omega
  · have e2 : (if (Str.ofString "ask") = "ask" then some (a.1, a.2.1, a.2.2) else none) = some b := e
    rw [if_pos rfl] at e2
    rw [← Option.some.inj e2]; exact ha
def KitV (s c : Addr) (H : Hp) (kd : Addr) (hid : Nat) (p : Int) (as : List Ask) : Prop := ∃ (lsp lak : Addr) (us : List V), H kd = some (.dK [(Sum.inr "p", .int p), (Sum.inr "spots", .ref lsp), (Sum.inr "asked", .ref lak)]) ∧ H lsp = some (.lst ((knownL hid).map V.str)) ∧ lsp ∉ [s, c] ∧ H lak = some (.lst us) ∧ lak ∉ [s, c] ∧ Al (AsV H) us as
theorem St.dkOut {s c a : Addr} {H : Hp} {kvs : List (Key × V)} (h : St s c H) (e : H a = some (.dK kvs)) : a ∉ [s, c] := by
  obtain ⟨_, cs, j, r, h⟩ := h
  intro z
  rcases List.mem_cons.mp z with e1 | z
  · rw [e1, h.hs] at e; cases e
  · rw [List.mem_singleton.mp z, h.hc] at e; cases e
theorem AsV.tup {H H' : Hp} {v : V} {a : Ask} (h : AsV H v a) (k : KeepT H H') : AsV H' v a := by
  obtain ⟨t, e, ht⟩ := h
  exact ⟨t, e, k _ _ ht⟩
theorem KitV.to {s c : Addr} {H H' : Hp} {kd : Addr} {hid : Nat} {p : Int} {as : List Ask} (h : KitV s c H kd hid p as) (k : Kp [s, c] H H') (st : St s c H) : KitV s c H' kd hid p as := by
  obtain ⟨lsp, lak, us, h1, h2, o2, h3, o3, al⟩ := h
  exact ⟨lsp, lak, us, k _ _ h1 (st.dkOut h1), k _ _ h2 o2, o2, k _ _ h3 o3, o3, al.imp fun u x h => h.tup (.kp k st)⟩
def DG1 (Q : VK) (x y : V) (H2 : Hp) : Prop := ∃ a v, x = .ref a ∧ DGet H2 a y (some v) ∧ Q v H2
theorem r_dget {σ : L2.St} {H : Hp} {Q : VK} {td ty : TE} (h : td σ H fun x H1 => ty σ H1 fun y H2 => DG1 Q x y H2) : tDGet td ty σ H Q := h
theorem r_dgK {Q : VK} {H : Hp} {d : Addr} {kvs : List (Key × V)} {z : Str} {v : V} (e : H d = some (.dK kvs)) (g : valV kvs (Sum.inr z) = some v) (q : Q v H) : DG1 Q (.ref d) (.str z) H :=
  ⟨d, v, rfl, by have := DGet.k (k := Sum.inr z) e; rw [g] at this; exact this, q⟩
local macro_rules | `(tactic| walk_at "st1") => `(tactic| first
  | with_reducible refine r_dget ?_
  | ((with_reducible refine' r_dgK ?e1 ?e2 ?_); (case e1 => walk_at "hl"); (case e2 => assumption)))
theorem WayI.tup {H H' : Hp} {v : V} {x : Str × Int} (h : WayI H v x) (k : KeepT H H') : WayI H' v x := by
  obtain ⟨t, e, ht⟩ := h
  exact ⟨t, e, k _ _ ht⟩
theorem r_sortS {K : PySem.W.Frag} {H : Hp} {Q : VK} {a : Addr} {xs : List Str} (h : SqL K H a (xs.map V.str)) (z : xs.length < 64) (q : ∀ (ys : List Str) (p : Addr), ys.Perm xs → sortedS ys = true → H p = none → Q (.ref p) (upd H p (.lst (ys.map V.str)))) : rSortedS K [.ref a] H Q := ⟨a, xs, rfl, h, z, q⟩
theorem cs_inj {x y : Str} (h : cs x = cs y) : x = y := by
  cases x; cases y
  simp only [cs] at h
  congr 1
  exact Array.toList_inj.mp h
theorem Al.mem {α : Type} {R : V → α → Prop} {us : List V} {xs : List α} (h : Al R us xs) {u : V} (m : u ∈ us) : ∃ x ∈ xs, R u x := by
  obtain ⟨i, e⟩ := List.getElem?_of_mem m
  obtain ⟨x, ex, r⟩ := h.2 i u e
  exact ⟨x, List.mem_of_getElem? ex, r⟩
theorem le_trans_S {x y z : Str} (h : ¬ ltS y x) (k : ¬ ltS z y) : ¬ ltS z x := by
  unfold ltS at *
  rw [List.not_lt] at *
  exact List.le_trans h k
theorem risingS_pairwise : ∀ (p : Str) (l : List Str), risingS p l = true → (p :: l).Pairwise fun a b => ¬ ltS b a
  | p, [], _ => List.pairwise_singleton _ _
  | p, x :: r, h => by
    unfold risingS at h
    rw [Bool.and_eq_true, Bool.not_eq_true', PyProof.Rows.ltCps_eq] at h
    have h1 : ¬ ltS x p := fun z => absurd (show x.cps.toList < p.cps.toList from z) (of_decide_eq_false h.1)
    have ih := risingS_pairwise x r h.2
    refine List.pairwise_cons.mpr ⟨fun y m => ?_, ih⟩
    rcases List.mem_cons.mp m with rfl | m
    · exact h1
    · exact le_trans_S h1 ((List.pairwise_cons.mp ih).1 y m)
theorem sortedS_pairwise {l : List Str} (h : sortedS l = true) : l.Pairwise fun a b => ¬ ltS b a := by
  cases l with
  | nil => exact .nil
  | cons x r => exact risingS_pairwise x r h
theorem sortedS_rise {l : List Str} (h : sortedS l = true) (nd : l.Nodup) : l.Pairwise ltS := by
  have p := sortedS_pairwise h
  refine (p.and nd).imp fun {a b} q => ?_
  rcases Std.lt_trichotomy (cs a) (cs b) with z | z | z
  · exact z
  · exact absurd (cs_inj z) q.2
  · exact absurd z q.1
theorem cutV_in {xs : List V} {lo hi : Option Int} {u : V} (h : u ∈ cutV xs lo hi) : u ∈ xs := List.mem_of_mem_drop (List.mem_of_mem_take h)
theorem known_len (hid : Nat) : 8 ≤ (knownL hid).length ∧ (knownL hid).length ≤ 11 := by
  unfold knownL
  rw [List.length_append, List.length_take]
  show 8 ≤ 8 + min hid 3 ∧ 8 + min hid 3 ≤ 11
  omega
def sp_law_instruction (_ : PySem.W.Frag) : Sp := fun vs H Q _ => ∃ (s c kd : Addr) (hid : Nat) (p : Int) (as : List Ask) (k n : Nat), vs = [.ref s, .ref kd, .int (k : Nat), .int (n : Nat)] ∧ St s c H ∧ KitV s c H kd hid p as ∧ (2 ≤ p ∧ p ≤ 997) ∧ as.length = 3 ∧ (∀ a ∈ as, NameS a.1 ∧ NameS a.2.1 ∧ 0 ≤ a.2.2 ∧ a.2.2 < 4) ∧ k < n ∧ n ≤ 400 ∧
  ∀ v x H', Kp [s, c] H H' → St s c H' → InsV H' v x → InsOk hid p k n as x → Q v H'
section
variable {P : Program} {w : World} {K : PySem.W.Frag} {mg : Str → Option Value} {base : Heap}
theorem ok_law_instruction {c_Coded : Addr} {c_Machine : Addr} {c_CodeReader : Addr} {c_REGISTERS : Addr} {c_CELLS : Addr} {c_SHAPES : Addr} (T : Tx K mg c_Coded c_Machine c_CodeReader c_REGISTERS c_CELLS c_SHAPES w) {f_law_draw : Addr} {fd_law_draw : FuncData} (C_law_draw : Cal P w K mg base "_law_draw" 1 ["state", "many"] (sp_law_draw K) s_law_draw f_law_draw fd_law_draw) {f_law_pick : Addr} {fd_law_pick : FuncData} (C_law_pick : Cal P w K mg base "_law_pick" 2 ["state", "some"] (sp_law_pick K) s_law_pick f_law_pick fd_law_pick) {f_law_number : Addr} {fd_law_number : FuncData} (C_law_number : Cal P w K mg base "_law_number" 3 ["state", "p"] (sp_law_number K) s_law_number f_law_number fd_law_number) {f_law_words : Addr} {fd_law_words : FuncData} (C_law_words : Cal P w K mg base "_law_words" 3 ["state", "many"] (sp_law_words K) s_law_words f_law_words fd_law_words) {f : Addr} {fd : FuncData} (F : Here K mg "_law_instruction" s_law_instruction ["state", "kit", "at", "size"] f fd) : Cal P w K mg base "_law_instruction" 4 ["state", "kit", "at", "size"] (sp_law_instruction K) s_law_instruction f fd := by
  refine F.cal sc_law_instruction (fun vs H Q E h => ?_) (fun cdv A outer s H vs Q E hr h => ?_)
  · obtain ⟨s, c, kd, hid, p, as, k, n, rfl, _⟩ := h
    rfl
  · obtain ⟨s, c, kd, hid, p, as, k, n, rfl, st, kit, hp, l3, ha, hk, hn, q⟩ := h
    refine ⟨_, (pss_cons (ps_par (i := 4) (j := 5) rfl sc_law_instruction.nd rfl rfl (by decide) rfl rfl (pa_cons (pe_dget (hu_of hr) (pv 1) pe_str (fun _ _ => rfl)) (pa_cons (pe_dget (hu_of hr) (pv 1) pe_str (fun _ _ => rfl)) pa_nil)) (by rfl))
      (pss_cons (ps_par (i := 6) (j := 7) rfl sc_law_instruction.nd rfl rfl (by decide) rfl rfl (pa_cons (pe_call C_law_pick.ok (hr.mono (by decide)) (by rfl) C_law_pick.at_ C_law_pick.kp C_law_pick.b .nil pass0 (pa_cons (pv 0) (pa_cons (pe_op op_cat (pe_slice (sl_listK (K := K)) (pv 4) po_none (po_some pe_int)) (pv 4)) pa_nil))) (pa_cons (pe_call C_law_pick.ok (hr.mono (by decide)) (by rfl) C_law_pick.at_ C_law_pick.kp C_law_pick.b .nil pass0 (pa_cons (pv 0) (pa_cons (pe_op op_cat (pe_slice (sl_listK (K := K)) (pv 4) po_none (po_some pe_int)) (pv 4)) pa_nil))) pa_nil)) (by rfl))
      (pss_cons (ps_set (i := 8) sc_law_instruction.nd rfl (by first | exact .inl rfl | exact .inr rfl) (pe_call C_law_draw.ok (hr.mono (by decide)) (by rfl) C_law_draw.at_ C_law_draw.kp C_law_draw.b .nil pass0 (pa_cons (pv 0) (pa_cons pe_int pa_nil))))
      (pss_cons (ps_setLc (i := 9) rfl sc_law_instruction.nd rfl rfl (sw_true rfl rfl rfl (by decide +kernel)) (pi_range2 (by rfl) T.m_range (pa_cons (pe_op op_add (pv 2) pe_int) (pa_cons (pv 3) pa_nil))) (blkOk_by (own := [("to", 10)]) (N := ["state", "kit", "at", "size", "spots", "p", "u", "v", "way", "ahead", "to", "words", "word", "lender", "deed", "many"]) (sc := (defScope s_law_instruction)) (by decide +kernel)) (fun _ _ _ _ _ => (pg_name (i := 10) sc_law_instruction.nd rfl (by first | exact .inl rfl | exact .inr rfl))) (fun _ _ _ _ _ => pts_nil) (fun _ _ _ _ _ => (pv 10)))
      (pss_cons (ps_if (pt_cmpR op_lt (pv 8) pe_int (nomark _)) (pss_one (ps_ret (pe_tup (pa_cons pe_str (pa_cons (pv 6) (pa_cons (pe_call C_law_number.ok (hr.mono (by decide)) (by rfl) C_law_number.at_ C_law_number.kp C_law_number.b .nil pass0 (pa_cons (pv 0) (pa_cons (pv 5) pa_nil))) pa_nil)))))) pss_nil)
      (pss_cons (ps_if (pt_cmpR op_lt (pv 8) pe_int (nomark _)) (pss_one (ps_ret (pe_tup (pa_cons pe_str (pa_cons (pv 6) (pa_cons (pv 7) pa_nil)))))) pss_nil)
      (pss_cons (ps_if (pt_cmpR op_lt (pv 8) pe_int (nomark _)) (pss_one (ps_ret (pe_tup (pa_cons pe_str (pa_cons (pv 6) (pa_cons (pv 7) pa_nil)))))) pss_nil)
      (pss_cons (ps_if (pt_cmpR op_eq (pv 8) pe_int (nomark _)) (pss_one (ps_ret (pe_tup (pa_cons pe_str (pa_cons (pv 6) (pa_cons (pe_call C_law_number.ok (hr.mono (by decide)) (by rfl) C_law_number.at_ C_law_number.kp C_law_number.b .nil pass0 (pa_cons (pv 0) (pa_cons (pv 5) pa_nil))) pa_nil)))))) pss_nil)
      (pss_cons (ps_if (pt_cmpR op_lt (pv 8) pe_int (nomark _)) (pss_one (ps_ret (pe_tup (pa_cons (pe_ix (ix_listK (K := K)) (pe_lst (pa_cons pe_str (pa_cons pe_str (pa_cons pe_str pa_nil)))) (pe_op op_sub (pv 8) pe_int) (fun _ _ => rfl)) (pa_cons (pv 6) pa_nil))))) pss_nil)
      (pss_cons (ps_if (PW.pt (pw_and (pt_cmpR op_eq (pv 8) pe_int (nomark _)) (pw_and1 (pt_cmpR (op_neNilK (K := K) (hu_of64 hr)) (pv 9) (pe_lst pa_nil) (nomark _))))) (pss_one (ps_ret (pe_tup (pa_cons pe_str (pa_cons (pe_call C_law_pick.ok (hr.mono (by decide)) (by rfl) C_law_pick.at_ C_law_pick.kp C_law_pick.b .nil pass0 (pa_cons (pv 0) (pa_cons (pv 9) pa_nil))) pa_nil))))) pss_nil)
      (pss_cons (ps_if (pt_cmpR op_lt (pv 8) pe_int (nomark _)) (pss_cons (ps_set (i := 11) sc_law_instruction.nd rfl (by first | exact .inl rfl | exact .inr rfl) (pe_callB (cr_sortedSK (K := K)) (by rfl) T.m_sorted (by decide +kernel) (pa_cons (pe_call C_law_words.ok (hr.mono (by decide)) (by rfl) C_law_words.at_ C_law_words.kp C_law_words.b .nil pass0 (pa_cons (pv 0) (pa_cons (pe_call C_law_pick.ok (hr.mono (by decide)) (by rfl) C_law_pick.at_ C_law_pick.kp C_law_pick.b .nil pass0 (pa_cons (pv 0) (pa_cons (pe_lst (pa_cons pe_int (pa_cons pe_int (pa_cons pe_int (pa_cons pe_int pa_nil))))) pa_nil))) pa_nil))) pa_nil)))
      (pss_one (ps_ret (pe_tup (pa_cons pe_str (pa_cons (pe_callTy (cr_tupOfK (K := K)) (by rfl) T.m_tuple (by decide +kernel) (pa_cons (pe_lc rfl sc_law_instruction.nd (pi_listK (K := K) (pv 11)) (blkOk_by (own := [("word", 12)]) (N := ["state", "kit", "at", "size", "spots", "p", "u", "v", "way", "ahead", "to", "words", "word", "lender", "deed", "many"]) (sc := (defScope s_law_instruction)) (by decide +kernel)) (fun _ _ _ _ _ => (pg_name (i := 12) sc_law_instruction.nd rfl (by first | exact .inl rfl | exact .inr rfl))) (fun _ _ _ _ _ => pts_nil) (fun _ _ _ _ _ => (pe_tup (pa_cons (pv 12) (pa_cons (pe_call C_law_draw.ok (hr.mono (by decide)) (by rfl) C_law_draw.at_ C_law_draw.kp C_law_draw.b .nil pass0 (pa_cons (pv 0) (pa_cons (pv 3) pa_nil))) pa_nil))))) pa_nil)) pa_nil)))))) pss_nil)
      (pss_cons (ps_if (pt_cmpR op_lt (pv 8) pe_int (nomark _)) (pss_one (ps_ret (pe_tup (pa_cons (pe_ix (ix_listK (K := K)) (pe_lst (pa_cons pe_str (pa_cons pe_str pa_nil))) (pe_op op_sub (pv 8) pe_int) (fun _ _ => rfl)) (pa_cons (pv 6) pa_nil))))) pss_nil)
      (pss_cons (ps_if (PW.pt (pw_and (pt_cmpR op_eq (pv 8) pe_int (nomark _)) (pw_and1 (pt_cmpR (op_neNilK (K := K) (hu_of64 hr)) (pv 9) (pe_lst pa_nil) (nomark _))))) (pss_cons (ps_asg (pe_call C_law_pick.ok (hr.mono (by decide)) (by rfl) C_law_pick.at_ C_law_pick.kp C_law_pick.b .nil pass0 (pa_cons (pv 0) (pa_cons (pe_dget (hu_of hr) (pv 1) pe_str (fun _ _ => rfl)) pa_nil))) (castPG (K := K) (n := 3) (pg_tup rfl (pgs_cons (pg_name (i := 13) sc_law_instruction.nd rfl (by first | exact .inl rfl | exact .inr rfl)) (pgs_cons (pg_name (i := 14) sc_law_instruction.nd rfl (by first | exact .inl rfl | exact .inr rfl)) (pgs_cons (pg_name (i := 15) sc_law_instruction.nd rfl (by first | exact .inl rfl | exact .inr rfl)) pgs_nil))))))
      (pss_one (ps_ret (pe_tup (pa_cons pe_str (pa_cons (pv 13) (pa_cons (pv 14) (pa_cons (pv 15) (pa_cons (pe_call C_law_pick.ok (hr.mono (by decide)) (by rfl) C_law_pick.at_ C_law_pick.kp C_law_pick.b .nil pass0 (pa_cons (pv 0) (pa_cons (pv 9) pa_nil))) pa_nil))))))))) pss_nil)
      (pss_cons (ps_if (pt_cmpR op_eq (pv 8) pe_int (nomark _)) (pss_one (ps_ret (pe_ifExp (pt_cmpR op_eq (pe_call C_law_draw.ok (hr.mono (by decide)) (by rfl) C_law_draw.at_ C_law_draw.kp C_law_draw.b .nil pass0 (pa_cons (pv 0) (pa_cons pe_int pa_nil))) pe_int (nomark _)) (pe_tup (pa_cons pe_str pa_nil)) (pe_tup (pa_cons pe_str (pa_cons (pe_ix (ix_listK (K := K)) (pe_call C_law_words.ok (hr.mono (by decide)) (by rfl) C_law_words.at_ C_law_words.kp C_law_words.b .nil pass0 (pa_cons (pv 0) (pa_cons pe_int pa_nil))) pe_int (fun _ _ => rfl)) pa_nil)))))) pss_nil)
      (pss_one (ps_ret (pe_tup (pa_cons pe_str (pa_cons (pv 6) pa_nil))))))))))))))))))), ?_⟩
    obtain ⟨lsp, lak, us, ekd, esp, osp, eak, oak, al⟩ := kit
    have okd := st.dkOut ekd
    have g1 : valV [((Sum.inr "p" : Key), V.int p), (Sum.inr "spots", .ref lsp), (Sum.inr "asked", .ref lak)] (Sum.inr (Str.ofString "spots")) = some (.ref lsp) := rfl
    have g2 : valV [((Sum.inr "p" : Key), V.int p), (Sum.inr "spots", .ref lsp), (Sum.inr "asked", .ref lak)] (Sum.inr (Str.ofString "p")) = some (.int p) := rfl
    have g3 : valV [((Sum.inr "p" : Key), V.int p), (Sum.inr "spots", .ref lsp), (Sum.inr "asked", .ref lak)] (Sum.inr (Str.ofString "asked")) = some (.ref lak) := rfl
    have kl := known_len hid
    walk_at "st"
    intro l1 hl1
    have st1 := st.new (x := .lst (cutV ((knownL hid).map V.str) none (some 3))) hl1
    have k1 : Kp [s, c] H (upd H l1 (.lst (cutV ((knownL hid).map V.str) none (some 3)))) := Kp.new hl1
    have e1 : upd H l1 (.lst (cutV ((knownL hid).map V.str) none (some 3))) l1 = some (.lst (cutV ((knownL hid).map V.str) none (some 3))) := upd_same
    generalize upd H l1 (.lst (cutV ((knownL hid).map V.str) none (some 3))) = H1 at *
    have esp1 := k1 _ _ esp osp
    walk_at "st"
    have mem12 : ∀ u, u ∈ cutV ((knownL hid).map V.str) none (some 3) ++ (knownL hid).map V.str → ∃ z, z ∈ knownL hid ∧ u = .str z := fun u mu => by
      have m2 : u ∈ (knownL hid).map V.str := by
        rcases List.mem_append.mp mu with m | m
        · exact cutV_in m
        · exact m
      obtain ⟨z, mz, e⟩ := List.mem_map.mp m2
      exact ⟨z, mz, e.symm⟩
    have len12 : 0 < (cutV ((knownL hid).map V.str) none (some 3) ++ (knownL hid).map V.str).length ∧ (cutV ((knownL hid).map V.str) none (some 3) ++ (knownL hid).map V.str).length ≤ 1000 := by
      have := cutV_length ((knownL hid).map V.str) none (some 3)
      rw [List.length_append]
      rw [List.length_map] at this ⊢
      omega
    generalize hXS : cutV ((knownL hid).map V.str) none (some 3) = CU at *
    have cut9 : CU.length + ((knownL hid).map V.str).length ≤ 1000000 := by
      have := len12.2
      rw [List.length_append] at this; omega
    refine r_catL e1 esp1 cut9 fun l2 hl2 => ?_
    have st2 := st1.new (x := .lst (CU ++ (knownL hid).map V.str)) hl2
    have ol2 := st1.out hl2
    have k2 := k1.trans (Kp.new (S := [s, c]) (x := .lst (CU ++ (knownL hid).map V.str)) hl2)
    have e2 : upd H1 l2 (.lst (CU ++ (knownL hid).map V.str)) l2 = some (.lst (CU ++ (knownL hid).map V.str)) := upd_same
    generalize upd H1 l2 (.lst (CU ++ (knownL hid).map V.str)) = H2 at *
    walk_at "st"
    refine ⟨s, c, _, rfl, st2, .inl ⟨l2, _, rfl, e2, ol2, len12.1, len12.2, fun u H3 mu k3 st3 => ?_⟩⟩
    obtain ⟨z, mz, rfl⟩ := mem12 u mu
    have K3 := k2.trans k3
    have esp3 := K3 _ _ esp osp
    clear e2 e1 k3 k2 k1 st1 st2 mu esp1 ol2 hl2
    walk_at "st"
    rw [hXS]
    intro l4 hl4
    have st4 := st3.new (x := .lst CU) hl4
    have k4 := K3.trans (Kp.new (S := [s, c]) (x := .lst CU) hl4)
    have e4 : upd H3 l4 (.lst CU) l4 = some (.lst CU) := upd_same
    generalize upd H3 l4 (.lst CU) = H4 at *
    have esp4 := k4 _ _ esp osp
    walk_at "st"
    refine r_catL e4 esp4 cut9 fun l5 hl5 => ?_
    have st5 := st4.new (x := .lst (CU ++ (knownL hid).map V.str)) hl5
    have ol5 := st4.out hl5
    have k5 := k4.trans (Kp.new (S := [s, c]) (x := .lst (CU ++ (knownL hid).map V.str)) hl5)
    have e5 : upd H4 l5 (.lst (CU ++ (knownL hid).map V.str)) l5 = some (.lst (CU ++ (knownL hid).map V.str)) := upd_same
    generalize upd H4 l5 (.lst (CU ++ (knownL hid).map V.str)) = H5 at *
    walk_at "st"
    refine ⟨s, c, _, rfl, st5, .inl ⟨l5, _, rfl, e5, ol5, len12.1, len12.2, fun u H6 mu k6 st6 => ?_⟩⟩
    obtain ⟨z2, mz2, rfl⟩ := mem12 u mu
    have K6 := k5.trans k6
    clear e5 e4 k6 k5 k4 st5 st4 mu ol5 hl5 esp4 K3 st3 esp3 mem12 len12 cut9 hXS
    walk_at "st"
    refine ⟨s, c, _, rfl, st6, by omega, fun way H7 k7 st7 hw => ?_⟩
    have K7 := K6.trans k7
    clear k7 st6 K6
    walk_at "st"
    intro D hD
    refine lc_map (walk_range (lo := (k : Int) + 1) (n := ((n : Int) - ((k : Int) + 1)).toNat)) (by omega) hD (fun _ y _ => ∃ i : Int, y = .int i ∧ (k : Int) < i ∧ i < n) (fun _ _ _ _ h _ => h) (fun _ _ _ _ _ h _ => h) (fun _ _ => trivial) (fun i H1 x H2 y => by rw [y.1]; exact Same.refl _)
      (fun i x' H8 H9 Y No hi sm y hY => ?_) (fun ys H8 el sm eD hys => ?_)
    · obtain ⟨rfl, rfl⟩ := y
      refine ⟨rfl, ?_⟩
      walk_at "st"
      exact hY _ _ (Same.refl _) ⟨_, rfl, by omega, by omega⟩
    have K8 := K7.trans (Kp.ofSame sm)
    have st8 := st7.same sm
    have oD := st7.out hD
    have hy : ∀ y ∈ ys, ∃ i : Int, y = .int i ∧ (k : Int) < i ∧ i < n := fun y hy => by
      obtain ⟨i, e⟩ := List.getElem?_of_mem hy
      exact hys i y e
    clear hys sm K7 st7 hD
    have fin : ∀ (H' : Hp) (t : Addr) (op : Str) (us : List V) (args : List Arg), Kp [s, c] H H' → St s c H' → H' t = none → Al (ArgV H') us args → InsOk hid p k n as (op, args) → Q (.ref t) (upd H' t (.tup (.str op :: us))) := fun H' t op us args k' st' ht al' ok =>
      q _ (op, args) _ (k'.trans (Kp.new ht)) (st'.new ht) ⟨t, us, rfl, upd_same, al'.imp fun u a h => h.same (Same.upd_new ht)⟩ ok
    have u1 : ∀ {H' : Hp}, Al (ArgV H') [.str z] [.w z] := .cons rfl .nil
    have uu : ∀ {H' : Hp}, Al (ArgV H') [.str z, .str z2] [.w z, .w z2] := .cons rfl (.cons rfl .nil)
    have un : ∀ {H' : Hp} {i : Int}, Al (ArgV H') [.str z, .int i] [.w z, .n i] := .cons rfl (.cons rfl .nil)
    walk_at "st"
    walk_at "if"
    refine r_iteB (fun w1 => ?_) (fun w1 => ?_)
    · walk_at "st"
      refine ⟨s, c, p, rfl, st8, hp, fun i H9 k9 st9 hi => ?_⟩
      walk_at "st"
      intro t ht
      exact fin H9 t _ _ _ (K8.trans k9) st9 ht un (ok_next (by decide) (by decide) (good_mk "un" (by decide) ⟨.u mz, .n hi, trivial⟩))
    walk_at "st"
    walk_at "if"
    refine r_iteB (fun w2 => ?_) (fun w2 => ?_)
    · walk_at "st"
      intro t ht
      exact fin H8 t _ _ _ K8 st8 ht uu (ok_next (by decide) (by decide) (good_mk "uu" (by decide) ⟨.u mz, .u mz2, trivial⟩))
    walk_at "st"
    walk_at "if"
    refine r_iteB (fun w3 => ?_) (fun w3 => ?_)
    · walk_at "st"
      intro t ht
      exact fin H8 t _ _ _ K8 st8 ht uu (ok_next (by decide) (by decide) (good_mk "uu" (by decide) ⟨.u mz, .u mz2, trivial⟩))
    walk_at "st"
    walk_at "if"
    refine r_iteB (fun w4 => ?_) (fun w4 => ?_)
    · walk_at "st"
      refine ⟨s, c, p, rfl, st8, hp, fun i H9 k9 st9 hi => ?_⟩
      walk_at "st"
      intro t ht
      exact fin H9 t _ _ _ (K8.trans k9) st9 ht un (ok_next (by decide) (by decide) (good_mk "un" (by decide) ⟨.u mz, .n hi, trivial⟩))
    walk_at "st"
    walk_at "if"
    refine r_iteB (fun w5 => ?_) (fun w5 => ?_)
    · have w3' := of_decide_eq_false w3
      have w4' := of_decide_eq_false w4
      have w5' := of_decide_eq_true w5
      have w6 : way ≠ 7 := fun e => w4' (by rw [e])
      walk_at "st"
      intro l9 hl9
      have k9 := K8.trans (Kp.new (S := [s, c]) (x := .lst [V.str "push", V.str "pop", V.str "push"]) hl9)
      have st9 := st8.new (x := .lst [V.str "push", V.str "pop", V.str "push"]) hl9
      obtain ⟨op, eo, mo⟩ := atI_in (xs := [V.str "push", V.str "pop", V.str "push"]) (i := way - 8) (by omega) (by show way - 8 < 3; omega)
      obtain ⟨o, rfl, ho⟩ : ∃ o : Str, op = .str o ∧ (o = "push" ∨ o = "pop") := by
        simp only [List.mem_cons, List.not_mem_nil, or_false] at mo
        rcases mo with e | e | e
        · exact ⟨_, e, .inl rfl⟩
        · exact ⟨_, e, .inr rfl⟩
        · exact ⟨_, e, .inl rfl⟩
      walk_at "st"
      intro t ht
      rcases ho with rfl | rfl
      · exact fin _ t _ _ _ k9 st9 ht u1 (ok_next (by decide) (by decide) (good_mk "u" (by decide) ⟨.u mz, trivial⟩))
      · exact fin _ t _ _ _ k9 st9 ht u1 (ok_next (by decide) (by decide) (good_mk "u" (by decide) ⟨.u mz, trivial⟩))
    walk_at "st"
    refine r_if ?_
    refine r_joinT (fun b H' => (b = true → ys ≠ []) ∧ Kp [s, c] H H' ∧ St s c H' ∧ H' D = some (.lst ys)) (fun b H9 g => ?_) (fun R hR => ?_)
    rotate_left
    · walk_at "st"
      refine r_iteB (fun w6 => ?_) (fun w6 => ?_)
      · walk_at "st"
        intro l9 hl9
        have k9 := K8.trans (Kp.new (S := [s, c]) (x := .lst []) hl9)
        have st9 := st8.new (x := .lst []) hl9
        have e9 := hl_new (u := .lst []) eD hl9
        refine r_nilL (SqL.of e9) (SqL.of upd_same) ?_
        refine ⟨_, rfl, hR _ _ ⟨fun e z => ?_, k9, st9, e9⟩⟩
        rw [z] at e; cases e
      · exact hR _ _ ⟨fun e => (by cases e), K8, st8, eD⟩
    clear K8 st8 eD
    obtain ⟨hb, K9, st9, eD9⟩ := g
    cases b with
    | true =>
      rw [if_pos rfl]
      have ne := hb rfl
      have lys : 0 < ys.length := List.length_pos_iff.mpr ne
      walk_at "st"
      refine ⟨s, c, _, rfl, st9, .inl ⟨D, _, rfl, eD9, oD, lys, by omega, fun u H10 mu k10 st10 => ?_⟩⟩
      obtain ⟨i, rfl, hi⟩ := hy u mu
      walk_at "st"
      intro t ht
      exact fin _ t _ _ _ (K9.trans k10) st10 ht (show Al (ArgV H10) [.int i] [.n i] from .cons rfl .nil) (ok_go hi.1 hi.2)
    | false =>
      rw [if_neg (by decide)]
      walk_at "st"
      walk_at "if"
      refine r_iteB (fun w6 => ?_) (fun w6 => ?_)
      · walk_at "st"
        intro l9 hl9
        have ol9 := st9.out hl9
        have k10 := K9.trans (Kp.new (S := [s, c]) (x := .lst [V.int 1, V.int 2, V.int 3, V.int 6]) hl9)
        have st10 := st9.new (x := .lst [V.int 1, V.int 2, V.int 3, V.int 6]) hl9
        walk_at "st"
        refine ⟨s, c, _, rfl, st10, .inl ⟨l9, _, rfl, upd_same, ol9, by decide, by decide, fun u H10 mu k11 st11 => ?_⟩⟩
        have K11 := k10.trans k11
        clear k10 k11 st10 hl9
        obtain ⟨i, rfl, hi⟩ : ∃ i : Int, u = .int i ∧ 1 ≤ i ∧ i ≤ 6 := by
          simp only [List.mem_cons, List.not_mem_nil, or_false] at mu
          rcases mu with e | e | e | e <;> exact ⟨_, e, by omega⟩
        walk_at "st"
        refine ⟨s, c, i, rfl, st11, by omega, fun lw zs H12 k12 st12 hlw elw lzs nd nm => ?_⟩
        have K12 := K11.trans k12
        clear k12 st11 K11
        walk_at "st"
        refine r_sortS (SqL.of elw) (by omega) fun ws lv pm so hlv => ?_
        have ri : Ris ws := sortedS_rise so (pm.symm.nodup nd)
        have nmw : ∀ x ∈ ws, NameS x := fun x mx => nm x (pm.mem_iff.mp mx)
        have lws : (ws.length : Int) = i := by rw [pm.length_eq]; exact lzs
        have st13 := st12.new (x := .lst (ws.map V.str)) hlv
        have ov := st12.out hlv
        have K13 := K12.trans (Kp.new (S := [s, c]) (x := .lst (ws.map V.str)) hlv)
        have ev : upd H12 lv (.lst (ws.map V.str)) lv = some (.lst (ws.map V.str)) := upd_same
        generalize upd H12 lv (.lst (ws.map V.str)) = H13 at *
        clear K12 st12 elw hlv
        walk_at "st"
        intro D2 hD2
        have oD2 := st13.out hD2
        have nvD : lv ≠ D2 := ne_of_none ev hD2
        refine lc_by (walk_list (a := lv) (xs := ws.map V.str)) (fun j H' => Kp [s, c] H13 H' ∧ St s c H' ∧ ∃ (us : List V) (l : List (Str × Int)), H' D2 = some (.lst us) ∧ Al (WayI H') us l ∧ us.length = j ∧ l.map (·.1) = ws.take j ∧ ∀ x ∈ l, 0 ≤ x.2 ∧ x.2 < n)
          ⟨Kp.new hD2, st13.new hD2, [], [], upd_same, .nil, rfl, rfl, fun x mx => by cases mx⟩ (fun j H' _ p => SqL.of (p.1 _ _ ev ov)) (fun j x' H14 H14' hj p y => ?_) (fun H14 p => ?_)
        · obtain ⟨k14, st14, us, l, eD2, al2, lus, lm, hl⟩ := p
          obtain ⟨rfl, ex⟩ := y
          obtain ⟨z9, ez9, rfl⟩ := getElem?_map_str ex
          refine ⟨rfl, ?_⟩
          walk_at "st"
          refine ⟨s, c, _, rfl, st14, by omega, fun d H15 k15 st15 hd => ?_⟩
          have eD5 := k15 _ _ eD2 oD2
          walk_at "st"
          intro t ht
          have tk := (KeepT.kp k15 st14).trans (keepT_of (Same.upd_new (x := .tup [.str z9, .int d]) ht))
          have eD6 := hl_new (u := .tup [.str z9, .int d]) eD5 ht
          have k16 := (k14.trans k15).trans (Kp.new (S := [s, c]) (x := .tup [.str z9, .int d]) ht)
          have st16 := st15.new (x := .tup [.str z9, .int d]) ht
          have et : upd H15 t (.tup [.str z9, .int d]) t = some (.tup [.str z9, .int d]) := upd_same
          generalize upd H15 t (.tup [.str z9, .int d]) = H16 at *
          have tk2 := KeepT.lst (o := .lst (us ++ [.ref t])) eD6
          refine ⟨us, eD6, ?_, k16.own hD2, st16.set oD2, us ++ [.ref t], l ++ [(z9, d)], upd_same, ?_, by rw [List.length_append, lus]; rfl, ?_, fun x mx => ?_⟩
          · rw [lus]
            rw [List.length_map] at hj
            exact Nat.lt_of_lt_of_le (show j < 1000 by omega) (by decide)
          · exact (al2.imp fun u x h => h.tup (tk.trans tk2)).snoc ⟨t, rfl, tk2 _ _ et⟩
          · rw [List.map_append, lm, List.take_succ, ez9]; rfl
          · rcases List.mem_append.mp mx with mx | mx
            · exact hl x mx
            · rw [List.mem_singleton.mp mx]; exact hd
        · obtain ⟨k14, st14, us, l, eD2, al2, lus, lm, hl⟩ := p
          rw [List.length_map] at lus lm
          rw [List.take_length] at lm
          have K14 := K13.trans k14
          walk_at "st"
          intro t2 ht2
          have k15 := K14.trans (Kp.new (S := [s, c]) (x := .tup us) ht2)
          have st15 := st14.new (x := .tup us) ht2
          walk_at "st"
          intro t ht
          have ll : l.length = ws.length := by have := congrArg List.length lm; rwa [List.length_map] at this
          refine fin _ t _ _ _ k15 st15 ht (show Al (ArgV _) [.ref t2] [.ways l] from .cons ⟨t2, us, rfl, upd_same, al2.imp fun u x h => h.tup (keepT_of (Same.upd_new ht2))⟩ .nil) (ok_next (by decide) (by decide) (good_mk "w" (by decide) ⟨.w ⟨by omega, by omega⟩ (fun x mx => ⟨nmw _ ?_, hl x mx⟩) (by rw [lm]; exact ri), trivial⟩))
          rw [← lm]
          exact List.mem_map.mpr ⟨x, mx, rfl⟩
      walk_at "st"
      walk_at "if"
      refine r_iteB (fun w7 => ?_) (fun w7 => ?_)
      · have w6' := of_decide_eq_false w6
        have w7' := of_decide_eq_true w7
        walk_at "st"
        intro l9 hl9
        have k10 := K9.trans (Kp.new (S := [s, c]) (x := .lst [V.str "take", V.str "out"]) hl9)
        have st10 := st9.new (x := .lst [V.str "take", V.str "out"]) hl9
        obtain ⟨op, eo, mo⟩ := atI_in (xs := [V.str "take", V.str "out"]) (i := way - 14) (by omega) (by show way - 14 < 2; omega)
        obtain ⟨o, rfl, ho⟩ : ∃ o : Str, op = .str o ∧ (o = "take" ∨ o = "out") := by
          simp only [List.mem_cons, List.not_mem_nil, or_false] at mo
          rcases mo with e | e
          · exact ⟨_, e, .inl rfl⟩
          · exact ⟨_, e, .inr rfl⟩
        walk_at "st"
        intro t ht
        rcases ho with rfl | rfl
        · exact fin _ t _ _ _ k10 st10 ht u1 (ok_next (by decide) (by decide) (good_mk "u" (by decide) ⟨.u mz, trivial⟩))
        · exact fin _ t _ _ _ k10 st10 ht u1 (ok_next (by decide) (by decide) (good_mk "u" (by decide) ⟨.u mz, trivial⟩))
      walk_at "st"
      refine r_if ?_
      refine r_joinT (fun b H' => (b = true → ys ≠ []) ∧ Kp [s, c] H H' ∧ St s c H' ∧ H' D = some (.lst ys)) (fun b H9 g => ?_) (fun R hR => ?_)
      rotate_left
      · walk_at "st"
        refine r_iteB (fun w6 => ?_) (fun w6 => ?_)
        · walk_at "st"
          intro l9 hl9
          have k10 := K9.trans (Kp.new (S := [s, c]) (x := .lst []) hl9)
          have st10 := st9.new (x := .lst []) hl9
          have e9 := hl_new (u := .lst []) eD9 hl9
          refine r_nilL (SqL.of e9) (SqL.of upd_same) ?_
          refine ⟨_, rfl, hR _ _ ⟨fun e z => ?_, k10, st10, e9⟩⟩
          rw [z] at e; cases e
        · exact hR _ _ ⟨fun e => (by cases e), K9, st9, eD9⟩
      clear K9 st9 eD9 hb
      obtain ⟨hb, K9, st9, eD9⟩ := g
      cases b with
      | true =>
        rw [if_pos rfl]
        have ne := hb rfl
        have lys : 0 < ys.length := List.length_pos_iff.mpr ne
        have ekd9 := K9 _ _ ekd okd
        have eak9 := K9 _ _ eak oak
        walk_at "st"
        refine ⟨s, c, _, rfl, st9, .inl ⟨lak, _, rfl, eak9, oak, by rw [al.1, l3]; decide, by rw [al.1, l3]; decide, fun u H10 mu k10 st10 => ?_⟩⟩
        obtain ⟨a, ma, tu, rfl, etu⟩ := al.mem mu
        obtain ⟨n1, n2, n3⟩ := ha a ma
        have K10 := K9.trans k10
        have etu2 := KeepT.kp K10 st _ _ etu
        have eD10 := k10 _ _ eD9 oD
        walk_at "st"
        refine ⟨s, c, _, rfl, st10, .inl ⟨D, _, rfl, eD10, oD, lys, by omega, fun u H11 mu2 k11 st11 => ?_⟩⟩
        obtain ⟨i, rfl, hi⟩ := hy u mu2
        walk_at "st"
        intro t ht
        exact fin _ t _ _ _ (K10.trans k11) st11 ht (show Al (ArgV H11) [.str a.1, .str a.2.1, .int a.2.2, .int i] [.w a.1, .w a.2.1, .n a.2.2, .n i] from .cons rfl (.cons rfl (.cons rfl (.cons rfl .nil)))) (ok_ask ma n1 n2 n3 hi.1 hi.2)
      | false =>
        rw [if_neg (by decide)]
        walk_at "st"
        walk_at "if"
        refine r_iteB (fun w8 => ?_) (fun w8 => ?_)
        · walk_at "st"
          refine ⟨s, c, _, rfl, st9, by omega, fun d H10 k10 st10 hd => ?_⟩
          have K10 := K9.trans k10
          walk_at "st"
          refine r_iteB (fun w9 => ?_) (fun w9 => ?_)
          · walk_at "st"
            intro t ht
            exact fin _ t _ _ _ K10 st10 ht (show Al (ArgV H10) [] [] from .nil) (ok_next (by decide) (by decide) (good_mk "" (by decide) trivial))
          · walk_at "st"
            refine ⟨s, c, 1, rfl, st10, by omega, fun lw zs H11 k11 st11 hlw elw lzs nd nm => ?_⟩
            obtain ⟨y9, rfl⟩ : ∃ y, zs = [y] := by
              match zs, lzs with
              | [y], _ => exact ⟨y, rfl⟩
            have e0 : atI ([y9].map V.str) 0 = some (.str y9) := atI_nat (j := 0) rfl
            walk_at "st"
            intro t ht
            exact fin _ t _ _ _ (K10.trans k11) st11 ht (show Al (ArgV H11) [.str y9] [.w y9] from .cons rfl .nil) (ok_next (by decide) (by decide) (good_mk "d" (by decide) ⟨.d (nm y9 List.mem_cons_self), trivial⟩))
        walk_at "st"
        intro t ht
        exact fin _ t _ _ _ K9 st9 ht u1 (ok_next (by decide) (by decide) (good_mk "u" (by decide) ⟨.u mz, trivial⟩))
end
local macro_rules | `(tactic| walk_at "ssz") => `(tactic| first | decide | exact str_small (by assumption) | (have : (1000000 : Nat) ≤ sizeLine := (by decide); omega))
local macro_rules | `(tactic| walk_at "st1") => `(tactic| first
  | with_reducible refine' r_nt ?_ | with_reducible refine' r_nf ?_
  | ((with_reducible refine r_lenS ?e1 ?_); (case e1 => walk_at "ssz"))
  | with_reducible refine r_inS ?_
  | with_reducible refine r_ninS ?_
  | ((with_reducible refine r_addS ?e1 ?_); (case e1 => walk_at "ssz"))
  | ((with_reducible refine' r_ixS ?e1 ?e2 ?_); (case e1 => walk_at "ssz"); (case e2 => first | assumption | rfl))
  | with_reducible refine r_istr ?_
  | with_reducible refine r_is ?_
  | with_reducible refine r_un ?_
  | with_reducible refine r_u ?_)
local macro_rules | `(tactic| walk_at "st1") => `(tactic| first
  | with_reducible refine r_tru ?_
  | ((with_reducible refine' r_truT ?e1 ?_); (case e1 => walk_at "sq"))
  | with_reducible refine r_isN ?_
  | with_reducible refine r_tyS ?_
  | with_reducible refine r_m1 ?_
  | with_reducible refine r_sx ?_
  | ((with_reducible refine r_strC ?e1 ?_); (case e1 => omega)))
local macro_rules | `(tactic| walk_at "st1") => `(tactic| first
  | with_reducible refine r_par ?_
  | with_reducible refine r_parx ?_
  | ((with_reducible refine' r_gtup ?e1 ?e2 ?_); (case e1 => walk_at "sq"); (case e2 => rfl))
  | with_reducible refine r_gcons ?_
  | with_reducible refine r_gnil ?_
  | with_reducible refine r_ient ?_
  | ((with_reducible refine' r_ent ?e1 ?_); (case e1 => walk_at "sq")))
local macro_rules | `(tactic| walk_at "st1") => `(tactic| first
  | with_reducible refine' r_nt ?_
  | with_reducible refine' r_nf ?_
  | with_reducible refine r_un ?_
  | with_reducible refine r_u ?_)
/-! ### parts, drawn -/
theorem r_tp1 {σ : L2.St} {H : Hp} {tk tv : TE} {r : List (TE × TE)} {R : List (V × V) → Hp → Prop} (h : tk σ H fun x H1 => tv σ H1 fun y H2 => tPairs r σ H2 fun ps H3 => R ((x, y) :: ps) H3) : tPairs ((tk, tv) :: r) σ H R := h
theorem r_tp0 {σ : L2.St} {H : Hp} {R : List (V × V) → Hp → Prop} (h : R [] H) : tPairs [] σ H R := h
local macro_rules | `(tactic| walk_at "st1") => `(tactic| first
  | with_reducible refine r_tp1 ?_
  | with_reducible refine r_tp0 ?_)
theorem merge3 (x y z : V) : mergeK [] [((Sum.inr "p" : Key), x), (Sum.inr "spots", y), (Sum.inr "asked", z)] = [((Sum.inr "p" : Key), x), (Sum.inr "spots", y), (Sum.inr "asked", z)] := by
  have h1 : ¬ (Sum.inr (Str.ofString "p") : Key) = Sum.inr (Str.ofString "spots") := by decide
  have h2 : ¬ (Sum.inr (Str.ofString "p") : Key) = Sum.inr (Str.ofString "asked") := by decide
  have h3 : ¬ (Sum.inr (Str.ofString "spots") : Key) = Sum.inr (Str.ofString "asked") := by decide
  unfold mergeK
  simp [putK, h1, h2, h3]
theorem DeedV.tup {H H' : Hp} {v : V} {d : Deed} (h : DeedV H v d) (k : KeepT H H') : DeedV H' v d := by
  obtain ⟨t, c, e, ht, t2, us2, e2, h2, al2⟩ := h
  exact ⟨t, c, e, k _ _ ht, t2, us2, e2, k _ _ h2, al2.imp fun u a h => h.tup k⟩
def PartsV (H : Hp) (v : V) (hid : Nat) (ds : List Deed) (p : Int) : Prop := ∃ (t : Addr) (dv : V), v = .ref t ∧ H t = some (.tup [.int (hid : Nat), dv, .int p]) ∧ DeedsV H dv ds
def Fwd (code : List Ins) : Prop := ∀ k x, code[k]? = some x → ∀ j ∈ idleG x k code.length, k < j
theorem Fwd.acyc {code : List Ins} (h : Fwd code) : Acyc (goalsG code) := ⟨id, fun i g j e m => by
  have li := (List.getElem?_eq_some_iff.mp e).1
  unfold goalsG at li
  rw [List.length_map, List.length_range] at li
  have ex : code[i]? = some code[i] := List.getElem?_eq_getElem li
  rw [goals_at ex] at e
  rw [← Option.some.inj e] at m
  exact h i _ ex j m⟩
theorem PartsV.tup {H H' : Hp} {v : V} {hid : Nat} {ds : List Deed} {p : Int} (h : PartsV H v hid ds p) (k : KeepT H H') : PartsV H' v hid ds p := by
  obtain ⟨t, dv, e, ht, hd⟩ := h
  exact ⟨t, dv, e, k _ _ ht, hd.tup k⟩
theorem asks_ok {as xs : List Ask} (nd : (as.map (·.1)).Nodup) (h : ∀ x ∈ xs, x ∈ as) : AsksOk xs := by
  intro x mx y my e
  have inj : ∀ {as : List Ask}, (as.map (·.1)).Nodup → ∀ x ∈ as, ∀ y ∈ as, x.1 = y.1 → x = y := by
    intro as nd
    induction as with
    | nil => intro x m; cases m
    | cons a as ih =>
      rw [List.map_cons] at nd
      have nd2 := List.nodup_cons.mp nd
      intro x mx y my e
      rcases List.mem_cons.mp mx with e1 | mx1
      · rcases List.mem_cons.mp my with e2 | my1
        · rw [e1, e2]
        · exact absurd (List.mem_map.mpr ⟨y, my1, by rw [← e, e1]⟩) nd2.1
      · rcases List.mem_cons.mp my with e2 | my1
        · exact absurd (List.mem_map.mpr ⟨x, mx1, by rw [e, e2]⟩) nd2.1
        · exact ih nd2.2 x mx1 y my1 e
  exact inj nd x (h x mx) y (h y my) e
def lawPrimes : List Int := [97, 2, 3, 5, 7, 997]
theorem primes_ok : ∀ p ∈ lawPrimes, PrimeI p := by
  intro p m
  have := List.all_eq_true.mp (show lawPrimes.all (fun p => (decide (2 ≤ p) && decide (p ≤ 997)) && smallDiv p.toNat) = true by decide +kernel) p m
  rw [Bool.and_eq_true, Bool.and_eq_true] at this
  exact ⟨of_decide_eq_true this.1.1, of_decide_eq_true this.1.2, this.2⟩
def sp_law_parts (_ : PySem.W.Frag) : Sp := fun vs H Q _ => ∃ (s c : Addr) (L : Int), vs = [.ref s, .int L] ∧ St s c H ∧ (0 ≤ L ∧ L ≤ 400) ∧
  ∀ v hid ds p H', Kp [s, c] H H' → St s c H' → PartsV H' v hid ds p → GoodU hid ds p → (∀ d ∈ ds, Fwd d.2.2 ∧ (d.2.2.length : Int) ≤ L) → Q v H'
section
variable {P : Program} {w : World} {K : PySem.W.Frag} {mg : Str → Option Value} {base : Heap}
theorem ok_law_parts {c_Coded : Addr} {c_Machine : Addr} {c_CodeReader : Addr} {c_REGISTERS : Addr} {c_CELLS : Addr} {c_SHAPES : Addr} (T : Tx K mg c_Coded c_Machine c_CodeReader c_REGISTERS c_CELLS c_SHAPES w) {f_law_words : Addr} {fd_law_words : FuncData} (C_law_words : Cal P w K mg base "_law_words" 3 ["state", "many"] (sp_law_words K) s_law_words f_law_words fd_law_words) {f_law_pick : Addr} {fd_law_pick : FuncData} (C_law_pick : Cal P w K mg base "_law_pick" 2 ["state", "some"] (sp_law_pick K) s_law_pick f_law_pick fd_law_pick) {f_law_draw : Addr} {fd_law_draw : FuncData} (C_law_draw : Cal P w K mg base "_law_draw" 1 ["state", "many"] (sp_law_draw K) s_law_draw f_law_draw fd_law_draw) {f_law_spots : Addr} {fd_law_spots : FuncData} (C_law_spots : Cal P w K mg base "_law_spots" 1 ["cells"] (sp_law_spots K) s_law_spots f_law_spots fd_law_spots) {f_law_instruction : Addr} {fd_law_instruction : FuncData} (C_law_instruction : Cal P w K mg base "_law_instruction" 4 ["state", "kit", "at", "size"] (sp_law_instruction K) s_law_instruction f_law_instruction fd_law_instruction) {f : Addr} {fd : FuncData} (F : Here K mg "_law_parts" s_law_parts ["state", "longest"] f fd) : Cal P w K mg base "_law_parts" 5 ["state", "longest"] (sp_law_parts K) s_law_parts f fd := by
  refine F.cal sc_law_parts (fun vs H Q E h => ?_) (fun cdv A outer s H vs Q E hr h => ?_)
  · obtain ⟨s, c, L, rfl, _⟩ := h
    rfl
  · obtain ⟨s, c, L, rfl, st, hL, q⟩ := h
    refine ⟨_, (pss_cons (ps_par (i := 2) (j := 3) rfl sc_law_parts.nd rfl rfl (by decide) rfl rfl (pa_cons (pe_call C_law_pick.ok (hr.mono (by decide)) (by rfl) C_law_pick.at_ C_law_pick.kp C_law_pick.b .nil pass0 (pa_cons (pv 0) (pa_cons (pe_lst (pa_cons pe_int (pa_cons pe_int (pa_cons pe_int (pa_cons pe_int (pa_cons pe_int (pa_cons pe_int pa_nil))))))) pa_nil))) (pa_cons (pe_call C_law_draw.ok (hr.mono (by decide)) (by rfl) C_law_draw.at_ C_law_draw.kp C_law_draw.b .nil pass0 (pa_cons (pv 0) (pa_cons pe_int pa_nil))) pa_nil)) (by rfl))
      (pss_cons (ps_set (i := 4) sc_law_parts.nd rfl (by first | exact .inl rfl | exact .inr rfl) (pe_call C_law_words.ok (hr.mono (by decide)) (by rfl) C_law_words.at_ C_law_words.kp C_law_words.b .nil pass0 (pa_cons (pv 0) (pa_cons pe_int pa_nil))))
      (pss_cons (ps_setLc (i := 5) rfl sc_law_parts.nd rfl rfl (sw_true rfl rfl rfl (by decide +kernel)) (pi_range1 (by rfl) T.m_range (pa_cons pe_int pa_nil)) (blkOk_by (own := [("k", 6)]) (N := ["state", "longest", "p", "cells", "words", "asked", "k", "kit", "pages", "name", "size", "code", "at"]) (sc := (defScope s_law_parts)) (by decide +kernel)) (fun _ _ _ _ _ => (pg_name (i := 6) sc_law_parts.nd rfl (by first | exact .inl rfl | exact .inr rfl))) (fun _ _ _ _ _ => pts_nil) (fun _ _ _ _ _ => (pe_tup (pa_cons (pe_ix (ix_listK (K := K)) (pv 4) (pv 6) (fun _ _ => rfl)) (pa_cons (pe_ix (ix_listK (K := K)) (pv 4) (pe_op op_mod (pe_op op_add (pv 6) pe_int) pe_int) (fun _ _ => rfl)) (pa_cons (pe_call C_law_draw.ok (hr.mono (by decide)) (by rfl) C_law_draw.at_ C_law_draw.kp C_law_draw.b .nil pass0 (pa_cons (pv 0) (pa_cons pe_int pa_nil))) pa_nil))))))
      (pss_cons (ps_set (i := 7) sc_law_parts.nd rfl (by first | exact .inl rfl | exact .inr rfl) (pe_disp (pps_cons pe_str (pv 2) (pps_cons pe_str (pe_call C_law_spots.ok (hr.mono (by decide)) (by rfl) C_law_spots.at_ C_law_spots.kp C_law_spots.b .nil pass0 (pa_cons (pv 3) pa_nil)) (pps_cons pe_str (pv 5) pps_nil))) (by rfl) (by rfl) (fun z => by cases z) (by decide)))
      (pss_cons (ps_set (i := 8) sc_law_parts.nd rfl (by first | exact .inl rfl | exact .inr rfl) (pe_lst pa_nil))
      (pss_cons (ps_for PassesOwn.never rfl (pi_listK (K := K) (pe_call C_law_words.ok (hr.mono (by decide)) (by rfl) C_law_words.at_ C_law_words.kp C_law_words.b .nil pass0 (pa_cons (pv 0) (pa_cons (pe_op op_add pe_int (pe_call C_law_draw.ok (hr.mono (by decide)) (by rfl) C_law_draw.at_ C_law_draw.kp C_law_draw.b .nil pass0 (pa_cons (pv 0) (pa_cons pe_int pa_nil)))) pa_nil)))) (pg_name (i := 9) sc_law_parts.nd rfl (by first | exact .inl rfl | exact .inr rfl)) (pss_cons (ps_set (i := 10) sc_law_parts.nd rfl (by first | exact .inl rfl | exact .inr rfl) (pe_call C_law_draw.ok (hr.mono (by decide)) (by rfl) C_law_draw.at_ C_law_draw.kp C_law_draw.b .nil pass0 (pa_cons (pv 0) (pa_cons (pe_op op_add (pv 1) pe_int) pa_nil))))
      (pss_cons (ps_set (i := 11) sc_law_parts.nd rfl (by first | exact .inl rfl | exact .inr rfl) (pe_callTy (cr_tupOfK (K := K)) (by rfl) T.m_tuple (by decide +kernel) (pa_cons (pe_lc rfl sc_law_parts.nd (pi_range1 (by rfl) T.m_range (pa_cons (pv 10) pa_nil)) (blkOk_by (own := [("at", 12)]) (N := ["state", "longest", "p", "cells", "words", "asked", "k", "kit", "pages", "name", "size", "code", "at"]) (sc := (defScope s_law_parts)) (by decide +kernel)) (fun _ _ _ _ _ => (pg_name (i := 12) sc_law_parts.nd rfl (by first | exact .inl rfl | exact .inr rfl))) (fun _ _ _ _ _ => pts_nil) (fun _ _ _ _ _ => (pe_call C_law_instruction.ok (hr.mono (by decide)) (by rfl) C_law_instruction.at_ C_law_instruction.kp C_law_instruction.b .nil pass0 (pa_cons (pv 0) (pa_cons (pv 7) (pa_cons (pv 12) (pa_cons (pv 10) pa_nil))))))) pa_nil)))
      (pss_one (ps_expr (castBM (K := K) (pe_bm PySem.F.plainAttrs_list PySem.F.slot_list_append PySem.F.type_list_append mt_append (pv 8) (pa_cons (pe_tup (pa_cons (pv 9) (pa_cons (pe_call C_law_draw.ok (hr.mono (by decide)) (by rfl) C_law_draw.at_ C_law_draw.kp C_law_draw.b .nil pass0 (pa_cons (pv 0) (pa_cons pe_int pa_nil))) (pa_cons (pv 11) pa_nil)))) pa_nil))))))))
      (pss_one (ps_ret (pe_tup (pa_cons (pv 3) (pa_cons (pe_callTy (cr_tupOfK (K := K)) (by rfl) T.m_tuple (by decide +kernel) (pa_cons (pv 8) pa_nil)) (pa_cons (pv 2) pa_nil)))))))))))), ?_⟩
    walk_at "st"
    intro l1 hl1
    have ol1 := st.out hl1
    have st1 := st.new (x := .lst (lawPrimes.map V.int)) hl1
    have k1 : Kp [s, c] H (upd H l1 (.lst (lawPrimes.map V.int))) := Kp.new hl1
    have e1 : upd H l1 (.lst (lawPrimes.map V.int)) l1 = some (.lst (lawPrimes.map V.int)) := upd_same
    rw [show [V.int 97, V.int 2, V.int 3, V.int 5, V.int 7, V.int 997] = lawPrimes.map V.int from rfl]
    generalize upd H l1 (.lst (lawPrimes.map V.int)) = H1 at *
    walk_at "st"
    refine ⟨s, c, _, rfl, st1, .inl ⟨l1, _, rfl, e1, ol1, by decide, by decide, fun u H2 mu k2 st2 => ?_⟩⟩
    obtain ⟨p, mp, rfl⟩ := List.mem_map.mp mu
    have hp := primes_ok p mp
    have K2 := k1.trans k2
    clear e1 k1 k2 st1 mu
    walk_at "st"
    refine ⟨s, c, _, rfl, st2, by omega, fun d H3 k3 st3 hd => ?_⟩
    have K3 := K2.trans k3
    clear K2 k3 st2
    obtain ⟨hid, rfl⟩ := Int.eq_ofNat_of_zero_le hd.1
    have lh : hid ≤ 3 := by omega
    walk_at "st"
    refine ⟨s, c, _, rfl, st3, by omega, fun lw zs H4 k4 st4 hlw elw lzs nd nm => ?_⟩
    have K4 := K3.trans k4
    have olw := st3.out hlw
    clear K3 k4 st3 hlw
    walk_at "st"
    intro D hD
    have oD := st4.out hD
    refine lc_by (walk_range (lo := 0) (n := 3)) (fun j H' => Kp [s, c] H4 H' ∧ St s c H' ∧ ∃ (us : List V) (as : List Ask), H' D = some (.lst us) ∧ Al (AsV H') us as ∧ us.length = j ∧ as.map (·.1) = zs.take j ∧ ∀ a ∈ as, NameS a.1 ∧ NameS a.2.1 ∧ 0 ≤ a.2.2 ∧ a.2.2 < 4)
      ⟨Kp.new hD, st4.new hD, [], [], upd_same, .nil, rfl, rfl, fun a m => by cases m⟩ (fun _ _ _ _ => trivial) (fun j x' H5 H5' hj g y => ?_) (fun H5 g => ?_)
    · obtain ⟨k5, st5, us, as, eD, al, lus, lm, ha⟩ := g
      obtain ⟨rfl, rfl⟩ := y
      refine ⟨rfl, ?_⟩
      have elw5 := k5 _ _ elw olw
      have ej : zs[j]? = some (zs[j]'(by omega)) := List.getElem?_eq_getElem _
      have ej2 : zs[j + 1]? = some (zs[j + 1]'(by omega)) := List.getElem?_eq_getElem _
      have nj := nm _ (List.mem_of_getElem? ej)
      have nj2 := nm _ (List.mem_of_getElem? ej2)
      generalize zs[j]'_ = z1 at *
      generalize zs[j + 1]'_ = z2 at *
      have a1 : atI (zs.map V.str) (0 + (j : Int)) = some (.str z1) := by
        rw [Int.zero_add]; exact atI_nat (by rw [List.getElem?_map, ej]; rfl)
      have a2 : atI (zs.map V.str) ((0 + (j : Int) + 1) % 5) = some (.str z2) := by
        rw [show (0 + (j : Int) + 1) % 5 = ((j + 1 : Nat) : Int) by omega]; exact atI_nat (by rw [List.getElem?_map, ej2]; rfl)
      walk_at "st"
      refine ⟨s, c, _, rfl, st5, by omega, fun d H6 k6 st6 hd => ?_⟩
      have eD6 := k6 _ _ eD oD
      walk_at "st"
      intro t ht
      have tk := (KeepT.kp k6 st5).trans (keepT_of (Same.upd_new (x := .tup [.str z1, .str z2, .int d]) ht))
      have eD7 := hl_new (u := .tup [.str z1, .str z2, .int d]) eD6 ht
      have k7 := (k5.trans k6).trans (Kp.new (S := [s, c]) (x := .tup [.str z1, .str z2, .int d]) ht)
      have st7 := st6.new (x := .tup [.str z1, .str z2, .int d]) ht
      have et : upd H6 t (.tup [.str z1, .str z2, .int d]) t = some (.tup [.str z1, .str z2, .int d]) := upd_same
      generalize upd H6 t (.tup [.str z1, .str z2, .int d]) = H7 at *
      have tk2 := KeepT.lst (o := .lst (us ++ [.ref t])) eD7
      refine ⟨us, eD7, ?_, k7.own hD, st7.set oD, us ++ [.ref t], as ++ [(z1, z2, d)], upd_same, ?_, by rw [List.length_append, lus]; rfl, ?_, fun x mx => ?_⟩
      · rw [lus]
        exact Nat.lt_of_lt_of_le (show j < 1000 by omega) (by decide)
      · exact (al.imp fun u x h => h.tup (tk.trans tk2)).snoc ⟨t, rfl, tk2 _ _ et⟩
      · rw [List.map_append, lm, List.take_succ, ej]; rfl
      · rcases List.mem_append.mp mx with mx | mx
        · exact ha x mx
        · rw [List.mem_singleton.mp mx]; exact ⟨nj, nj2, hd⟩
    obtain ⟨k5, st5, ua, as, eD, al, lus, lm, ha⟩ := g
    have la : as.length = 3 := by rw [← al.1]; exact lus
    have nda : (as.map (·.1)).Nodup := by rw [lm]; exact nd.sublist (List.take_sublist _ _)
    have K5 := K4.trans k5
    clear K4 k5 st4 hD elw olw lm lus
    walk_at "st"
    intro dk hdk
    have odk := st5.out hdk
    have st6 := st5.new (x := .dK []) hdk
    have K6 := K5.trans (Kp.new (S := [s, c]) (x := .dK []) hdk)
    have eD6 := hl_new (u := .dK []) eD hdk
    have edk : upd H5 dk (.dK []) dk = some (.dK []) := upd_same
    have al6 := al.imp fun u x h => h.tup (keepT_of (Same.upd_new (x := .dK []) hdk))
    generalize upd H5 dk (.dK []) = H6 at *
    clear al eD
    walk_at "st"
    refine ⟨hid, rfl, lh, fun lsp H7 s7 hlsp elsp => ?_⟩
    have olsp := st6.out hlsp
    have st7 := st6.same s7
    have K7 := K6.trans (Kp.ofSame s7)
    have eD7 := s7 _ _ eD6
    have edk7 := s7 _ _ edk
    have al7 := al6.imp fun u x h => h.tup (keepT_of s7)
    clear st6 K6 al6 eD6 edk s7 hlsp
    walk_at "st"
    refine ⟨edk7, [(Sum.inr "p", .int p), (Sum.inr "spots", .ref lsp), (Sum.inr "asked", .ref D)], rfl, (by decide : 3 ≤ 15), ?_⟩
    rw [merge3]
    generalize hkv : [((Sum.inr "p" : Key), V.int p), (Sum.inr "spots", .ref lsp), (Sum.inr "asked", .ref D)] = KV at *
    have hdkH : H dk = none := K5.free hdk odk
    have K8 := K7.own (x := .dK KV) hdkH
    have st8 := st7.set (x := .dK KV) odk
    have eD8 : upd H7 dk (.dK KV) D = some (.lst ua) := hl_set (fun e => by rw [e, edk7] at eD7; cases eD7) eD7
    have esp8 : upd H7 dk (.dK KV) lsp = some (.lst ((knownL hid).map V.str)) := hl_set (fun e => by rw [e, edk7] at elsp; cases elsp) elsp
    have edk8 : upd H7 dk (.dK KV) dk = some (.dK KV) := upd_same
    have al8 : Al (AsV (upd H7 dk (.dK KV))) ua as := al7.imp fun u x h => h.tup fun b xs e => hl_set (fun z => by rw [z, edk7] at e; cases e) e
    generalize upd H7 dk (.dK KV) = H8 at *
    have kit : KitV s c H8 dk hid p as := ⟨lsp, D, ua, by rw [hkv]; exact edk8, esp8, olsp, eD8, oD, al8⟩
    clear al8 al7 edk8 esp8 eD8 st7 K7 eD7 edk7 elsp hkv hdk K5 st5
    walk_at "st"
    intro lp hlp
    have olp := st8.out hlp
    have hlpH : H lp = none := K8.free hlp olp
    have st9 := st8.new (x := .lst []) hlp
    have K9 := K8.trans (Kp.new (S := [s, c]) (x := .lst []) hlp)
    have kit9 : Kp [s, c] H8 (upd H8 lp (.lst [])) := Kp.new hlp
    have elp : upd H8 lp (.lst []) lp = some (.lst []) := upd_same
    generalize upd H8 lp (.lst []) = H9 at *
    walk_at "st"
    refine ⟨s, c, _, rfl, st9, by omega, fun d H10 k10 st10 hd2 => ?_⟩
    walk_at "st"
    refine ⟨s, c, _, rfl, st10, by omega, fun ln ns H11 k11 st11 hln eln lns ndn nmn => ?_⟩
    have K11 := (K9.trans k10).trans k11
    have kit11 := kit9.trans (k10.trans k11)
    have elp11 := k11 _ _ (k10 _ _ elp olp) olp
    have oln := st10.out hln
    have nln : ln ≠ lp := fun e => by rw [e] at hln; rw [k10 _ _ elp olp] at hln; cases hln
    clear k10 k11 K9 kit9 st9 st10 elp hln
    walk_at "st"
    refine lp_by (walk_list (a := ln) (xs := ns.map V.str)) (fun j σ' H' => ∃ x9 x10 x11, σ' = [some (.ref s), some (.int L), some (.int p), some (.int (hid : Nat)), some (.ref lw), some (.ref D), none, some (.ref dk), some (.ref lp), x9, x10, x11, none] ∧ Kp [s, c] H H' ∧ St s c H' ∧ Kp [s, c] H8 H' ∧ H' ln = some (.lst (ns.map V.str)) ∧
      ∃ (us : List V) (ds : List Deed), H' lp = some (.lst us) ∧ Al (DeedV H') us ds ∧ us.length = j ∧ ds.map (·.1) = ns.take j ∧ (∀ d ∈ ds, GoodD hid p d ∧ Fwd d.2.2 ∧ (d.2.2.length : Int) ≤ L) ∧ ∀ a ∈ asksL ds, a ∈ as)
      ⟨none, none, none, rfl, K11, st11, kit11, eln, [], [], elp11, .nil, rfl, rfl, (fun d m => nomatch m), (fun a m => nomatch m)⟩ (fun _ _ _ _ g => by obtain ⟨_, _, _, _, _, _, _, e, _⟩ := g; exact SqL.of e) (fun j x σ' H12 H12' hj g y => ?_) (fun σ' H12 g => ?_)
    · obtain ⟨x9, x10, x11, rfl, K12, st12, kit12, eln12, us, ds, elp12, ald, lus, lmd, gd, ha2⟩ := g
      obtain ⟨rfl, ex⟩ := y
      obtain ⟨nm1, en, rfl⟩ := getElem?_map_str ex
      walk_at "st"
      refine ⟨s, c, _, rfl, st12, by omega, fun sz H13 k13 st13 hsz => ?_⟩
      obtain ⟨n, rfl⟩ := Int.eq_ofNat_of_zero_le hsz.1
      have hn : n ≤ 400 := by omega
      have K13 := K12.trans k13
      have kit13 := kit12.trans k13
      have eln13 := k13 _ _ eln12 oln
      have elp13 := k13 _ _ elp12 olp
      have ald13 := ald.imp fun u x h => h.tup (KeepT.kp k13 st12)
      clear k13 st12 K12 kit12 eln12 elp12 ald
      walk_at "st"
      intro D2 hD2
      have oD2 := st13.out hD2
      refine lc_by (walk_range (lo := 0) (n := n)) (fun i H' => Kp [s, c] H13 H' ∧ St s c H' ∧ Kp [s, c] H8 H' ∧ ∃ (vs : List V) (xs : List Ins), H' D2 = some (.lst vs) ∧ Al (InsV H') vs xs ∧ vs.length = i ∧ ∀ (k : Nat) (x : Ins), xs[k]? = some x → InsOk hid p k n as x)
        ⟨Kp.new hD2, st13.new hD2, kit13.trans (Kp.new (S := [s, c]) hD2), [], [], upd_same, .nil, rfl, (fun k x e => nomatch e)⟩ (fun _ _ _ _ => trivial) (fun i x' H14 H14' hi g y => ?_) (fun H14 g => ?_)
      · obtain ⟨k14, st14, kit14, vs, xs, eD2, alx, lvs, ok⟩ := g
        obtain ⟨rfl, rfl⟩ := y
        show LcT _ _ _ _ _ (V.int (0 + (i : Int))) _ _ _
        rw [Int.zero_add]
        refine ⟨rfl, ?_⟩
        walk_at "st"
        refine ⟨s, c, dk, hid, p, as, i, n, rfl, st14, kit.to kit14 st8, ⟨hp.1, hp.2.1⟩, la, ha, hi, hn, fun v x H15 k15 st15 iv iok => ?_⟩
        have eD5 := k15 _ _ eD2 oD2
        have k16 := (k14.trans k15).own (x := .lst (vs ++ [v])) hD2
        have tk2 := KeepT.lst (o := .lst (vs ++ [v])) eD5
        refine ⟨vs, eD5, by rw [lvs]; exact Nat.lt_of_lt_of_le (show i < 1000 by omega) (by decide), k16, st15.set oD2, ?_, vs ++ [v], xs ++ [x], upd_same, ?_, by rw [List.length_append, lvs]; rfl, fun k x9 e9 => ?_⟩
        · exact kit13.trans k16
        · exact (alx.imp fun u x h => h.tup ((KeepT.kp k15 st14).trans tk2)).snoc (iv.tup tk2)
        · have lxs : xs.length = i := by rw [← alx.1]; exact lvs
          by_cases ck : k < xs.length
          · rw [List.getElem?_append_left ck] at e9
            exact ok k x9 e9
          · rw [List.getElem?_append_right (by omega)] at e9
            have : k - xs.length = 0 := by
              cases h : k - xs.length with
              | zero => rfl
              | succ m => rw [h] at e9; simp at e9
            rw [this] at e9
            rw [← Option.some.inj (show some x = some x9 from e9), show k = i by omega]
            exact iok
      obtain ⟨k14, st14, kit14, vs, xs, eD2, alx, lvs, ok⟩ := g
      have lxs : xs.length = n := by rw [← alx.1]; exact lvs
      have K14 := K13.trans k14
      have eln14 := k14 _ _ eln13 oln
      have elp14 := k14 _ _ elp13 olp
      have ald14 := ald13.imp fun u x h => h.tup (KeepT.kp k14 st13)
      clear k14 st13 K13 kit13 eln13 elp13 ald13 hD2
      walk_at "st"
      intro tc htc
      have st15 := st14.new (x := .tup vs) htc
      have K15 := K14.trans (Kp.new (S := [s, c]) (x := .tup vs) htc)
      have kit15 := kit14.trans (Kp.new (S := [s, c]) (x := .tup vs) htc)
      have eln15 := hl_new (u := .tup vs) eln14 htc
      have elp15 := hl_new (u := .tup vs) elp14 htc
      have ald15 := ald14.imp fun u x h => h.tup (keepT_of (Same.upd_new (x := .tup vs) htc))
      have cv : CodeV (upd H14 tc (.tup vs)) (.ref tc) xs := ⟨tc, vs, rfl, upd_same, alx.imp fun u x h => h.tup (keepT_of (Same.upd_new (x := .tup vs) htc))⟩
      generalize upd H14 tc (.tup vs) = H15 at *
      clear st14 K14 kit14 eln14 elp14 ald14 htc alx eD2
      walk_at "st"
      refine ⟨s, c, _, rfl, st15, by omega, fun mn H16 k16 st16 hmn => ?_⟩
      have K16 := K15.trans k16
      have kit16 := kit15.trans k16
      have eln16 := k16 _ _ eln15 oln
      have elp16 := k16 _ _ elp15 olp
      have ald16 := ald15.imp fun u x h => h.tup (KeepT.kp k16 st15)
      have cv16 : CodeV H16 (.ref tc) xs := by
        obtain ⟨t2, us2, e2, h2, al2⟩ := cv
        exact ⟨t2, us2, e2, KeepT.kp k16 st15 _ _ h2, al2.imp fun u a h => h.tup (KeepT.kp k16 st15)⟩
      clear k16 st15 K15 kit15 eln15 elp15 ald15 cv
      walk_at "st"
      intro t ht
      have nlt : lp ≠ t := ne_of_none elp16 ht
      have kp17 : Kp [s, c] H16 (upd H16 t (.tup [.str nm1, .int mn, .ref tc])) := Kp.new ht
      have K17 := K16.trans kp17
      have st17 := st16.new (x := .tup [.str nm1, .int mn, .ref tc]) ht
      have kit17 := kit16.trans kp17
      have eln17 := hl_new (u := .tup [.str nm1, .int mn, .ref tc]) eln16 ht
      have elp17 := hl_new (u := .tup [.str nm1, .int mn, .ref tc]) elp16 ht
      have tk17 := keepT_of (Same.upd_new (x := .tup [.str nm1, .int mn, .ref tc]) ht)
      have ald17 := ald16.imp fun u x h => h.tup tk17
      have dv : DeedV (upd H16 t (.tup [.str nm1, .int mn, .ref tc])) (.ref t) (nm1, mn, xs) := by
        obtain ⟨t2, us2, e2, h2, al2⟩ := cv16
        exact ⟨t, .ref tc, rfl, upd_same, t2, us2, e2, tk17 _ _ h2, al2.imp fun u a h => h.tup tk17⟩
      generalize upd H16 t (.tup [.str nm1, .int mn, .ref tc]) = H17 at *
      clear kp17 st16 K16 kit16 eln16 elp16 ald16 cv16 tk17
      walk_at "st"
      have lj : j < ns.length := (List.getElem?_eq_some_iff.mp en).1
      refine r_app0 elp17 (by rw [lus]; exact Nat.lt_of_lt_of_le (show j < 1000 by omega) (by decide)) ?_
      have tk2 := KeepT.lst (o := .lst (us ++ [.ref t])) elp17
      have kp2 : Kp [s, c] H (upd H17 lp (.lst (us ++ [.ref t]))) := K17.own hlpH
      have fw : Fwd xs := fun k x e => by rw [lxs]; exact (ok k x e).fwd
      refine ⟨_, _, _, rfl, kp2, st17.set olp, ?_, hl_set nln eln17, us ++ [.ref t], ds ++ [(nm1, mn, xs)], upd_same, ?_, by rw [List.length_append, lus]; rfl, ?_, fun d m => ?_, fun a m => ?_⟩
      · exact kit17.own hlp
      · exact (ald17.imp fun u x h => h.tup tk2).snoc (dv.tup tk2)
      · rw [List.map_append, lmd, List.take_succ, en]; rfl
      · rcases List.mem_append.mp m with m | m
        · exact gd d m
        · rw [List.mem_singleton.mp m]
          refine ⟨⟨nmn nm1 (List.mem_of_getElem? en), hmn, by show xs.length ≤ 400; omega, fun x mx => ?_, fw.acyc⟩, fw, by show ((xs.length : Nat) : Int) ≤ L; omega⟩
          obtain ⟨k, ek⟩ := List.getElem?_of_mem mx
          have := (ok k x ek).good
          show GoodI hid (xs.length : Nat) p x
          rw [lxs]; exact this
      · unfold asksL at m
        rw [List.flatMap_append] at m
        rcases List.mem_append.mp m with m | m
        · exact ha2 a m
        · rw [List.flatMap_cons, List.flatMap_nil, List.append_nil] at m
          obtain ⟨x, mx, ex⟩ := List.mem_filterMap.mp m
          obtain ⟨k, ek⟩ := List.getElem?_of_mem mx
          exact (ok k x ek).asks a ex
    · obtain ⟨x9, x10, x11, rfl, K12, st12, kit12, eln12, us, ds, elp12, ald, lus, lmd, gd, ha2⟩ := g
      rw [List.length_map] at lus lmd
      rw [List.take_length] at lmd
      walk_at "st"
      intro t ht
      have al13 := ald.imp fun u x h => h.tup (keepT_of (Same.upd_new (x := .tup us) ht))
      have st13 := st12.new (x := .tup us) ht
      have K13 := K12.trans (Kp.new (S := [s, c]) (x := .tup us) ht)
      have et : upd H12 t (.tup us) t = some (.tup us) := upd_same
      generalize upd H12 t (.tup us) = H13 at *
      walk_at "st"
      intro t2 ht2
      have tk := keepT_of (Same.upd_new (x := .tup [.int (hid : Nat), .ref t, .int p]) ht2)
      refine q (.ref t2) hid ds p _ (K13.trans (Kp.new ht2)) (st13.new ht2) ⟨t2, .ref t, rfl, upd_same, t, us, rfl, tk _ _ et, al13.imp fun u x h => h.tup tk⟩ ⟨lh, ?_, fun d m => (gd d m).1, by rw [lmd]; exact ndn, asks_ok nda ha2, ⟨as.map (·.1), by rw [List.length_map, la]; decide, fun x mx => List.mem_map.mpr ⟨x, ha2 x mx, rfl⟩⟩, hp⟩ (fun d m => (gd d m).2)
      have ld : ds.length = ns.length := by have := congrArg List.length lmd; rwa [List.length_map] at this
      omega
end
/-! ### zip of a list and a text -/
def ItzW (K : PySem.W.Frag) (a : Addr) (b : Str) : It :=
  ⟨fun i H => ∃ (xs : List V) (x : V) (c : Nat), SqL K H a xs ∧ xs[i]? = some x ∧ b.cps[i]? = some c,
    fun i H v H' => ∃ T x c, v = .ref T ∧ H T = none ∧ H' = upd H T (.tup [x, .str ⟨#[c]⟩]) ∧ (∀ xs, SqL K H a xs → xs[i]? = some x) ∧ b.cps[i]? = some c,
    fun i H => ∃ xs : List V, SqL K H a xs ∧ i = min xs.length b.cps.size⟩
theorem turn_zipW {P : Program} {w : World} {K : PySem.W.Frag} {elts : List Expr} {kk : Nat} {tpos : Pos} {a : Addr} {b : Str} {tk0 : Tok} {z TI TO i1 i2 : Addr} (D : ZipSep2 z TI TO i1 i2 [i1, a] [i2]) (n1 : a ≠ i1) :
    Turn P w K (.Tuple elts kk tpos) (ItzW K a b) [z, TI, TO, i1, i2] z (fun i h => IsZip h z TI TO .none ∧ IsTupOf2 h TI (.ref i1) (.ref i2) ∧ (∃ x y, IsTupOf2 h TO x y) ∧ h.IsListIter i1 a i ∧ h.IsStrIter i2 (strIterType b) b tk0 i) where
  mem := List.mem_cons_self
  obj := fun i h st c hc => by
    obtain ⟨q1, q2, ⟨x, y, q3⟩, ⟨o1, e1, _, d1⟩, ⟨o2, e2, _, d2⟩⟩ := st
    have e' : c = z ∨ c = TI ∨ c = TO ∨ c = i1 ∨ c = i2 := by simpa using hc
    rcases e' with q | q | q | q | q <;> rw [q]
    · exact ⟨_, q1, fun v u => nomatch u⟩
    · exact ⟨_, q2, fun v u => nomatch u⟩
    · exact ⟨_, q3, fun v u => nomatch u⟩
    · exact ⟨o1, e1, fun v u => by rw [d1] at u; cases u⟩
    · exact ⟨o2, e2, fun v u => by rw [d2] at u; cases u⟩
  keep := fun i h h' st k => by
    obtain ⟨q1, q2, ⟨x, y, q3⟩, h1, h2⟩ := st
    exact ⟨k z (by simp) _ q1, k TI (by simp) _ q2, ⟨x, y, k TO (by simp) _ q3⟩, h1.at fun o q => k i1 (by simp) o q, (by obtain ⟨o, ho, r⟩ := h2; exact ⟨o, k i2 (by simp) o ho, r⟩)⟩
  item := by
    intro X hP hw hK hc i pins s σ H E I hf st hg
    subst hP hw hK
    obtain ⟨q1, q2, q3, h1, h2⟩ := st
    obtain ⟨xs, x, c0, hqx, hx, hy⟩ := hg
    obtain ⟨its, rv, p, _⟩ := I.list hqx
    obtain ⟨u, hu, ru⟩ := rv.get hx
    have W := WalksT.zipD2 (A := X.A) D (Draws.list (prog := X.prog) (w := X.w) (A := X.A.in1) (I.ok.hd hc) i1 a n1 its.toArray) (Draws.text (prog := X.prog) (w := X.w) (A := X.A.in1) (I.ok.hd hc) i2 b tk0)
    have lt : i < min its.toArray.size b.cps.size := by
      obtain ⟨z1, _⟩ := List.getElem?_eq_some_iff.mp hu
      obtain ⟨z2, _⟩ := Array.getElem?_eq_some_iff.mp hy
      simp only [List.size_toArray]
      omega
    refine W.item i s _ _ lt ⟨q1, q2, q3, ⟨h1, p.isList⟩, h2⟩ fun T vals h' tk hP hT0 hT hM hk => ⟨_, rfl, W.go _ _ _ i T { s with heap := h', toks := tk } _ _ hM fun h2' st2 hk2 => ?_⟩
    obtain ⟨x', y', e1, e2, rfl⟩ := hP
    obtain rfl : x' = u := by
      have e1 : its.toArray[i]? = some x' := e1
      rw [List.getElem?_toArray, hu] at e1
      exact (Option.some.inj e1).symm
    obtain ⟨c1, u1, e2, rfl⟩ := e2
    obtain rfl : c0 = c1 := Option.some.inj (hy.symm.trans e2)
    have hT2 : h2'.IsTuple T #[x', .str ⟨#[c0]⟩ u1] := hT.at fun o e => hk2 T o (W.apart i T _ hM) e
    have sub : ∀ c, c ∉ [z, TI, TO, i1, i2] → c ∉ [z, TO, i1, i2] := fun c hc q => hc (by
      have e' : c = z ∨ c = TO ∨ c = i1 ∨ c = i2 := by simpa using q
      rcases e' with q | q | q | q <;> simp [q])
    have okn : ObjOk X.prog X.w (upd H T (.tup [x, .str ⟨#[c0]⟩])) h2' T (.tup [x, .str ⟨#[c0]⟩]) := by
      refine ⟨?_, [x', .str ⟨#[c0]⟩ u1], .cons ru (.cons ⟨u1, rfl⟩ .nil), hT2⟩
      show 2 ≤ sizeLine
      decide
    refine ⟨.ref T, _, I.turnedNew (t' := tk) (ch := [z, TI, TO, i1, i2]) (fun c o hb q => hk2 c o (sub c hb) (hk c o (sub c hb) q)) hf hT0 okn, rfl, ⟨_, x, c0, rfl, I.hok.fresh hT0, rfl, fun l hl => by rw [I.list_inj hl hqx]; exact hx, hy⟩, ⟨st2.1, st2.2.1, st2.2.2.1, st2.2.2.2.1.1, st2.2.2.2.2⟩, fun c hcm => ?_⟩
    have hlt : c < s.heap.objs.size := by
      obtain ⟨xx, yy, q3'⟩ := q3
      have e' : c = z ∨ c = TI ∨ c = TO ∨ c = i1 ∨ c = i2 := by simpa using hcm
      rcases e' with q | q | q | q | q <;> rw [q]
      · exact Heap.lt_size q1
      · exact Heap.lt_size q2
      · exact Heap.lt_size q3'
      · obtain ⟨_, e1, _⟩ := h1; exact Heap.lt_size e1
      · obtain ⟨_, e2, _⟩ := h2; exact Heap.lt_size e2
    rw [upd_ne (Nat.ne_of_lt (Nat.lt_of_lt_of_le hlt hT0))]
    exact (hf c hcm).1
  done := by
    intro X hP hw hK hc i pins s σ H E I hf st hg
    subst hP hw hK
    obtain ⟨q1, q2, q3, h1, h2⟩ := st
    obtain ⟨xs, hqx, rfl⟩ := hg
    obtain ⟨its, rv, p, _⟩ := I.list hqx
    have W := WalksT.zipD2 (A := X.A) D (Draws.list (prog := X.prog) (w := X.w) (A := X.A.in1) (I.ok.hd hc) i1 a n1 its.toArray) (Draws.text (prog := X.prog) (w := X.w) (A := X.A.in1) (I.ok.hd hc) i2 b tk0)
    have el : min xs.length b.cps.size = min its.toArray.size b.cps.size := by rw [rv.length, ← List.size_toArray]
    rw [el] at h1 h2
    refine W.done s _ _ ⟨q1, q2, q3, ⟨h1, p.isList⟩, h2⟩ fun h' tk hk => ⟨rfl, I.turnedL (t' := tk) (ch := [z, TI, TO, i1, i2]) (fun c o hb q => hk c o (fun y => hb ?_) q) hf⟩
    have e' : c = z ∨ c = TO ∨ c = i1 ∨ c = i2 := by simpa using y
    rcases e' with q | q | q | q <;> simp [q]
  self := fun A i s Q E st h => wpAny_pyIter_zip st.1 h
def ZpW (K : PySem.W.Frag) (R : It → Hp → Prop) (vs : List V) (H : Hp) : Prop := ∃ (a : Addr) (b : Str) (xs : List V), vs = [.ref a, .str b] ∧ SqL K H a xs ∧ R (ItzW K a b) H
def iZipW (K : PySem.W.Frag) (ta : TA) : TI := fun σ H R => ta σ H (ZpW K R)
theorem pi_zipW {X : Cx} {e e2 : Expr} {ta : TA} {p pos tpos : Pos} {elts : List Expr} {kk : Nat} (hg : Gl X "zip") (hm : X.mg "zip" = none) (ha : PA X [e, e2] ta)
    (hs : starEach [e, e2] X.env = (false, eval e X.env) :: starEach [e2] X.env := by rfl) (hpl : (backTo pos (starEach [e2] X.env)).any (·.1) = false := by rfl) :
    PI X (.Tuple elts kk tpos) (.Call (.Name "zip" p) [e, e2] [] pos) (iZipW X.K ta) := by
  refine ⟨fun pins s σ H R I h => ?_⟩
  refine Call_ (ld_blt I hg hm PyProof.Rows.boot_zip (PyProof.Rows.callWith_type1 (thn (ha.run pos pins s σ H _ I h) fun us t ⟨vs, H1, J, r1, q1⟩ => ?_) hs hpl))
  obtain ⟨a, b, xs, rfl, hqx, q⟩ := q1
  obtain ⟨u, v, rfl, ru, rv⟩ := vals2 r1
  obtain rfl : u = Value.ref a := ru
  obtain ⟨tk0, rfl⟩ := rv
  have fr : ∀ c, c ∈ [t.heap.objs.size + 4, t.heap.objs.size + 2, t.heap.objs.size + 3, t.heap.objs.size, t.heap.objs.size + 1] → FpOk X pins H1 c := fun c hcm => by
    have le : t.heap.objs.size ≤ c := by
      have e' : c = t.heap.objs.size + 4 ∨ c = t.heap.objs.size + 2 ∨ c = t.heap.objs.size + 3 ∨ c = t.heap.objs.size ∨ c = t.heap.objs.size + 1 := by simpa using hcm
      rcases e' with z | z | z | z | z <;> rw [z]
      · exact Nat.le_add_right _ _
      · exact Nat.le_add_right _ _
      · exact Nat.le_add_right _ _
      · exact Nat.le_refl _
      · exact Nat.le_add_right _ _
    exact J.fpOk le (J.hok.fresh le)
  obtain ⟨its, w1, p1, _⟩ := J.list hqx
  have la : a < t.heap.objs.size := p1.lt
  refine zip_begins2 (begins_list a its.toArray) (begins_text b tk0) p1.isList trivial fun g hz hTI hTO h1 h2 _ hk => wpAny_pyIter_zip hz ?_
  exact ⟨t.heap.objs.size + 4, _, _, _, H1, rfl, J.kept (t' := t.toks) hk, turn_zipW (tk0 := tk0) (zip_sep2 (N := t.heap.objs.size) (fp1 := [a]) (fp2 := []) (by simpa using la) (by simp)) (Nat.ne_of_lt la),
    ⟨hz, hTI, ⟨_, _, hTO⟩, ⟨_, h1, rfl, rfl⟩, ⟨_, h2, rfl, rfl⟩⟩, fr, q⟩
section
variable {K : PySem.W.Frag}
theorem walk_zipW {a : Addr} {b : Str} {xs : List V} {n : Nat} (hn : n = min xs.length b.cps.size) : Walk (ItzW K a b) n (fun H => SqL K H a xs) (YPair (fun i => xs[i]?) (fun i => b.cps[i]?.map fun c => V.str ⟨#[c]⟩)) where
  goes := fun i H hi h => ⟨xs, xs[i]'(by omega), b.cps[i]'(by omega), h, List.getElem?_eq_getElem (by omega), Array.getElem?_eq_getElem (by omega)⟩
  stops := fun H h => ⟨xs, h, hn⟩
  yields := fun i H x H' _ h y => by
    obtain ⟨T, x1, c, e1, e2, e3, e4, e5⟩ := y
    exact ⟨T, x1, .str ⟨#[c]⟩, e1, e2, e3, e4 xs h, by show b.cps[i]?.map _ = _; rw [e5]; rfl⟩
theorem r_izw {ta : TA} {σ : L2.St} {H : Hp} {R : It → Hp → Prop} (h : ta σ H (ZpW K R)) : iZipW K ta σ H R := h
theorem r_zxw {R : It → Hp → Prop} {a : Addr} {b : Str} {xs : List V} {H : Hp} (e : SqL K H a xs) (h : R (ItzW K a b) H) : ZpW K R [.ref a, .str b] H := ⟨a, b, xs, rfl, e, h⟩
end
/-! ### every other one of a tuple -/
def altL {α : Type} : List α → List α
  | [] => []
  | [x] => [x]
  | x :: _ :: r => x :: altL r
theorem alt_pick {α : Type} : ∀ xs : List α, (List.range ((xs.length + 1) / 2)).filterMap (fun (m : Nat) => xs[2 * m]?) = altL xs
  | [] => by simp [altL]
  | [x] => by simp [altL, List.range_succ]
  | x :: y :: r => by
    have ih := alt_pick r
    have e : ((x :: y :: r).length + 1) / 2 = (r.length + 1) / 2 + 1 := by rw [List.length_cons, List.length_cons]; omega
    rw [e, List.range_succ_eq_map, List.filterMap_cons]
    show x :: _ = x :: altL r
    rw [← ih, List.filterMap_map]
    congr 1
theorem adjust_two (s n : Nat) (hs : s = 0 ∨ s = 1) : Builtin.Slice.sliceAdjust (if s = 0 then none else some 1) none 2 (n : Int) = (((min s n : Nat) : Int), (n : Int)) := by
  unfold Builtin.Slice.sliceAdjust
  rcases hs with rfl | rfl
  · simp
  · simp; omega
theorem places_two (s n : Nat) (hs : s = 0 ∨ s = 1) : Builtin.Slice.slicePlaces ((min s n : Nat) : Int) (n : Int) 2 = ((n - s) + 1) / 2 := by
  unfold Builtin.Slice.slicePlaces
  rcases hs with rfl | rfl
  · simp; split <;> omega
  · simp; split <;> omega
theorem pick_two (s : Nat) (xs : Array Value) (hs : s = 0 ∨ s = 1) : ((List.range (((xs.size - s) + 1) / 2)).filterMap fun (m : Nat) => xs[(((min s xs.size : Nat) : Int) + (m : Int) * 2).toNat]?).toArray = (altL (xs.toList.drop s)).toArray := by
  congr 1
  rw [← alt_pick, List.length_drop, Array.length_toList]
  have e1 : ((List.range (((xs.size - s) + 1) / 2)).filterMap fun (m : Nat) => xs[(((min s xs.size : Nat) : Int) + (m : Int) * 2).toNat]?) = ((List.range (((xs.size - s) + 1) / 2)).map fun (m : Nat) => (((min s xs.size : Nat) : Int) + (m : Int) * 2).toNat).filterMap (xs[·]?) := by
    rw [List.filterMap_map]; rfl
  have e2 : ((List.range (((xs.size - s) + 1) / 2)).map fun (m : Nat) => (((min s xs.size : Nat) : Int) + (m : Int) * 2).toNat) = (List.range (((xs.size - s) + 1) / 2)).map fun m => s + 2 * m := List.map_congr_left fun m hm => by
    have := List.mem_range.mp hm
    omega
  rw [e1, e2, List.filterMap_map]
  have e3 : ((xs[·]?) ∘ fun m => s + 2 * m) = fun (m : Nat) => (xs.toList.drop s)[2 * m]? := by
    funext m
    show xs[s + 2 * m]? = _
    rw [List.getElem?_drop, Array.getElem?_toList]
  rw [e3]
theorem applied_two {prog : Program} {w : World} {A : Around} {E : Value → Shared → Prop} {s : Shared} {sl : Addr} {v1 v2 v3 : Value} {n k : Nat} {Q : Int × Int × Nat → Shared → Prop} (hk : k = 0 ∨ k = 1) (sli : s.heap.IsSliceOf sl v1 v2 v3) (lo : IsPart v1 (if k = 0 then none else some 1)) (up : IsPart v2 none) (st : IsPart v3 (some 2))
    (h : Q (((min k n : Nat) : Int), 2, ((n - k) + 1) / 2) s) : wpAny (model prog w) A (Builtin.Slice.sliceApplied (.ref sl) (pure (n : Int))) Q E s := by
  obtain ⟨oS, atS, clS, daS⟩ := id sli
  unfold Builtin.Slice.sliceApplied Builtin.Slice.sliceFields
  refine wpAny_bind (wpAny_bind (wpAny_field atS daS (x := v1) rfl (wpAny_bind (wpAny_field atS daS (x := v2) rfl (wpAny_bind (wpAny_field atS daS (x := v3) rfl (wpAny_pure ?_)))))))
  refine wpAny_bind (HT.slicePart_ st ?_)
  show wpAny _ _ (if ((2 : Int) == 0) = true then _ else _) _ _ s
  rw [if_neg (by decide)]
  refine wpAny_bind (HT.slicePart_ lo (wpAny_bind (HT.slicePart_ up (wpAny_bind (wpAny_pure ?_)))))
  show wpAny _ _ (match Builtin.Slice.sliceAdjust (if k = 0 then none else some 1) none 2 (n : Int) with | (lo, hi) => pure (lo, (2 : Int), Builtin.Slice.slicePlaces lo hi 2)) _ _ s
  rw [adjust_two k n hk]
  show wpAny _ _ (pure (((min k n : Nat) : Int), (2 : Int), Builtin.Slice.slicePlaces ((min k n : Nat) : Int) (n : Int) 2)) _ _ s
  rw [places_two k n hk]
  exact wpAny_pure h
theorem getItem_two {prog : Program} {w : World} {A : Around} {E : Value → Shared → Prop} {s : Shared} {t sl : Addr} {items : Array Value} {v1 v2 v3 : Value} {k : Nat} {Q : Value → Shared → Prop} (hk : k = 0 ∨ k = 1) (tup : IsTup s.heap t items) (sli : s.heap.IsSliceOf sl v1 v2 v3) (lo : IsPart v1 (if k = 0 then none else some 1)) (up : IsPart v2 none) (st : IsPart v3 (some 2))
    (h : Q (.ref s.heap.objs.size) { s with heap := s.heap.push { cls := .type "tuple", data := .seq (altL (items.toList.drop k)).toArray } }) (room : (altL (items.toList.drop k)).length ≤ sizeLine) : wpAny (model prog w) A (getItem (.ref t) (.ref sl)) Q E s := by
  have big : sizeOk (.seq (altL (items.toList.drop k)).toArray) := by
    show (altL (items.toList.drop k)).toArray.size ≤ sizeLine
    rw [List.size_toArray]; exact room
  obtain ⟨oS, atS, clS, daS⟩ := id sli
  have isSl : s.TypeIs (.ref sl) "slice" := ⟨oS, atS, clS⟩
  unfold getItem
  try with_reducible refine wpAny_holding ?_
  first | refine wpAny_bind (wpAny_pure ?_) | skip
  refine wpAny_bind (wpAny_sequenceKey tup.typeIs (by decide) ?_)
  refine wpAny_bind (wpAny_callSpecial?_slot (name := Str.ofString "__getitem__") tup.typeIs PyProof.Rows.slot_tuple_getitem (wpAny_call_entry PyProof.Rows.slot_tuple_getitem (hT := tup.typeIs) (hb := entry_tuple_getitem) ?_ (ha := args_tuple_getitem _ _)))
  show wpAny _ _ (Builtin.Tuple.tupleItemsOf (.ref t) >>= _) _ _ s
  refine wpAny_bind (tupleItemsOf_ tup ?_)
  refine wpAny_bind (wpAny_typeOf isSl ?_)
  rw [if_pos (by decide)]
  refine wpAny_bind (applied_two (n := items.size) hk sli lo up st ?_)
  have notAll : ¬ ((((min k items.size : Nat) : Int) == 0 && (2 : Int) == 1 && ((items.size - k) + 1) / 2 == items.size) = true) := by simp
  show wpAny _ _ (if (((min k items.size : Nat) : Int) == 0 && (2 : Int) == 1 && ((items.size - k) + 1) / 2 == items.size) = true then _ else _) _ _ s
  rw [if_neg notAll, pick_two k items hk]
  first
    | exact wpAny_bind (m := Builtin.Tuple.tupleExact _) (wpAny_newObj_type (wpAny_pure ⟨_, rfl, wpAny_pure h⟩) big)
    | exact wpAny_bind (m := Builtin.Tuple.tupleExact _) (wpAny_newObj_type (wpAny_bind (wpAny_pure (wpAny_pure ⟨_, rfl, wpAny_pure h⟩))) big)
    | exact wpAny_bind (wpAny_bind (m := Builtin.Tuple.tupleExact _) (wpAny_newObj_type (wpAny_pure (wpAny_pure ⟨_, rfl, wpAny_pure h⟩)) big))
    | exact wpAny_bind (wpAny_bind (m := Builtin.Tuple.tupleExact _) (wpAny_newObj_type (wpAny_pure ⟨_, rfl, wpAny_pure h⟩) big))
theorem altL_len {α : Type} : ∀ xs : List α, (altL xs).length ≤ xs.length
  | [] => Nat.le_refl _
  | [x] => Nat.le_refl _
  | x :: y :: r => by
    have := altL_len r
    show (altL r).length + 1 ≤ r.length + 1 + 1
    omega
theorem vals_alt : ∀ {xs : List V} {us : List Value}, Vals xs us → Vals (altL xs) (altL us)
  | _, _, .nil => .nil
  | _, _, .cons h .nil => .cons h .nil
  | _, _, .cons h (.cons _ r) => .cons h (vals_alt r)
theorem vals_dropn : ∀ {xs : List V} {us : List Value} (k : Nat), Vals xs us → Vals (xs.drop k) (us.drop k)
  | _, _, 0, h => h
  | _, _, _ + 1, .nil => .nil
  | _, _, k + 1, .cons _ r => vals_dropn k r
def tAltT (K : PySem.W.Frag) (k : Nat) (te : TE) : TE := fun σ H Q => te σ H fun x H1 => ∃ a xs, x = .ref a ∧ SqT K H1 a xs ∧ ∀ p, H1 p = none → Q (.ref p) (upd H1 p (.tup (altL (xs.drop k))))
theorem pe_two {X : Cx} {e : Expr} {te : TE} {lo : Option Expr} {tl : (L2.St → Hp → (Option Int → Hp → Prop) → Prop)} {k j : Nat} {p1 p3 pos : Pos} (hk : k = 0 ∨ k = 1) (he : PE X e te) (hlo : PO X lo tl) (hl : ∀ (σ : L2.St) (H : Hp) (Q : Option Int → Hp → Prop), Q (if k = 0 then none else some 1) H → tl σ H Q) :
    PE X (.Subscript e (.Slice lo none (some (.Constant (.int 2) j p1)) p3) pos) (tAltT X.K k te) := by
  refine ⟨fun pins s σ H Q I h => Subscript_ (thn (he.run pins s σ H _ I h) fun v s1 z => ?_)⟩
  obtain ⟨x, H1, I1, r1, a, xs, rfl, seq, q⟩ := z
  cases r1
  have two : PO X (some (.Constant (.int 2) j p1)) (tPart (tC (.int 2))) := po_some pe_int
  refine wpAny_Slice (thn (hlo.run pins s1 σ H1 (fun o H2 => o = (if k = 0 then none else some 1) ∧ H2 = H1) I1 (hl _ _ _ ⟨rfl, rfl⟩)) fun v1 s2 z => ?_)
  obtain ⟨l, H2, J2, lo, rfl, rfl⟩ := z
  refine thn (po_none.run pins s2 σ H2 (fun o H3 => o = none ∧ H3 = H2) J2 ⟨rfl, rfl⟩) fun v2 s3 z => ?_
  obtain ⟨u, H3, J3, up, rfl, rfl⟩ := z
  refine thn (two.run pins s3 σ H3 (fun o H4 => o = some 2 ∧ H4 = H3) J3 ⟨2, rfl, rfl, rfl⟩) fun v3 s4 z => ?_
  obtain ⟨o, H4, J4, st, rfl, rfl⟩ := z
  have J5 : Inv X pins σ H4 { s4 with heap := s4.heap.push { cls := .type "slice", data := .fields #[v1, v2, v3] } } := J4.kept (t' := s4.toks) fun b ob q => Heap.get?_push_of_some _ q
  obtain ⟨its, r, tup, room⟩ := J5.tuple seq
  have hlen := r.length
  have l1 := altL_len (its.drop k)
  rw [List.length_drop] at l1
  have l2 := altL_len (xs.drop k)
  rw [List.length_drop] at l2
  show wpAny (model X.prog X.w) X.A (subscriptTail e (.Slice _ none (some (.Constant (.int 2) j p1)) p3) (.ref a) (.ref s4.heap.objs.size)) (EP X pins σ Q) X.xe { s4 with heap := s4.heap.push { cls := .type "slice", data := .fields #[v1, v2, v3] } }
  refine tail_any (ops := [.ref a, .ref s4.heap.objs.size]) tup.typeIs (PyProof.Rows.slot_tuple_getitem.lookup) ?_ (by with_unfolding_all rfl)
  refine getItem_two hk tup (Heap.IsSliceOf.new _ v1 v2 v3) lo up st ?_ (by show (altL (its.drop k)).length ≤ sizeLine; omega)
  refine ⟨.ref _, _, J5.laid (t' := s4.toks) (o := .tup (altL (xs.drop k))) (fun b ob q => Heap.get?_push_of_some _ q) (Nat.le_refl _) ?_, rfl, q _ (J5.hok.fresh (Nat.le_refl _))⟩
  exact ⟨by omega, _, vals_alt (vals_dropn k r), IsTup.new _ _⟩
theorem pe_two0 {X : Cx} {e : Expr} {te : TE} {j : Nat} {p1 p3 pos : Pos} (he : PE X e te) : PE X (.Subscript e (.Slice none none (some (.Constant (.int 2) j p1)) p3) pos) (tAltT X.K 0 te) := pe_two (.inl rfl) he po_none fun _ _ _ h => h
theorem pe_two1 {X : Cx} {e : Expr} {te : TE} {i j : Nat} {p0 p1 p3 pos : Pos} (he : PE X e te) : PE X (.Subscript e (.Slice (some (.Constant (.int 1) i p0)) none (some (.Constant (.int 2) j p1)) p3) pos) (tAltT X.K 1 te) := pe_two (.inr rfl) he (po_some pe_int) fun _ _ _ h => ⟨1, rfl, h⟩
theorem castAlt {X : Cx} {K : PySem.W.Frag} {e : Expr} {k : Nat} {te : TE} (h : PE X e (tAltT X.K k te)) (q : X.K = K := by rfl) : PE X e (tAltT K k te) := q ▸ h
/-! ### a text taken several times -/
def repS (z : Str) (n : Nat) : Str := ⟨(List.replicate n z.cps).foldl (· ++ ·) #[]⟩
def rMulS : R2 := fun x y H Q => ∃ (z : Str) (k : Int), x = .str z ∧ y = .int k ∧ (2 ≤ k ∧ k ≤ 1000) ∧ (1 ≤ z.length ∧ z.length ≤ 1000) ∧ (repS z k.toNat).length ≤ sizeLine ∧ Q (.str (repS z k.toNat)) H
theorem op_mulS {X : Cx} : OpR X (binaryOp .Mult) rMulS := by
  intro pins s σ H x y v u Q I rx ry h
  obtain ⟨z, k, rfl, rfl, hk, hz, hl, q⟩ := h
  obtain ⟨t, rfl⟩ := rx
  obtain ⟨t', rfl⟩ := ry
  have c1 : ¬ k < 1 := by omega
  have c2 : (k == 1 || z.length == 0) = false := by
    rw [Bool.or_eq_false_iff]
    exact ⟨beq_eq_false_iff_ne.mpr (by omega), beq_eq_false_iff_ne.mpr (by omega)⟩
  refine PySem.P.mul_str ?_ (fun _ _ => ?_) (fun _ _ => ?_) ?_
  · rw [decide_eq_false (by omega), decide_eq_false (by omega)]; rfl
  · have : (1000 : Int) ≤ (2 ^ 63 - 1) / k := (Int.le_ediv_iff_mul_le (by omega)).mpr (by omega)
    omega
  · exact decide_eq_false (Nat.not_lt.mpr (Nat.le_trans (Nat.mul_le_mul hz.2 (show k.toNat ≤ 1000 by omega)) (by decide)))
  · rw [if_neg c1, if_neg (by rw [c2]; decide)]
    exact ⟨hl, ⟨.str (repS z k.toNat), H, I.tok _, ⟨_, rfl⟩, q⟩⟩
theorem r_mulS {z : Str} {k : Int} {H : Hp} {Q : VK} (hk : 2 ≤ k ∧ k ≤ 1000) (hz : 1 ≤ z.length ∧ z.length ≤ 1000) (hl : (repS z k.toNat).length ≤ sizeLine) (q : Q (.str (repS z k.toNat)) H) : rMulS (.str z) (.int k) H Q := ⟨z, k, rfl, rfl, hk, hz, hl, q⟩
/-! ### a text taken once -/
def rMulS1 : R2 := fun x y H Q => ∃ (z : Str), x = .str z ∧ y = .int 1 ∧ (1 ≤ z.length ∧ z.length ≤ 1000) ∧ Q (.str z) H
theorem op_mulS1 {X : Cx} : OpR X (binaryOp .Mult) rMulS1 := by
  intro pins s σ H x y v u Q I rx ry h
  obtain ⟨z, rfl, rfl, hz, q⟩ := h
  obtain ⟨t, rfl⟩ := rx
  obtain ⟨t', rfl⟩ := ry
  refine PySem.P.mul_str (by decide) (fun _ _ => ?_) (fun _ _ => ?_) ?_
  · have : (1000 : Int) ≤ (2 ^ 63 - 1) / 1 := by decide
    omega
  · exact decide_eq_false (Nat.not_lt.mpr (Nat.le_trans (Nat.mul_le_mul hz.2 (show (1 : Int).toNat ≤ 1000 by decide)) (by decide)))
  · rw [if_neg (by decide), if_pos (show ((1 : Int) == 1 || z.length == 0) = true from rfl)]
    exact ⟨.str z, H, I, ⟨_, rfl⟩, q⟩
theorem OpR.or {X : Cx} {f : Value → Value → Sem Value} {r r' : R2} (h : OpR X f r) (h' : OpR X f r') : OpR X f (fun x y H Q => r x y H Q ∨ r' x y H Q) := by
  intro pins s σ H x y v u Q I rx ry q
  rcases q with q | q
  · exact h pins s σ H x y v u Q I rx ry q
  · exact h' pins s σ H x y v u Q I rx ry q
/-! ### dict(zip(a list, a tuple)) -/
section
variable {prog : Program} {w : World} {A : Around} {E : Value → Shared → Prop} {s : Shared} {z TI TO T i1 i2 : Addr} {fp1 fp2 : List Addr} {n1 n2 i : Nat} {f : Bool} {oT : Obj} {P1 P2 : Nat → Value → Prop} {St1 St2 : Nat → Heap → Prop}
/-- the next pair, while the one that was told before is still there -/
theorem zh_item {Q : Value → Shared → Prop} (S : ZipSep2 z TI TO i1 i2 fp1 fp2) (D1 : Draws prog w A i1 fp1 n1 P1 St1) (D2 : Draws prog w A i2 fp2 n2 P2 St2) (hz : IsZipHeld s.heap z TI TO T f) (hT : s.heap.get? T = some oT)
    (hTI : IsTupOf2 s.heap TI (.ref i1) (.ref i2)) (st1 : St1 i s.heap) (st2 : St2 i s.heap) (g1 : i < n1) (g2 : i < n2)
    (hQ : ∀ x y h' tk, P1 i x → P2 i y → IsZipHeld h' z TI TO T true → St1 (i + 1) h' → St2 (i + 1) h' → IsTupOf2 h' s.heap.objs.size x y → (∀ c o, c ≠ z → c ≠ i1 → c ≠ i2 → s.heap.get? c = some o → h'.get? c = some o) → Q (.ref s.heap.objs.size) { s with heap := h', toks := tk }) :
    wpAny (model prog w) A (Builtin.«zip.__next__» ⟨[.ref z], []⟩) (fun fin s' => ∃ v, fin = .done (.ret v) ∧ Q v s') E s := by
  obtain ⟨hp, g, d, tk0, os⟩ := s
  show wpAny _ _ (field (.ref z) 2 >>= _) _ _ _; refine wpAny_bind (wpAny_field hz rfl (x := .bool false) rfl ?_)
  show wpAny _ _ (field (.ref z) 3 >>= _) _ _ _; refine wpAny_bind (wpAny_field hz rfl (x := .ref TI) rfl ?_)
  refine wpAny_bind (wpAny_seqItems hTI rfl ?_); show wpAny _ _ (Builtin.SmallTypes.ownedTupleIsFree (.ref z) >>= _) _ _ _
  refine wpAny_bind (wpAny_tupleHeld_zip hz hT fun a1 hza hsa => ?_)
  simp only [Bool.false_eq_true, if_false]; refine wpAny_bind ?_; rw [← Array.forIn_toList]
  simp only [List.forIn_cons, List.forIn_nil]; refine wpAny_bind (wpAny_bind (wpAny_holding ?_))
  show wpAny _ _ (Builtin.SmallTypes.nextOf (.ref i1) >>= _) _ _ (⟨a1, g, d, tk0, os⟩ : Shared)
  refine wpAny_bind (D1.item i _ _ _ g1 (D1.over st1 hsa S.zf1) fun x a2 tk1 hx sn1 hsb => wpAny_pure ?_)
  replace hsb : Heap.SameBut i1 a1 a2 := hsb
  refine wpAny_pure ?_; refine wpAny_bind (wpAny_bind (wpAny_holding ?_))
  show wpAny _ _ (Builtin.SmallTypes.nextOf (.ref i2) >>= _) _ _ (⟨a2, g, d, tk1, os⟩ : Shared)
  refine wpAny_bind (D2.item i _ _ _ g2 (D2.over (D2.over st2 hsa S.zf2) hsb S.sep1_2) fun y a3 tk2 hy sn2 hsc => wpAny_pure ?_)
  replace hsc : Heap.SameBut i2 a2 a3 := hsc
  refine wpAny_pure (wpAny_pure ?_); show wpAny _ _ (newTuple [x, y] >>= _) _ _ _
  refine wpAny_bind (wpAny_newTuple ?_)
  have esz : a3.objs.size = hp.objs.size := by rw [hsc.1, hsb.1]; exact hsa.1
  have hz3 : IsZipHeld a3 z TI TO T true := hsc.extBut _ _ S.zi2 (hsb.extBut _ _ S.zi1 hza)
  have keep : ∀ c o, c ≠ z → c ≠ i1 → c ≠ i2 → hp.get? c = some o → a3.get? c = some o := fun c o c1 c2 c3 e => hsc.extBut _ _ c3 (hsb.extBut _ _ c2 (hsa.extBut _ _ c1 e))
  have s1 : St1 (i + 1) a3 := D1.over sn1 hsc S.sep2_1
  refine wpAny_pure ⟨_, rfl, ?_⟩
  show Q (.ref a3.objs.size) _
  have hp4 : IsTupOf2 (a3.push { cls := .type "tuple", data := .seq #[x, y] }) a3.objs.size x y := Heap.get?_push_size _ rfl
  rw [esz] at hp4 ⊢
  exact hQ x y _ tk2 hx hy (Heap.get?_push_of_some _ hz3) (D1.frame _ _ _ s1 fun b _ o e => Heap.get?_push_of_some _ e) (D2.frame _ _ _ sn2 fun b _ o e => Heap.get?_push_of_some _ e) hp4 fun c o c1 c2 c3 e => Heap.get?_push_of_some _ (keep c o c1 c2 c3 e)
theorem zh_end {Q : Fin → Shared → Prop} (S : ZipSep2 z TI TO i1 i2 fp1 fp2) (D1 : Draws prog w A i1 fp1 n1 P1 St1) (D2 : Draws prog w A i2 fp2 n2 P2 St2) (hz : IsZipHeld s.heap z TI TO T f) (hT : s.heap.get? T = some oT)
    (hTI : IsTupOf2 s.heap TI (.ref i1) (.ref i2)) (st1 : St1 n1 s.heap)
    (hE : ∀ h' tk e, (∀ c o, c ≠ z → c ≠ i1 → c ≠ i2 → s.heap.get? c = some o → h'.get? c = some o) → (∃ o, h'.get? e = some o ∧ o.cls = .type "StopIteration") → E (.ref e) { s with heap := h', toks := tk }) :
    wpAny (model prog w) A (Builtin.«zip.__next__» ⟨[.ref z], []⟩) Q E s := by
  obtain ⟨hp, g, d, tk0, os⟩ := s
  show wpAny _ _ (field (.ref z) 2 >>= _) _ _ _; refine wpAny_bind (wpAny_field hz rfl (x := .bool false) rfl ?_)
  show wpAny _ _ (field (.ref z) 3 >>= _) _ _ _; refine wpAny_bind (wpAny_field hz rfl (x := .ref TI) rfl ?_)
  refine wpAny_bind (wpAny_seqItems hTI rfl ?_); show wpAny _ _ (Builtin.SmallTypes.ownedTupleIsFree (.ref z) >>= _) _ _ _
  refine wpAny_bind (wpAny_tupleHeld_zip hz hT fun a1 hza hsa => ?_)
  simp only [Bool.false_eq_true, if_false]; refine wpAny_bind ?_; rw [← Array.forIn_toList]
  simp only [List.forIn_cons, List.forIn_nil]; refine wpAny_bind (wpAny_bind (wpAny_holding ?_))
  show wpAny _ _ (Builtin.SmallTypes.nextOf (.ref i1) >>= _) _ _ (⟨a1, g, d, tk0, os⟩ : Shared)
  exact wpAny_bind (D1.done _ _ _ (D1.over st1 hsa S.zf1) fun h' e hx he => hE h' tk0 e (fun c o c1 c2 _ q => hx _ _ c2 (hsa.extBut _ _ c1 q)) he)
theorem zhn_item {Q : Option Value → Shared → Prop} (S : ZipSep2 z TI TO i1 i2 fp1 fp2) (D1 : Draws prog w A.in1 i1 fp1 n1 P1 St1) (D2 : Draws prog w A.in1 i2 fp2 n2 P2 St2) (hz : IsZipHeld s.heap z TI TO T f) (hT : s.heap.get? T = some oT)
    (hTI : IsTupOf2 s.heap TI (.ref i1) (.ref i2)) (st1 : St1 i s.heap) (st2 : St2 i s.heap) (g1 : i < n1) (g2 : i < n2)
    (hQ : ∀ x y h' tk, P1 i x → P2 i y → IsZipHeld h' z TI TO T true → St1 (i + 1) h' → St2 (i + 1) h' → IsTupOf2 h' s.heap.objs.size x y → (∀ c o, c ≠ z → c ≠ i1 → c ≠ i2 → s.heap.get? c = some o → h'.get? c = some o) → Q (some (.ref s.heap.objs.size)) { s with heap := h', toks := tk }) :
    wpAny (model prog w) A (pyNext (.ref z)) Q E s := by
  have ty : s.TypeIs (.ref z) "zip" := ⟨_, hz, rfl⟩
  unfold pyNext
  exact wpAny_bind (wpAny_attempt (wpAny_callSpecial?_slot (name := Str.ofString "__next__") ty F.slot_zip_next (wpAny_call_entry F.slot_zip_next ty F.entry_zip_next (zh_item S D1 D2 hz hT hTI st1 st2 g1 g2 fun x y h' tk p1 p2 q1 q2 q3 q4 q5 => wpAny_pure (hQ x y h' tk p1 p2 q1 q2 q3 q4 q5)) (F.args_zip_next_1 _))))
theorem zhn_end {Q : Option Value → Shared → Prop} (S : ZipSep2 z TI TO i1 i2 fp1 fp2) (D1 : Draws prog w A.in1 i1 fp1 n1 P1 St1) (D2 : Draws prog w A.in1 i2 fp2 n2 P2 St2) (hz : IsZipHeld s.heap z TI TO T f) (hT : s.heap.get? T = some oT)
    (hTI : IsTupOf2 s.heap TI (.ref i1) (.ref i2)) (st1 : St1 n1 s.heap)
    (hQ : ∀ h' tk, (∀ c o, c ≠ z → c ≠ i1 → c ≠ i2 → s.heap.get? c = some o → h'.get? c = some o) → Q none { s with heap := h', toks := tk }) : wpAny (model prog w) A (pyNext (.ref z)) Q E s := by
  have ty : s.TypeIs (.ref z) "zip" := ⟨_, hz, rfl⟩
  unfold pyNext
  refine wpAny_bind (wpAny_attempt (wpAny_callSpecial?_slot (name := Str.ofString "__next__") ty F.slot_zip_next (wpAny_call_entry F.slot_zip_next ty F.entry_zip_next (zh_end S D1 D2 hz hT hTI st1 fun h' tk e hk he => ?_) (F.args_zip_next_1 _))))
  obtain ⟨o, ho, hc⟩ := he
  exact wpAny_bind (wpAny_isInstance (T := "StopIteration") (b := true) ⟨o, ho, hc⟩ isSubtype_stop (wpAny_pure (hQ _ _ hk)))
end
theorem zh_arg {prog : Program} {w : World} {z TI TO i1 i2 : Addr} {fp1 fp2 : List Addr} {n : Nat} {P1 P2 : Nat → Value → Prop} {St1 St2 : Nat → Heap → Prop} (S : ZipSep2 z TI TO i1 i2 fp1 fp2)
    (D1 : ∀ A : Around, A.handled = none → Draws prog w A.in1 i1 fp1 n P1 St1) (D2 : ∀ A : Around, A.handled = none → Draws prog w A.in1 i2 fp2 n P2 St2) :
    PairArg prog w "zip" z (z :: TI :: TO :: (fp1 ++ fp2)) [z, TO, i1, i2] n (fun i k v => P1 i k ∧ P2 i v)
      (fun h => IsZip h z TI TO .none ∧ IsTupOf2 h TI (.ref i1) (.ref i2) ∧ (∃ a b, IsTupOf2 h TO a b) ∧ (∀ A : Around, A.handled = none → St1 0 h ∧ St2 0 h) ∧ ∀ b ∈ fp1 ++ fp2, ∃ o, h.get? b = some o) where
  type := fun s ok => ⟨_, ok.1, rfl⟩
  notDict := by decide
  keep := fun h h' ok hk => by
    obtain ⟨q1, q2, ⟨a, b, q3⟩, q4, q5⟩ := ok
    exact ⟨hk _ _ q1, hk _ _ q2, ⟨a, b, hk _ _ q3⟩, fun A hA => ⟨(D1 A hA).frame _ _ _ (q4 A hA).1 fun b _ o e => hk b o e, (D2 A hA).frame _ _ _ (q4 A hA).2 fun b _ o e => hk b o e⟩, fun b m => (q5 b m).imp fun o e => hk _ _ e⟩
  there := fun h ok b hb => by
    obtain ⟨q1, q2, ⟨a, c, q3⟩, _, q5⟩ := ok
    rcases List.mem_cons.mp hb with rfl | hb
    · exact ⟨_, q1⟩
    rcases List.mem_cons.mp hb with rfl | hb
    · exact ⟨_, q2⟩
    rcases List.mem_cons.mp hb with rfl | hb
    · exact ⟨_, q3⟩
    exact q5 b hb
  sub := fun b hb => by
    simp only [List.mem_cons, List.not_mem_nil, or_false] at hb
    rcases hb with rfl | rfl | rfl | rfl
    · simp
    · simp
    · simp [S.mem1]
    · simp [S.mem2]
  noKeys := fun A s Q E hA ok h => getAttrOr_miss_zip ok.1 rfl rfl rfl zip_no_keys (by decide +kernel) hA h
  iter := fun A s d Q E hA ok hd hdf h => by
    obtain ⟨q1, q2, ⟨a, b, q3⟩, q4, q5⟩ := ok
    have d1 := D1 A hA
    have d2 := D2 A hA
    simp only [List.mem_cons, List.mem_append, not_or] at hdf
    obtain ⟨nz, nTI, nTO, nf1, nf2⟩ := hdf
    have ni1 : d ≠ i1 := fun e => nf1 (e ▸ S.mem1)
    have ni2 : d ≠ i2 := fun e => nf2 (e ▸ S.mem2)
    refine wpAny_pyIter_zip q1 (h z [z, TO, i1, i2] (fun i h => IsTupOf2 h TI (.ref i1) (.ref i2) ∧ St1 i h ∧ St2 i h ∧ ((IsZip h z TI TO .none ∧ ∃ a b, IsTupOf2 h TO a b) ∨ ∃ T f oT, IsZipHeld h z TI TO T f ∧ h.get? T = some oT ∧ T ≠ z ∧ T ≠ i1 ∧ T ≠ i2 ∧ T ≠ d)) s.heap s.toks ?_
      ⟨q2, (q4 A hA).1, (q4 A hA).2, .inl ⟨q1, a, b, q3⟩⟩ (fun _ _ e => e) fun b hb => .inl hb)
    exact {
      off := fun hm => by
        simp only [List.mem_cons, List.not_mem_nil, or_false] at hm
        rcases hm with e | e | e | e
        · exact nz e
        · exact nTO e
        · exact ni1 e
        · exact ni2 e
      frame := fun i g g' st hk => by
        obtain ⟨t1, t2, t3, t4⟩ := st
        refine ⟨hk _ _ (Ne.symm nTI) t1, d1.frame _ _ _ t2 fun b m o e => hk _ _ (fun x => nf1 (x ▸ m)) e, d2.frame _ _ _ t3 fun b m o e => hk _ _ (fun x => nf2 (x ▸ m)) e, ?_⟩
        rcases t4 with ⟨u1, a, b, u2⟩ | ⟨T, f, oT, u1, u2, r1, r2, r3, r4⟩
        · exact .inl ⟨hk _ _ (Ne.symm nz) u1, a, b, hk _ _ (Ne.symm nTO) u2⟩
        · exact .inr ⟨T, f, oT, hk _ _ (Ne.symm nz) u1, hk _ _ r4 u2, r1, r2, r3, r4⟩
      item := fun i s1 Q1 E1 hi st hds hQ => by
        obtain ⟨t1, t2, t3, t4⟩ := st
        obtain ⟨o1, lv1⟩ := d1.live _ _ t2
        obtain ⟨o2, lv2⟩ := d2.live _ _ t3
        have m1 : s1.heap.objs.size ≠ i1 := Nat.ne_of_gt (Heap.lt_size lv1)
        have m2 : s1.heap.objs.size ≠ i2 := Nat.ne_of_gt (Heap.lt_size lv2)
        rcases t4 with ⟨u1, a, b, u2⟩ | ⟨T, f, oT, u1, u2, r1, r2, r3, r4⟩
        · refine wpAny_pyNext_zipD2_item S d1 d2 u1 t1 u2 t2 t3 hi hi fun x y h' tk p1 p2 v1 v2 v3 v4 v5 v6 hk => ?_
          exact hQ s1.heap.objs.size x y h' tk ⟨p1, p2⟩ (.inl ⟨_, v5, rfl, _, rfl⟩) ⟨hk _ _ S.TIz S.TITO S.TIi1 S.TIi2 t1, v3, v4, .inr ⟨s1.heap.objs.size, false, _, v1, v5, Nat.ne_of_gt (Heap.lt_size u1), m1, m2, Nat.ne_of_gt hds⟩⟩
            fun c o hc e => hk c o (fun x => hc (by simp [x])) (fun x => hc (by simp [x])) (fun x => hc (by simp [x])) (fun x => hc (by simp [x])) e
        · refine zhn_item S d1 d2 u1 u2 t1 t2 t3 hi hi fun x y h' tk p1 p2 v1 v3 v4 v5 hk => ?_
          exact hQ s1.heap.objs.size x y h' tk ⟨p1, p2⟩ (.inl ⟨_, v5, rfl, _, rfl⟩) ⟨hk _ _ S.TIz S.TIi1 S.TIi2 t1, v3, v4, .inr ⟨T, true, oT, v1, hk _ _ r1 r2 r3 u2, r1, r2, r3, r4⟩⟩
            fun c o hc e => hk c o (fun x => hc (by simp [x])) (fun x => hc (by simp [x])) (fun x => hc (by simp [x])) e
      done := fun s1 Q1 E1 st hQ => by
        obtain ⟨t1, t2, t3, t4⟩ := st
        rcases t4 with ⟨u1, a, b, u2⟩ | ⟨T, f, oT, u1, u2, r1, r2, r3, r4⟩
        · exact wpAny_pyNext_zipD2_end S d1 d2 u1 t1 u2 t2 t3 (Nat.le_refl _) (Nat.le_refl _) (.inl rfl) fun h' tk hk => hQ h' tk fun c o hc e => hk c o (fun x => hc (by simp [x])) (fun x => hc (by simp [x])) (fun x => hc (by simp [x])) (fun x => hc (by simp [x])) e
        · exact zhn_end S d1 d2 u1 u2 t1 t2 fun h' tk hk => hQ h' tk fun c o hc e => hk c o (fun x => hc (by simp [x])) (fun x => hc (by simp [x])) (fun x => hc (by simp [x])) e }
def rDZ (K : PySem.W.Frag) : List V → Hp → VK → Prop := fun xs H Q => ∃ (a b : Addr) (ks : List Key) (ys : List V), xs = [.ref a, .ref b] ∧ SqL K H a (ks.map kV) ∧ SqT K H b ys ∧ ks.length = ys.length ∧ ks.length ≤ 1000000 ∧ ∀ p, H p = none → Q (.ref p) (upd H p (.dK (mergeK [] (ks.zip ys))))
def tDZ (K : PySem.W.Frag) (ta : TA) : TE := fun σ H Q => ta σ H fun xs H1 => rDZ K xs H1 Q
theorem keys_are {P : Program} {w : World} {us : List Value} : ∀ {ks : List Key}, Vals (ks.map kV) us → ∀ (i : Nat) (u : Value), us[i]? = some u → ∃ k, ks[i]? = some k ∧ keyIs k u = true
  | [], r, i, u, e => by
    cases r
    simp at e
  | k :: ks, r, i, u, e => by
    cases r with
    | cons r1 r2 =>
      cases i with
      | zero =>
        obtain rfl := Option.some.inj e
        exact ⟨k, rfl, kV_is (P := P) (w := w) r1⟩
      | succ i =>
        obtain ⟨k', h1, h2⟩ := keys_are (P := P) (w := w) r2 i u (by simpa using e)
        exact ⟨k', by simpa using h1, h2⟩
theorem kv_zip : ∀ {ks : List Key} {ys : List V} {us : List Value}, Vals ys us → KV (ks.zip ys) (ks.zip us)
  | [], _, _, _ => .nil
  | _ :: _, _, _, .nil => .nil
  | _ :: _, _, _, .cons r1 r2 => .cons ⟨rfl, r1⟩ (kv_zip r2)
theorem pe_dictZ {X : Cx} {e e2 : Expr} {ta : TA} {p p2 pos pos2 : Pos} (hc : X.calm = true) (hg : Gl X "dict") (hm : X.mg "dict" = none) (hg2 : Gl X "zip") (hm2 : X.mg "zip" = none) (ha : PA X [e, e2] ta)
    (hs : starEach [e, e2] X.env = (false, eval e X.env) :: starEach [e2] X.env := by rfl) (hpl : (backTo pos2 (starEach [e2] X.env)).any (·.1) = false := by rfl)
    (hs2 : starEach [.Call (.Name "zip" p2) [e, e2] [] pos2] X.env = (false, eval (.Call (.Name "zip" p2) [e, e2] [] pos2) X.env) :: starEach [] X.env := by rfl) :
    PE X (.Call (.Name "dict" p) [.Call (.Name "zip" p2) [e, e2] [] pos2] [] pos) (tDZ X.K ta) := by
  refine ⟨fun pins s σ H Q I h => ?_⟩
  refine Call_ (ld_blt I hg hm PyProof.Rows.boot_dict (PyProof.Rows.callWith_type1 (args_cons (Call_ (ld_blt I hg2 hm2 PyProof.Rows.boot_zip (PyProof.Rows.callWith_type1 (thn (ha.run pos2 pins s σ H _ I h) fun us t ⟨vs, H1, J, r1, q1⟩ => ?_) hs hpl))) hs2) hs2 rfl))
  obtain ⟨a, b, ks, ys, rfl, hqx, hqy, hl, hn, q⟩ := q1
  obtain ⟨u, v, rfl, ru, rv⟩ := vals2 r1
  obtain rfl : u = Value.ref a := ru
  obtain rfl : v = Value.ref b := rv
  obtain ⟨its, w1, p1, _⟩ := J.list hqx
  obtain ⟨its2, w2, p2, _⟩ := J.tuple hqy
  have la : a < t.heap.objs.size := p1.lt
  have lb : b < t.heap.objs.size := by obtain ⟨_, z, _⟩ := p2; exact Heap.lt_size z
  have fr : ∀ c, c ∈ [t.heap.objs.size + 4, t.heap.objs.size + 3, t.heap.objs.size, t.heap.objs.size + 1] → FpOk X pins H1 c := fun c hcm => by
    have le : t.heap.objs.size ≤ c := by
      simp only [List.mem_cons, List.not_mem_nil, or_false] at hcm
      rcases hcm with e | e | e | e <;> rw [e]
      · exact Nat.le_add_right _ _
      · exact Nat.le_add_right _ _
      · exact Nat.le_refl _
      · exact Nat.le_add_right _ _
    exact J.fpOk le (J.hok.fresh le)
  refine zip_begins2 (begins_list a its.toArray) (begins_tuple b its2.toArray) p1.isList p2 fun g hz hTI hTO h1 h2 gsz hk => args_nil ?_
  have e1 : its.length = ks.length := by rw [← w1.length, List.length_map]
  have e2 : its2.length = its.length := by rw [e1, hl, w2.length]
  have S := zip_sep2 (N := t.heap.objs.size) (fp1 := [a]) (fp2 := [b]) (by simpa using la) (by simpa using lb)
  have e3 : its2.toArray.size = its.toArray.size := by rw [List.size_toArray, List.size_toArray, e2]
  have A1 := zh_arg (prog := X.prog) (w := X.w) (n := its.toArray.size) S (fun A hA => Draws.list (prog := X.prog) (w := X.w) (A := A.in1) hA t.heap.objs.size a (Nat.ne_of_lt la) its.toArray) (fun A hA => e3 ▸ Draws.tuple (prog := X.prog) (w := X.w) (A := A.in1) hA (t.heap.objs.size + 1) b (Nat.ne_of_lt (Nat.lt_succ_of_lt lb)) its2.toArray)
  have ok : IsZip g (t.heap.objs.size + 4) (t.heap.objs.size + 2) (t.heap.objs.size + 3) .none ∧ IsTupOf2 g (t.heap.objs.size + 2) (.ref t.heap.objs.size) (.ref (t.heap.objs.size + 1)) ∧ (∃ a b, IsTupOf2 g (t.heap.objs.size + 3) a b) ∧
      (∀ A : Around, A.handled = none → (g.IsListIter t.heap.objs.size a 0 ∧ g.IsList a its.toArray) ∧ (g.IsTupleIter (t.heap.objs.size + 1) b 0 ∧ g.IsTuple b its2.toArray)) ∧ ∀ c ∈ [t.heap.objs.size, a] ++ [t.heap.objs.size + 1, b], ∃ o, g.get? c = some o := by
    have q1 : g.IsList a its.toArray := p1.isList.at fun o e => hk _ _ e
    have q2 : g.IsTuple b its2.toArray := (show t.heap.IsTuple b its2.toArray from p2).at fun o e => hk _ _ e
    refine ⟨hz, hTI, ⟨_, _, hTO⟩, fun A _ => ⟨⟨⟨_, h1, rfl, rfl⟩, q1⟩, ⟨⟨_, h2, rfl, rfl⟩, q2⟩⟩, fun c m => ?_⟩
    simp only [List.cons_append, List.nil_append, List.mem_cons, List.not_mem_nil, or_false] at m
    rcases m with rfl | rfl | rfl | rfl
    · exact ⟨_, h1⟩
    · obtain ⟨o, e, _⟩ := q1; exact ⟨o, e⟩
    · exact ⟨_, h2⟩
    · obtain ⟨o, e, _⟩ := q2; exact ⟨o, e⟩
  refine PySem.call_dict_pairs (knd := mixKind X.prog X.w) (kvs := ks.zip its2) A1 (J.ok.hd hc) ok ⟨?_, fun i key v r => ?_⟩ ?_ fun h' tk hd' hk' => ?_
  · rw [List.length_zip, e2, e1, Nat.min_self, List.size_toArray, e1]
  · obtain ⟨g1, g2⟩ := r
    have g1 : its[i]? = some key := by simpa using g1
    have g2 : its2[i]? = some v := by simpa using g2
    obtain ⟨k, k1, k2⟩ := keys_are (P := X.prog) (w := X.w) w1 i key g1
    exact ⟨k, by rw [List.getElem?_zip_eq_some]; exact ⟨k1, g2⟩, k2⟩
  · rw [List.size_toArray, e1]; exact Nat.le_trans hn (by decide)
  have hT : t.heap.objs.size ≤ g.objs.size := by rw [gsz]; exact Nat.le_add_right _ _
  have hlen : (mergeK [] (ks.zip ys)).length ≤ sizeLine := by
    refine Nat.le_trans (length_mergeK _ []) ?_
    rw [List.length_nil, Nat.zero_add, List.length_zip]
    exact Nat.le_trans (Nat.min_le_left _ _) (Nat.le_trans hn (by decide))
  have hm0 : (g.objs.size == sysModules) = false := beq_eq_false_iff_ne.mpr (Nat.ne_of_gt (Nat.lt_of_lt_of_le J.big hT))
  exact ⟨.ref g.objs.size, upd H1 g.objs.size (.dK (mergeK [] (ks.zip ys))), J.turnedNew (t' := tk) (ch := [t.heap.objs.size + 4, t.heap.objs.size + 3, t.heap.objs.size, t.heap.objs.size + 1]) (fun c o hb e => hk' c o hb (hk c o e)) fr hT
    (show ObjOk X.prog X.w _ _ _ (.dK (mergeK [] (ks.zip ys))) from ⟨hlen, hm0, merged [] (ks.zip its2), KV.merge (kv_zip w2) .nil, hd'⟩), rfl, q _ (J.hok.fresh hT)⟩
theorem castDZ {X : Cx} {K : PySem.W.Frag} {e : Expr} {ta : TA} (h : PE X e (tDZ X.K ta)) (q : X.K = K := by rfl) : PE X e (tDZ K ta) := q ▸ h
theorem r_dz {K : PySem.W.Frag} {ta : TA} {σ : L2.St} {H : Hp} {Q : VK} (h : ta σ H fun xs H1 => rDZ K xs H1 Q) : tDZ K ta σ H Q := h
/-! ### tuple(zip(a tuple, a tuple)) -/
def ZSt (TI i1 i2 a b : Addr) (its1 its2 : Array Value) (i : Nat) (h : Heap) : Prop := IsTupOf2 h TI (.ref i1) (.ref i2) ∧ (h.IsTupleIter i1 a i ∧ h.IsTuple a its1) ∧ (h.IsTupleIter i2 b i ∧ h.IsTuple b its2)
def ZHd (z TI TO i1 i2 S : Addr) (F : Prop) (h : Heap) : Prop := (IsZip h z TI TO .none ∧ (∃ u v, IsTupOf2 h TO u v) ∧ F) ∨ ∃ T f oT, IsZipHeld h z TI TO T f ∧ h.get? T = some oT ∧ T ≠ z ∧ T ≠ i1 ∧ T ≠ i2 ∧ T ≠ S
theorem vals_at' {xs : List V} {us : List Value} (r : Vals xs us) {i : Nat} {u : Value} (e : us[i]? = some u) : ∃ x, xs[i]? = some x ∧ RelV x u := by
  have li := (List.getElem?_eq_some_iff.mp e).1
  have ex : xs[i]? = some (xs[i]'(by rw [r.length]; exact li)) := List.getElem?_eq_getElem _
  obtain ⟨u', e', h⟩ := r.get ex
  obtain rfl := Option.some.inj (e.symm.trans e')
  exact ⟨_, ex, h⟩
abbrev lstO (acc : Array Value) (c : Nat) : Obj := { cls := .type "list", dict := none, data := .seq acc c, slots := #[] }
def ZPs (H : Hp) (xs ys : List V) (ps : List Addr) : Prop := ∀ (j : Nat) (p : Addr), ps[j]? = some p → ∃ x y, xs[j]? = some x ∧ ys[j]? = some y ∧ H p = some (.tup [x, y])
theorem FpOk.upd {X : Cx} {pins : List (Addr × Obj)} {H : Hp} {c T : Addr} {o : HO} (h : FpOk X pins H c) (n : c ≠ T) : FpOk X pins (upd H T o) c := ⟨(upd_ne n).trans h.1, h.2⟩
section
variable {X : Cx} {pins : List (Addr × Obj)} {σ : L2.St} {z TI TO i1 i2 a b S : Addr} {its1 its2 : Array Value} {xs ys : List V} {A : Around} {R : Result → Shared → Prop}
theorem zip_loopI (D : ZipSep2 z TI TO i1 i2 [i1, a] [i2, b]) (n1 : a ≠ i1) (n2 : b ≠ i2) (l2 : its2.size = its1.size) (hn : its1.size ≤ 1000000) (hSa : S ≠ a ∧ S ≠ b ∧ S ≠ TI ∧ S ≠ z ∧ S ≠ TO ∧ S ≠ i1 ∧ S ≠ i2) (res : Value) (hh : A.handled = none) (r1 : Vals xs its1.toList) (r2 : Vals ys its2.toList) :
    ∀ (k i : Nat) (s : Shared) (H : Hp) (acc : Array Value) (c : Nat) (ps : List Addr), its1.size - i = k → i ≤ its1.size → Inv X pins σ H s → ZSt TI i1 i2 a b its1 its2 i s.heap → ZHd z TI TO i1 i2 S (FpOk X pins H TO) s.heap → s.heap.get? S = some (lstO acc c) → acc.toList = ps.map Value.ref → ps.length = i → ZPs H xs ys ps → (∀ q ∈ [z, i1, i2, S], FpOk X pins H q) →
    (∀ s' H' acc' c' ps', Inv X pins σ H' s' → Same H H' → s'.heap.get? S = some (lstO acc' c') → acc'.toList = ps'.map Value.ref → ps'.length = its1.size → ZPs H' xs ys ps' → R (.ok (.ret res)) s') →
    codeAny (model X.prog X.w) A (.builtin "list.extend.loop" ⟨[.ref S, .ref z, res], []⟩) R s := by
  have d1 := Draws.tuple (prog := X.prog) (w := X.w) (A := A.in1.in1) hh i1 a n1 its1
  have d2 := Draws.tuple (prog := X.prog) (w := X.w) (A := A.in1.in1) hh i2 b n2 its2
  obtain ⟨Sa, Sb, STI, Sz, STO, Si1, Si2⟩ := hSa
  have hp3 : ∀ q ∈ [z, i1, i2], q ∈ [z, i1, i2, S] := fun q m => by
    simp only [List.mem_cons, List.not_mem_nil, or_false] at m ⊢
    rcases m with e | e | e <;> simp [e]
  intro k
  induction k with
  | zero =>
    intro i s H acc c ps hk hi I st hd hS ea lp zp fp fin
    have ei : i = its1.size := by omega
    subst ei
    refine codeAny_builtin F.entry_extend_loop ?_
    rw [Around.under_plainId F.plain_extend_loop _]
    show wpAny _ A.in1 (pyNext (.ref z) >>= _) _ _ s
    obtain ⟨t1, t2, t3⟩ := st
    rcases hd with ⟨u1, ⟨u, v, u2⟩, fo⟩ | ⟨T, f, oT, u1, u2, q1, q2, q3, q4⟩
    · refine wpAny_bind (wpAny_pyNext_zipD2_end D d1 d2 u1 t1 u2 t2 t3 (Nat.le_refl _) (by rw [l2]; exact Nat.le_refl _) (.inl rfl) fun h' tk kp => wpAny_pure ?_)
      refine fin _ H acc c ps (I.turnedL (t' := tk) (ch := [z, TO, i1, i2]) (fun q o m e => kp q o (fun x => m (by simp [x])) (fun x => m (by simp [x])) (fun x => m (by simp [x])) (fun x => m (by simp [x])) e) fun q m => ?_) (Same.refl _) (kp S _ Sz STO Si1 Si2 hS) ea lp zp
      simp only [List.mem_cons, List.not_mem_nil, or_false] at m
      rcases m with e | e | e | e
      · exact fp q (by simp [e])
      · rw [e]; exact fo
      · exact fp q (by simp [e])
      · exact fp q (by simp [e])
    · refine wpAny_bind (zhn_end D d1 d2 u1 u2 t1 t2 fun h' tk kp => wpAny_pure ?_)
      exact fin _ H acc c ps (I.turnedL (t' := tk) (ch := [z, i1, i2]) (fun q o m e => kp q o (fun x => m (by simp [x])) (fun x => m (by simp [x])) (fun x => m (by simp [x])) e) fun q m => fp q (hp3 q m)) (Same.refl _) (kp S _ Sz Si1 Si2 hS) ea lp zp
  | succ k ih =>
    intro i s H acc c ps hk hi I st hd hS ea lp zp fp fin
    have hlt : i < its1.size := by omega
    refine codeAny_builtin F.entry_extend_loop ?_
    rw [Around.under_plainId F.plain_extend_loop _]
    show wpAny _ A.in1 (pyNext (.ref z) >>= _) _ _ s
    obtain ⟨t1, t2, t3⟩ := st
    have as : acc.size = i := by rw [← lp, ← List.length_map (f := Value.ref), ← ea, Array.length_toList]
    have nz : ∀ q o, s.heap.get? q = some o → q ≠ s.heap.objs.size := fun q o e => Nat.ne_of_lt (Heap.lt_size e)
    have ni1 : i1 ≠ s.heap.objs.size := by obtain ⟨o, e, _⟩ := t2.1; exact nz _ _ e
    have ni2 : i2 ≠ s.heap.objs.size := by obtain ⟨o, e, _⟩ := t3.1; exact nz _ _ e
    have nS : S ≠ s.heap.objs.size := nz _ _ hS
    have go : ∀ u v h' tk (ch : List Addr), its1[i]? = some u → its2[i]? = some v → z ≠ s.heap.objs.size → (∃ T f oT, IsZipHeld h' z TI TO T f ∧ h'.get? T = some oT ∧ T ≠ z ∧ T ≠ i1 ∧ T ≠ i2 ∧ T ≠ S) → (h'.IsTupleIter i1 a (i + 1) ∧ h'.IsTuple a its1) → (h'.IsTupleIter i2 b (i + 1) ∧ h'.IsTuple b its2) → IsTupOf2 h' s.heap.objs.size u v → (∀ c o, c ∉ ch → s.heap.get? c = some o → h'.get? c = some o) → (∀ q ∈ ch, FpOk X pins H q) → S ∉ ch → TI ∉ ch →
        wpAny (model X.prog X.w) A.in1 (updateSeq S (·.push (.ref s.heap.objs.size)) >>= fun _ => again (.builtin "list.extend.loop" ⟨[.ref S, .ref z, res], []⟩)) (fun fin s' => match fin with | .done f => R (.ok f) s' | .again c' => c'.quiet = true ∧ codeAny (model X.prog X.w) A c' R s') (fun e s' => R (.error e) s') { s with heap := h', toks := tk } := by
      intro u v h' tk ch hu hv zT hz v1 v2 hT kp fch Sch TIch
      obtain ⟨x, ex, rx⟩ := vals_at' r1 (i := i) (u := u) (by rw [Array.getElem?_toList]; exact hu)
      obtain ⟨y, ey, ry⟩ := vals_at' r2 (i := i) (u := v) (by rw [Array.getElem?_toList]; exact hv)
      have hS' := kp S _ Sch hS
      have okn : ObjOk X.prog X.w (upd H s.heap.objs.size (.tup [x, y])) h' s.heap.objs.size (.tup [x, y]) := ⟨(by decide : 2 ≤ sizeLine), [u, v], .cons rx (.cons ry .nil), ⟨_, hT, rfl, 0, rfl⟩⟩
      have I1 := I.turnedNew (t' := tk) (ch := ch) kp fch (Nat.le_refl _) okn
      have hnew : H s.heap.objs.size = none := I.hok.fresh (Nat.le_refl _)
      have fp1 : ∀ q ∈ [z, i1, i2, S], FpOk X pins (upd H s.heap.objs.size (.tup [x, y])) q := fun q m => FpOk.upd (fp q m) (by
        simp only [List.mem_cons, List.not_mem_nil, or_false] at m
        rcases m with e | e | e | e <;> rw [e]
        · exact zT
        · exact ni1
        · exact ni2
        · exact nS)
      refine wpAny_bind (wpAny_updateSeq hS' rfl (wpAny_pure ⟨plainId_quiet F.plain_extend_loop _, ?_⟩) (by rw [as]; exact Nat.le_of_lt (Nat.lt_of_lt_of_le hlt (Nat.le_trans hn (by decide)))) (by show (acc.push _).size ≤ sizeLine + 1; rw [Array.size_push, as]; exact Nat.succ_le_succ (Nat.le_of_lt (Nat.lt_of_lt_of_le hlt (Nat.le_trans hn (by decide))))))
      have oth : ∀ q o, q ≠ S → h'.get? q = some o → (h'.update S (Obj.mapSeq (·.push (.ref s.heap.objs.size)))).get? q = some o := fun q o n e => (Heap.get?_update_other _ _ n.symm).trans e
      have I2 := I1.turnedL (t' := tk) (h' := h'.update S (Obj.mapSeq (·.push (.ref s.heap.objs.size)))) (ch := [S]) (fun q o m e => oth q o (fun x => m (by simp [x])) e) (fun q m => by rw [List.mem_singleton.mp m]; exact fp1 S (by simp))
      have sm1 : Same H (upd H s.heap.objs.size (.tup [x, y])) := Same.upd_new hnew
      obtain ⟨T, f, oT, g1, g2, g3, g4, g5, g6⟩ := hz
      refine ih (i + 1) _ _ (acc.push (.ref s.heap.objs.size)) _ (ps ++ [s.heap.objs.size]) (by omega) hlt I2 ⟨?_, ⟨v1.1.at fun o e => oth _ _ Si1.symm e, v1.2.at fun o e => oth _ _ Sa.symm e⟩, ⟨v2.1.at fun o e => oth _ _ Si2.symm e, v2.2.at fun o e => oth _ _ Sb.symm e⟩⟩ (.inr ⟨T, f, oT, oth _ _ Sz.symm g1, oth _ _ g6 g2, g3, g4, g5, g6⟩)
        (Heap.get?_update_self _ hS' rfl) (by rw [Array.toList_push, ea, List.map_append]; rfl) (by rw [List.length_append, lp]; rfl) (fun j p e => ?_) fp1 fun s' H' acc' c' ps' J' sm' g1 g2 g3 g4 => fin s' H' acc' c' ps' J' (sm1.trans sm') g1 g2 g3 g4
      · exact oth _ _ STI.symm (kp TI _ TIch t1)
      · by_cases cj : j < ps.length
        · rw [List.getElem?_append_left cj] at e
          obtain ⟨x', y', e1, e2, e3⟩ := zp j p e
          exact ⟨x', y', e1, e2, sm1 _ _ e3⟩
        · rw [List.getElem?_append_right (by omega)] at e
          have hj : j - ps.length = 0 := by
            cases h : j - ps.length with
            | zero => rfl
            | succ m => rw [h] at e; simp at e
          rw [hj] at e
          rw [← Option.some.inj (show some s.heap.objs.size = some p from e), show j = i by omega]
          exact ⟨x, y, ex, ey, upd_same⟩
    have hi2 : i < its2.size := by omega
    rcases hd with ⟨u1, ⟨u, v, u2⟩, fo⟩ | ⟨T, f, oT, u1, u2, q1, q2, q3, q4⟩
    · refine wpAny_bind (wpAny_pyNext_zipD2_item D d1 d2 u1 t1 u2 t2 t3 hlt hi2 fun x y h' tk p1 p2 w1 w2 w3 w4 w5 w6 kp => ?_)
      refine go x y h' tk [z, TO, i1, i2] p1 p2 (nz _ _ u1) ⟨_, false, _, w1, w5, (nz _ _ u1).symm, ni1.symm, ni2.symm, nS.symm⟩ w3 w4 w5 (fun q o m e => kp q o (fun x => m (by simp [x])) (fun x => m (by simp [x])) (fun x => m (by simp [x])) (fun x => m (by simp [x])) e) (fun q m => ?_) (by simp [Sz, STO, Si1, Si2]) (by simp [D.TIz, D.TITO, D.TIi1, D.TIi2])
      simp only [List.mem_cons, List.not_mem_nil, or_false] at m
      rcases m with e | e | e | e
      · exact fp q (by simp [e])
      · rw [e]; exact fo
      · exact fp q (by simp [e])
      · exact fp q (by simp [e])
    · refine wpAny_bind (zhn_item D d1 d2 u1 u2 t1 t2 t3 hlt hi2 fun x y h' tk p1 p2 w1 w3 w4 w5 kp => ?_)
      exact go x y h' tk [z, i1, i2] p1 p2 (nz _ _ u1) ⟨T, true, oT, w1, kp _ _ q1 q2 q3 u2, q1, q2, q3, q4⟩ w3 w4 w5 (fun q o m e => kp q o (fun x => m (by simp [x])) (fun x => m (by simp [x])) (fun x => m (by simp [x])) e) (fun q m => fp q (hp3 q m)) (by simp [Sz, Si1, Si2]) (by simp [D.TIz, D.TIi1, D.TIi2])
end
namespace F2
theorem nolen_zip : typeLookup (.type "zip") "__len__" = pure none := by rw [typeLookup_type, builtinLookup_eq_fast]; kernel_rfl
theorem nohint_zip : typeLookup (.type "zip") "__length_hint__" = pure none := by rw [typeLookup_type, builtinLookup_eq_fast]; kernel_rfl
end F2
theorem hint_zip {P : Program} {w : World} {A : Around} {E : Value → Shared → Prop} {s : Shared} {z : Addr} {Q : Bool → Shared → Prop} (hz : s.TypeIs (.ref z) "zip") (q : Q true s) : wpAny (model P w) A (Builtin.List.listLengthHint (.ref z)) Q E s := by
  unfold Builtin.List.listLengthHint
  refine wpAny_bind (wpAny_specialOf hz F2.nolen_zip ?_)
  show wpAny _ A (specialOf (Value.ref z) (Str.ofString "__length_hint__") >>= _) _ _ _
  refine wpAny_bind (wpAny_specialOf hz F2.nohint_zip ?_)
  exact wpAny_pure q
section
variable {X : Cx} {pins : List (Addr × Obj)} {σ : L2.St} {z TI TO i1 i2 a b : Addr} {its1 its2 : Array Value} {xs ys : List V} {A : Around} {E : Value → Shared → Prop} {s : Shared} {H : Hp}
theorem collect_zip {Q : List Value → Shared → Prop} (D : ZipSep2 z TI TO i1 i2 [i1, a] [i2, b]) (n1 : a ≠ i1) (n2 : b ≠ i2) (l2 : its2.size = its1.size) (hn : its1.size ≤ 1000000) (hh : A.handled = none) (r1 : Vals xs its1.toList) (r2 : Vals ys its2.toList) (I : Inv X pins σ H s)
    (st : ZSt TI i1 i2 a b its1 its2 0 s.heap) (hz : IsZip s.heap z TI TO .none) (hTO : ∃ u v, IsTupOf2 s.heap TO u v) (fp : ∀ q ∈ [z, TO, i1, i2], FpOk X pins H q)
    (fin : ∀ s' H' acc' ps', Inv X pins σ H' s' → Same H H' → acc' = ps'.map Value.ref → ps'.length = its1.size → ZPs H' xs ys ps' → Q acc' s') : wpAny (model X.prog X.w) A (collect (.ref z)) Q E s := by
  unfold collect
  refine wpAny_bind (wpAny_runValue (codeAny_builtin F.entry_proto_collect ?_))
  rw [Around.under_plainId F.plain_proto_collect _]
  show wpAny _ A.in1 (newList [] >>= fun l => again (.builtin "list.__iadd__" ⟨[l, .ref z], []⟩)) _ _ s
  refine wpAny_bind (wpAny_newObj_type ?_)
  refine wpAny_pure ⟨plainId_quiet F.plain_list_iadd _, codeAny_builtin F.entry_list_iadd ?_⟩
  rw [Around.under_plainId F.plain_list_iadd _]
  show wpAny _ A.in1 (Builtin.List.listExtendWith (.ref s.heap.objs.size) (.ref z) (.ref s.heap.objs.size)) _ _ _
  have kp : ∀ b o, s.heap.get? b = some o → (s.heap.push { cls := .type "list", data := .seq ([] : List Value).toArray }).get? b = some o := fun b o e => Heap.get?_push_of_some _ e
  have hS₁ : (s.heap.push { cls := .type "list", data := .seq ([] : List Value).toArray }).get? s.heap.objs.size = some { cls := .type "list", data := .seq #[] 0 } := Heap.get?_push_size _ rfl
  have ne : ∀ q o, s.heap.get? q = some o → s.heap.objs.size ≠ q := fun q o e => Nat.ne_of_gt (Heap.lt_size e)
  have hz1 := kp _ _ hz
  have ty : Shared.TypeIs { s with heap := s.heap.push { cls := .type "list", data := .seq ([] : List Value).toArray } } (.ref z) "zip" := ⟨_, hz1, rfl⟩
  have h1 : Builtin.List.listSameRef (.ref s.heap.objs.size) (.ref z) = false := by
    have := ne _ _ hz
    simp [Builtin.List.listSameRef, this]
  unfold Builtin.List.listExtendWith
  refine wpAny_bind (wpAny_typeOf ty ?_)
  rw [if_neg (by rw [h1]; decide)]
  refine wpAny_bind (wpAny_pyIter_zip hz1 ?_)
  refine wpAny_bind (wpAny_holding (hint_zip ty ?_))
  have hS2 := Heap.get?_update_self (Obj.mapSeq (·.push Value.none)) hS₁ rfl
  have hS3 := Heap.get?_update_self (Obj.mapSeq (·.pop)) hS2 rfl
  refine wpAny_ite_split (fun _ => ?_) (fun z => absurd (by decide) z)
  refine wpAny_bind (wpAny_rule ?_)
  unfold Builtin.List.listTouch
  refine wpAny_bind ?_
  show wpAny _ _ (updateSeq s.heap.objs.size (·.push Value.none) >>= fun _ => updateSeq s.heap.objs.size (·.pop)) _ _ _
  refine wpAny_bind (wpAny_updateSeq hS₁ rfl (wpAny_updateSeq hS2 rfl ?_))
  generalize hh2 : (((s.heap.push { cls := .type "list", data := .seq ([] : List Value).toArray }).update s.heap.objs.size (Obj.mapSeq (·.push Value.none))).update s.heap.objs.size (Obj.mapSeq (·.pop))) = h2 at *
  have k2 : ∀ q o, s.heap.get? q = some o → h2.get? q = some o := fun q o e => by
    rw [← hh2]
    exact (Heap.get?_update_other _ _ (ne q o e)).trans ((Heap.get?_update_other _ _ (ne q o e)).trans (kp q o e))
  obtain ⟨t1, t2, t3⟩ := st
  obtain ⟨u, v, hTO⟩ := hTO
  have J : Inv X pins σ H { s with heap := h2 } := I.kept (t' := s.toks) k2
  have fS : FpOk X pins H s.heap.objs.size := I.fpOk (Nat.le_refl _) (I.hok.fresh (Nat.le_refl _))
  have nei : ∀ {i c n}, s.heap.IsTupleIter i c n → s.heap.objs.size ≠ i := fun h => by obtain ⟨o, e, _⟩ := h; exact ne _ _ e
  have net : ∀ {c n}, s.heap.IsTuple c n → s.heap.objs.size ≠ c := fun h => by obtain ⟨o, e, _⟩ := h; exact ne _ _ e
  refine wpAny_pure ⟨plainId_quiet F.plain_extend_loop _, zip_loopI D n1 n2 l2 hn ⟨net t2.2, net t3.2, ne _ _ t1, ne _ _ hz, ne _ _ hTO, nei t2.1, nei t3.1⟩ _ hh r1 r2 its1.size 0 _ H #[] _ [] (by omega) (Nat.zero_le _) J ⟨k2 _ _ t1, ⟨t2.1.at fun o e => k2 _ _ e, t2.2.at fun o e => k2 _ _ e⟩, ⟨t3.1.at fun o e => k2 _ _ e, t3.2.at fun o e => k2 _ _ e⟩⟩ (.inl ⟨k2 _ _ hz, ⟨u, v, k2 _ _ hTO⟩, fp TO (by simp)⟩) hS3 rfl rfl (fun j p e => by simp at e) (fun q m => ?_) fun s' H' acc' c' ps' J' sm' g1 g2 g3 g4 => ?_⟩
  · simp only [List.mem_cons, List.not_mem_nil, or_false] at m
    rcases m with e | e | e | e
    · exact fp q (by simp [e])
    · exact fp q (by simp [e])
    · exact fp q (by simp [e])
    · rw [e]; exact fS
  · show wpAny _ A (load s.heap.objs.size >>= _) _ _ s'
    refine wpAny_bind (wpAny_load g1 ?_)
    exact wpAny_pure (fin s' H' acc'.toList ps' J' sm' g2 g3 g4)
end
section
variable {X : Cx} {pins : List (Addr × Obj)} {σ : L2.St} {z TI TO i1 i2 a b : Addr} {its1 its2 : Array Value} {xs ys : List V} {A : Around} {E : Value → Shared → Prop} {s : Shared} {H : Hp}
theorem code_tuple_new_zip {Q₁ : Value → Shared → Prop} (D : ZipSep2 z TI TO i1 i2 [i1, a] [i2, b]) (n1 : a ≠ i1) (n2 : b ≠ i2) (l2 : its2.size = its1.size) (hn : its1.size ≤ 1000000) (hh : A.handled = none) (r1 : Vals xs its1.toList) (r2 : Vals ys its2.toList) (I : Inv X pins σ H s)
    (st : ZSt TI i1 i2 a b its1 its2 0 s.heap) (hz : IsZip s.heap z TI TO .none) (hTO : ∃ u v, IsTupOf2 s.heap TO u v) (fp : ∀ q ∈ [z, TO, i1, i2], FpOk X pins H q)
    (fin : ∀ (s' : Shared) (H' : Hp) (ps' : List Addr), Inv X pins σ H' s' → Same H H' → ps'.length = its1.size → ZPs H' xs ys ps' → Q₁ (.ref s'.heap.objs.size) { s' with heap := s'.heap.push { cls := .type "tuple", data := .seq (ps'.map Value.ref).toArray } }) :
    codeAny (model X.prog X.w) A (.call (.builtin "tuple.__new__") ⟨[.type "tuple", .ref z], []⟩) (wants Q₁ E) s := by
  refine codeAny_of_tree ?_
  show wpAny _ A.in1 (do checkBuiltinCall "tuple.__new__" ⟨[.type "tuple", .ref z], []⟩; again (.builtin "tuple.__new__" ⟨[.type "tuple", .ref z], []⟩)) _ _ s
  refine wpAny_bind (wpAny_of_eq (F.newCall_tuple_1 _) (wpAny_pure ⟨plainId_quiet F.plain_tuple_new _, codeAny_builtin F.entry_tuple_new ?_⟩))
  rw [Around.under_plainId F.plain_tuple_new _]
  have hsub := sub_tuple_self
  have hinit := init_tuple_lookup
  have hmh := madeHere_tuple
  have hTI : s.TypeIs (.ref z) "zip" := ⟨_, hz, rfl⟩
  wp_walk using wpAny_typeOf hTI, collect_zip D n1 n2 l2 hn (A := A.in1) hh r1 r2 I st hz hTO fp
  intro s' H' acc' ps' J sm ea lp zp
  show wpAny _ _ (Builtin.Tuple.tupleExact acc'.toArray >>= fun v => ret v) _ _ _
  unfold Builtin.Tuple.tupleExact
  have lz : acc'.toArray.size ≤ sizeLine := by
    rw [ea, List.size_toArray, List.length_map, lp]
    exact Nat.le_trans hn (by decide)
  refine wpAny_bind (wpAny_newObj_type ?_ lz)
  refine wpAny_pure ?_
  rw [ea]
  exact fin s' H' ps' J sm lp zp
end
def rTZ (K : PySem.W.Frag) : List V → Hp → VK → Prop := fun xs H Q => ∃ (a b : Addr) (us vs : List V), xs = [.ref a, .ref b] ∧ SqT K H a us ∧ SqT K H b vs ∧ us.length = vs.length ∧ us.length ≤ 1000000 ∧ ∀ (ps : List Addr) (p : Addr) (H' : Hp), Same H H' → ps.length = us.length → ZPs H' us vs ps → H' p = some (.tup (ps.map V.ref)) → Q (.ref p) H'
def tTZ (K : PySem.W.Frag) (ta : TA) : TE := fun σ H Q => ta σ H fun xs H1 => rTZ K xs H1 Q
theorem vals_refs : ∀ ps : List Addr, Vals (ps.map V.ref) (ps.map Value.ref)
  | [] => .nil
  | p :: ps => .cons rfl (vals_refs ps)
theorem pe_tupZ {X : Cx} {e e2 : Expr} {ta : TA} {p p2 pos pos2 : Pos} (hc : X.calm = true) (hg : Gl X "tuple") (hm : X.mg "tuple" = none) (hg2 : Gl X "zip") (hm2 : X.mg "zip" = none) (ha : PA X [e, e2] ta)
    (hs : starEach [e, e2] X.env = (false, eval e X.env) :: starEach [e2] X.env := by rfl) (hpl : (backTo pos2 (starEach [e2] X.env)).any (·.1) = false := by rfl)
    (hs2 : starEach [.Call (.Name "zip" p2) [e, e2] [] pos2] X.env = (false, eval (.Call (.Name "zip" p2) [e, e2] [] pos2) X.env) :: starEach [] X.env := by rfl) :
    PE X (.Call (.Name "tuple" p) [.Call (.Name "zip" p2) [e, e2] [] pos2] [] pos) (tTZ X.K ta) := by
  refine ⟨fun pins s σ H Q I h => ?_⟩
  refine Call_ (ld_blt I hg hm PyProof.Rows.boot_tuple (PyProof.Rows.callWith_type1 (args_cons (Call_ (ld_blt I hg2 hm2 PyProof.Rows.boot_zip (PyProof.Rows.callWith_type1 (thn (ha.run pos2 pins s σ H _ I h) fun us t ⟨vs, H1, J, r1, q1⟩ => ?_) hs hpl))) hs2) hs2 rfl))
  obtain ⟨a, b, xs, ys, rfl, hqx, hqy, hl, hn, q⟩ := q1
  obtain ⟨u, v, rfl, ru, rv⟩ := vals2 r1
  obtain rfl : u = Value.ref a := ru
  obtain rfl : v = Value.ref b := rv
  obtain ⟨its, w1, p1, _⟩ := J.tuple hqx
  obtain ⟨its2, w2, p2, _⟩ := J.tuple hqy
  have la : a < t.heap.objs.size := by obtain ⟨_, z, _⟩ := p1; exact Heap.lt_size z
  have lb : b < t.heap.objs.size := by obtain ⟨_, z, _⟩ := p2; exact Heap.lt_size z
  have fr : ∀ c, c ∈ [t.heap.objs.size + 4, t.heap.objs.size + 3, t.heap.objs.size, t.heap.objs.size + 1] → FpOk X pins H1 c := fun c hcm => by
    have le : t.heap.objs.size ≤ c := by
      simp only [List.mem_cons, List.not_mem_nil, or_false] at hcm
      rcases hcm with e | e | e | e <;> rw [e]
      · exact Nat.le_add_right _ _
      · exact Nat.le_add_right _ _
      · exact Nat.le_refl _
      · exact Nat.le_add_right _ _
    exact J.fpOk le (J.hok.fresh le)
  refine zip_begins2 (begins_tuple a its.toArray) (begins_tuple b its2.toArray) p1 p2 fun g hz hTI hTO h1 h2 gsz hk => args_nil ?_
  have e1 : its.length = xs.length := w1.length.symm
  have e2 : its2.length = its.length := by rw [e1, hl, w2.length]
  have e3 : its2.toArray.size = its.toArray.size := by rw [List.size_toArray, List.size_toArray, e2]
  have S := zip_sep2 (N := t.heap.objs.size) (fp1 := [a]) (fp2 := [b]) (by simpa using la) (by simpa using lb)
  have J2 : Inv X pins σ H1 { t with heap := g } := J.kept (t' := t.toks) hk
  have q1 : g.IsTuple a its.toArray := (show t.heap.IsTuple a its.toArray from p1).at fun o e => hk _ _ e
  have q2 : g.IsTuple b its2.toArray := (show t.heap.IsTuple b its2.toArray from p2).at fun o e => hk _ _ e
  refine callType_codes (Q₁ := fun obj s₁ => s₁.TypeIs obj "tuple" ∧ EP X pins σ Q obj s₁) F.called_tuple (F.typeCall_tuple_1 _) F.entry_object_init
    (code_tuple_new_zip S (Nat.ne_of_lt la) (Nat.ne_of_lt (Nat.lt_succ_of_lt lb)) e3 (by rw [List.size_toArray, e1]; exact hn) (J2.ok.hd hc) (by simpa using w1) (by simpa using w2) J2 ⟨hTI, ⟨⟨_, h1, rfl, rfl⟩, q1⟩, ⟨⟨_, h2, rfl, rfl⟩, q2⟩⟩ hz ⟨_, _, hTO⟩ fr
      fun s' H' ps' J' sm lp zp => ⟨⟨_, Heap.get?_push_size _ rfl, rfl⟩, ?_⟩) fun obj s₁ h₁ => ?_
  · have lps : ps'.length = xs.length := by rw [lp, List.size_toArray, e1]
    refine ⟨.ref s'.heap.objs.size, _, J'.laid (t' := s'.toks) (o := .tup (ps'.map V.ref)) (fun b o e => Heap.get?_push_of_some _ e) (Nat.le_refl _) ⟨by rw [List.length_map, lps]; exact Nat.le_trans hn (by decide), _, vals_refs ps', IsTup.new _ _⟩, rfl, ?_⟩
    have hn' : H' s'.heap.objs.size = none := J'.hok.fresh (Nat.le_refl _)
    exact q ps' _ _ (sm.trans (Same.upd_new hn')) lps (fun j p e => by
      obtain ⟨x, y, g1, g2, g3⟩ := zp j p e
      exact ⟨x, y, g1, g2, hl_new g3 hn'⟩) upd_same
  · exact ⟨h₁.1, F.args_object_init_2 obj _, object_init_meets F.called_tuple.init.lookup F.called_tuple.made (by decide) X.prog X.w _ _ s₁ ⟨h₁.1, rfl, h₁.2⟩⟩
theorem castTZ {X : Cx} {K : PySem.W.Frag} {e : Expr} {ta : TA} (h : PE X e (tTZ X.K ta)) (q : X.K = K := by rfl) : PE X e (tTZ K ta) := q ▸ h
theorem r_tz {K : PySem.W.Frag} {ta : TA} {σ : L2.St} {H : Hp} {Q : VK} (h : ta σ H fun xs H1 => rTZ K xs H1 Q) : tTZ K ta σ H Q := h
/-! ### the text of a coded unit: its rows as codes -/
def joinC (ws : List (List Nat)) : List Nat := TL.joinL [32] ws
def argW : Arg → List (List Nat)
  | .w z => [cs z]
  | .n i => [numC i]
  | .ways l => l.flatMap fun x => [cs x.1, numC x.2]
def insW (x : Ins) : List (List Nat) := cs x.1 :: x.2.flatMap argW
def insL (x : Ins) : List Nat := [32, 32] ++ joinC (insW x)
def headW (d : Deed) : List (List Nat) := [cs "deed", cs d.1, numC d.2.1]
def deedL (d : Deed) : List (List Nat) := joinC (headW d) :: (d.2.2.map insL ++ [cs "end"])
def unitL (hid : Nat) (ds : List Deed) (p : Int) : List (List Nat) := joinC [cs "prime", numC p] :: joinC [cs "cells", numC (hid : Nat)] :: ds.flatMap deedL
def linesC (L : List (List Nat)) : List Nat := L.flatMap (· ++ [10])
/-- a word: some letters or figures -/
def WordC (w : List Nat) : Prop := 1 ≤ w.length ∧ w.length ≤ 8 ∧ ∀ c ∈ w, 48 ≤ c ∧ c ≤ 122
theorem numC_sm {i : Int} (h : 0 ≤ i ∧ i ≤ 999) : (numC i).length ≤ 3 := by
  have e : (10 : Nat) ^ 3 = 1000 := by decide
  exact TL.numL_len (by decide) (by rw [e]; omega)
theorem num_word {i : Int} (h : 0 ≤ i ∧ i ≤ 999) : WordC (numC i) := by
  have := numC_sm h
  refine ⟨List.length_pos_iff.mpr (numC_ne i), by omega, fun c m => ?_⟩
  have := TL.numL_digits i.toNat c m
  omega
theorem letters_in {c : Nat} (m : c ∈ lettersL) : 97 ≤ c ∧ c ≤ 122 := by
  have h : lettersL.all (fun c => decide (97 ≤ c) && decide (c ≤ 122)) = true := by decide +kernel
  have := List.all_eq_true.mp h c m
  rw [Bool.and_eq_true] at this
  exact ⟨of_decide_eq_true this.1, of_decide_eq_true this.2⟩
theorem name_word {z : Str} (h : NameS z) : WordC (cs z) := by
  refine ⟨by rw [cs_len]; exact h.1, by rw [cs_len]; exact h.2.1, fun c m => ?_⟩
  have := letters_in (h.2.2 c m)
  omega
theorem known_name {hid : Nat} {z : Str} (h : z ∈ knownL hid) : NameS z := by
  have h1 : ∀ z ∈ regsL ++ cellsL, nameB z = true := by decide +kernel
  refine nameB_ok (h1 z ?_)
  unfold knownL at h
  rcases List.mem_append.mp h with h | h
  · exact List.mem_append_left _ h
  · exact List.mem_append_right _ (List.mem_of_mem_take h)
theorem op_name : ∀ q ∈ shapesS, NameS q.1 := fun q m => nameB_ok (by
  have h1 : ∀ q ∈ shapesS, nameB q.1 = true := by decide +kernel
  exact h1 q m)
theorem WordC.no {w : List Nat} (h : WordC w) {c : Nat} (k : c < 48) : c ∉ w := fun m => by have := h.2.2 c m; omega
theorem arg_words {hid c : Nat} {many p : Int} {a : Arg} (f : Fits hid many p NameS Ris c a) (hm : many ≤ 400) (hp : p ≤ 997) : (∀ w ∈ argW a, WordC w) ∧ (argW a).length ≤ 12 := by
  cases f with
  | u h => exact ⟨fun w m => by rw [List.mem_singleton.mp m]; exact name_word (known_name h), (by decide : 1 ≤ 12)⟩
  | n h => exact ⟨fun w m => by rw [List.mem_singleton.mp m]; exact num_word (by omega), (by decide : 1 ≤ 12)⟩
  | t h => exact ⟨fun w m => by rw [List.mem_singleton.mp m]; exact num_word (by omega), (by decide : 1 ≤ 12)⟩
  | m h => exact ⟨fun w m => by rw [List.mem_singleton.mp m]; exact num_word (by omega), (by decide : 1 ≤ 12)⟩
  | d h => exact ⟨fun w m => by rw [List.mem_singleton.mp m]; exact name_word h, (by decide : 1 ≤ 12)⟩
  | @w l h1 h2 h3 =>
    refine ⟨fun w m => ?_, ?_⟩
    · obtain ⟨x, mx, m⟩ := List.mem_flatMap.mp m
      have k := h2 x mx
      simp only [List.mem_cons, List.not_mem_nil, or_false] at m
      rcases m with e | e
      · rw [e]; exact name_word k.1
      · rw [e]; exact num_word (by omega)
    · have e : ∀ l : List (Str × Int), (l.flatMap fun x => [cs x.1, numC x.2]).length = 2 * l.length := by
        intro l
        induction l with
        | nil => rfl
        | cons x l ih => rw [List.flatMap_cons, List.length_append, ih, List.length_cons]; show 2 + 2 * l.length = 2 * (l.length + 1); omega
      show (l.flatMap fun x => [cs x.1, numC x.2]).length ≤ 12
      rw [e]; omega
theorem good_args {hid : Nat} {many p : Int} {x : Ins} (g : GoodI hid many p x) : x.2.length ≤ 4 ∧ ∀ a ∈ x.2, ∃ c, Fits hid many p NameS Ris c a := by
  obtain ⟨sh, m, l, ft⟩ := g
  have h4 : ∀ q ∈ shapesS, (cs q.2).length ≤ 4 := by decide +kernel
  refine ⟨by rw [← l]; exact h4 _ m, fun a ma => ?_⟩
  obtain ⟨i, ei⟩ := List.getElem?_of_mem ma
  have li := (List.getElem?_eq_some_iff.mp ei).1
  exact ⟨_, ft i _ a (List.getElem?_eq_getElem (by rw [l]; exact li)) ei⟩
theorem ins_words {hid : Nat} {many p : Int} {x : Ins} (g : GoodI hid many p x) (hm : many ≤ 400) (hp : p ≤ 997) : ∀ w ∈ insW x, WordC w := by
  obtain ⟨l4, fa⟩ := good_args g
  obtain ⟨sh, m, _⟩ := g
  intro w mw
  rcases List.mem_cons.mp mw with e | mw
  · rw [e]; exact name_word (op_name _ m)
  · obtain ⟨a, ma, mw⟩ := List.mem_flatMap.mp mw
    obtain ⟨c, f⟩ := fa a ma
    exact (arg_words f hm hp).1 w mw
theorem ins_len {hid : Nat} {many p : Int} {x : Ins} (g : GoodI hid many p x) (hm : many ≤ 400) (hp : p ≤ 997) : (insW x).length ≤ 49 := by
  obtain ⟨l4, fa⟩ := good_args g
  have h : ∀ as : List Arg, (∀ a ∈ as, (argW a).length ≤ 12) → (as.flatMap argW).length ≤ 12 * as.length := by
    intro as
    induction as with
    | nil => intro _; exact Nat.le_refl _
    | cons a as ih =>
      intro h
      rw [List.flatMap_cons, List.length_append, List.length_cons]
      have h1 := h a List.mem_cons_self
      have h2 := ih fun b m => h b (List.mem_cons_of_mem _ m)
      omega
  have h1 := h x.2 fun a ma => by
    obtain ⟨c, f⟩ := fa a ma
    exact (arg_words f hm hp).2
  show (x.2.flatMap argW).length + 1 ≤ 49
  omega
theorem join_len : ∀ ws : List (List Nat), (∀ w ∈ ws, w.length ≤ 8) → (joinC ws).length ≤ 9 * ws.length
  | [], _ => Nat.le_refl _
  | [w], h => by
    have := h w List.mem_cons_self
    show w.length ≤ 9
    omega
  | w :: v :: r, h => by
    have ih := join_len (v :: r) fun u m => h u (List.mem_cons_of_mem _ m)
    have := h w List.mem_cons_self
    show (w ++ ([32] ++ joinC (v :: r))).length ≤ 9 * ((v :: r).length + 1)
    rw [List.length_append, List.length_append]
    show w.length + (1 + _) ≤ _
    omega
theorem mem_join {c : Nat} : ∀ {ps : List (List Nat)}, c ∈ joinC ps → c = 32 ∨ ∃ p ∈ ps, c ∈ p
  | [], h => by cases h
  | [p], h => .inr ⟨p, List.mem_cons_self, h⟩
  | p :: q :: r, h => by
    rcases List.mem_append.mp (show c ∈ p ++ ([32] ++ joinC (q :: r)) from h) with h | h
    · exact .inr ⟨p, List.mem_cons_self, h⟩
    · rcases List.mem_append.mp h with h | h
      · exact .inl (List.mem_singleton.mp h)
      · rcases mem_join h with h | ⟨x, hx, h⟩
        · exact .inl h
        · exact .inr ⟨x, List.mem_cons_of_mem _ hx, h⟩
theorem words_back {ws : List (List Nat)} (ne : ws ≠ []) (h : ∀ w ∈ ws, WordC w) : TL.spl [32] 0 [] (joinC ws) = ws := TL.spl_join ne fun w m => (h w m).no (by decide)
theorem join_no {ws : List (List Nat)} (h : ∀ w ∈ ws, WordC w) : 10 ∉ joinC ws := fun m => by
  rcases mem_join m with e | ⟨w, mw, m⟩
  · cases e
  · exact (h w mw).no (by decide) m
/-- what leads a row of words is no blank -/
theorem join_head {w : List Nat} {ws : List (List Nat)} (h : WordC w) : ∃ c r, joinC (w :: ws) = c :: r ∧ c ≠ 32 := by
  obtain ⟨c, w', rfl⟩ : ∃ c w', w = c :: w' := by
    cases w with
    | nil => have := h.1; simp at this
    | cons c w' => exact ⟨c, w', rfl⟩
  have hc : c ≠ 32 := by have := h.2.2 c List.mem_cons_self; omega
  cases ws with
  | nil => exact ⟨c, w', rfl, hc⟩
  | cons v r => exact ⟨c, w' ++ ([32] ++ joinC (v :: r)), rfl, hc⟩
theorem lines_join : ∀ L : List (List Nat), linesC L = TL.joinL [10] (L ++ [[]])
  | [] => rfl
  | [p] => by
    show (p ++ [10]) ++ [] = p ++ ([10] ++ [])
    rw [List.append_nil]; rfl
  | p :: q :: r => by
    have ih := lines_join (q :: r)
    have e : linesC (p :: q :: r) = (p ++ [10]) ++ linesC (q :: r) := List.flatMap_cons
    rw [e, ih, List.append_assoc]; rfl
theorem lines_split {L : List (List Nat)} (h : ∀ p ∈ L, 10 ∉ p) : TL.spl [10] 0 [] (linesC L) = L ++ [[]] := by
  rw [lines_join]
  exact TL.spl_join (by simp) fun p hp => by
    rcases List.mem_append.mp hp with m | m
    · exact h p m
    · rw [List.mem_singleton.mp m]; decide
theorem lines_len {L : List (List Nat)} {n : Nat} (h : ∀ p ∈ L, p.length ≤ n) : (linesC L).length ≤ (n + 1) * L.length := by
  induction L with
  | nil => exact Nat.zero_le _
  | cons p L ih =>
    have h1 := ih fun q m => h q (List.mem_cons_of_mem _ m)
    have h2 := h p List.mem_cons_self
    have e : linesC (p :: L) = (p ++ [10]) ++ linesC L := List.flatMap_cons
    rw [e, List.length_append, List.length_append]
    show p.length + 1 + (linesC L).length ≤ (n + 1) * (L.length + 1)
    rw [Nat.mul_add]
    omega
structure LineOk (a : List Nat) : Prop where
  len : a.length ≤ 500
  no : 10 ∉ a
theorem ins_line {hid : Nat} {many p : Int} {x : Ins} (g : GoodI hid many p x) (hm : many ≤ 400) (hp : p ≤ 997) : LineOk (insL x) := by
  have hw := ins_words g hm hp
  have hl := ins_len g hm hp
  refine ⟨?_, fun m => ?_⟩
  · have := join_len (insW x) fun w m => (hw w m).2.1
    show (joinC (insW x)).length + 1 + 1 ≤ 500
    omega
  · rcases List.mem_append.mp m with m | m
    · simp at m
    · exact join_no hw m
theorem words_line {ws : List (List Nat)} (h : ∀ w ∈ ws, WordC w) (l : ws.length ≤ 10) : LineOk (joinC ws) := by
  have := join_len ws fun w m => (h w m).2.1
  exact ⟨by omega, join_no h⟩
theorem head_words {hid : Nat} {p : Int} {d : Deed} (g : GoodD hid p d) : ∀ w ∈ headW d, WordC w := fun w m => by
  simp only [headW, List.mem_cons, List.not_mem_nil, or_false] at m
  rcases m with e | e | e
  · rw [e]; exact name_word (nameB_ok (by decide +kernel))
  · rw [e]; exact name_word g.name
  · have := g.many
    rw [e]; exact num_word (by omega)
theorem two_words {z : Str} (h : nameB z = true) {i : Int} (k : 0 ≤ i ∧ i ≤ 999) : ∀ w ∈ [cs z, numC i], WordC w := fun w m => by
  simp only [List.mem_cons, List.not_mem_nil, or_false] at m
  rcases m with e | e
  · rw [e]; exact name_word (nameB_ok h)
  · rw [e]; exact num_word k
theorem deed_lines {hid : Nat} {p : Int} {d : Deed} (g : GoodD hid p d) (hp : p ≤ 997) : ∀ a ∈ deedL d, LineOk a := fun a m => by
  have hl := g.len
  rcases List.mem_cons.mp m with e | m
  · rw [e]; exact words_line (head_words g) (by show 3 ≤ 10; decide)
  · rcases List.mem_append.mp m with m | m
    · obtain ⟨x, mx, rfl⟩ := List.mem_map.mp m
      exact ins_line (g.ins x mx) (by omega) hp
    · rw [List.mem_singleton.mp m]
      exact ⟨by decide +kernel, by decide +kernel⟩
theorem unit_lines {hid : Nat} {ds : List Deed} {p : Int} (g : GoodU hid ds p) : ∀ a ∈ unitL hid ds p, LineOk a := fun a m => by
  have h1 := g.prime
  have h2 := g.lid
  rcases List.mem_cons.mp m with e | m
  · rw [e]; exact words_line (two_words (by decide +kernel) ⟨by have := h1.1; omega, by have := h1.2.1; omega⟩) (by show 2 ≤ 10; decide)
  · rcases List.mem_cons.mp m with e | m
    · rw [e]; exact words_line (two_words (by decide +kernel) (by omega)) (by show 2 ≤ 10; decide)
    · obtain ⟨d, md, m⟩ := List.mem_flatMap.mp m
      exact deed_lines (g.good d md) h1.2.1 a m
theorem unit_many {hid : Nat} {ds : List Deed} {p : Int} (g : GoodU hid ds p) : (unitL hid ds p).length ≤ 2000 := by
  have h : ∀ ds : List Deed, (∀ d ∈ ds, GoodD hid p d) → (ds.flatMap deedL).length ≤ 402 * ds.length := by
    intro ds
    induction ds with
    | nil => intro _; exact Nat.le_refl _
    | cons d ds ih =>
      intro h
      have h1 := (h d List.mem_cons_self).len
      have h2 := ih fun e m => h e (List.mem_cons_of_mem _ m)
      rw [List.flatMap_cons, List.length_append, List.length_cons]
      have e : (deedL d).length = d.2.2.length + 1 + 1 := by
        show (d.2.2.map insL ++ [cs "end"]).length + 1 = _
        rw [List.length_append, List.length_map]; rfl
      omega
  have h1 := h ds g.good
  have h2 := g.len.2
  show (ds.flatMap deedL).length + 1 + 1 ≤ 2000
  omega
theorem pick_args {hid : Nat} {many p : Int} {args : List Arg} (g : GoodI hid many p ("pick", args)) : ∃ l, args = [.ways l] ∧ (1 ≤ l.length ∧ l.length ≤ 6) ∧ (∀ x ∈ l, NameS x.1 ∧ 0 ≤ x.2 ∧ x.2 < many) ∧ Ris (l.map (·.1)) := by
  obtain ⟨sh, m, l, ft⟩ := g
  have e : sh = "w" := by
    revert m
    simp only [shapesS, List.mem_cons, Prod.mk.injEq, List.not_mem_nil, or_false]
    intro m
    rcases m with ⟨e, h⟩ | ⟨e, h⟩ | ⟨e, h⟩ | ⟨e, h⟩ | ⟨e, h⟩ | ⟨e, h⟩ | ⟨e, h⟩ | ⟨e, h⟩ | ⟨e, h⟩ | ⟨e, h⟩ | ⟨e, h⟩ | ⟨e, h⟩ | ⟨e, h⟩ <;> first | exact h | exact absurd e (by decide)
  subst e
  match args, l with
  | [a], _ =>
    cases ft 0 119 a rfl rfl with
    | w h1 h2 h3 => exact ⟨_, rfl, h1, h2, h3⟩
/-- a text or a number -/
def Flat1 (a : Arg) : Prop := (∃ z, a = .w z ∧ NameS z) ∨ ∃ i, a = .n i ∧ 0 ≤ i ∧ i ≤ 999
theorem plain_args {hid : Nat} {many p : Int} {x : Ins} (g : GoodI hid many p x) (ne : ¬ x.1 = "pick") (hm : many ≤ 400) (hp : p ≤ 997) : ∀ a ∈ x.2, Flat1 a := by
  obtain ⟨sh, m, l, ft⟩ := g
  have no : ∀ q ∈ shapesS, ¬ q.1 = "pick" → 119 ∉ cs q.2 := by decide +kernel
  intro a ma
  obtain ⟨i, ei⟩ := List.getElem?_of_mem ma
  have li := (List.getElem?_eq_some_iff.mp ei).1
  have ec : (cs sh)[i]? = some ((cs sh)[i]'(by rw [l]; exact li)) := List.getElem?_eq_getElem _
  have mc := List.mem_of_getElem? ec
  have n9 := no _ m ne
  have f := ft i _ a ec ei
  generalize (cs sh)[i]'_ = c at *
  cases f with
  | u h => exact .inl ⟨_, rfl, known_name h⟩
  | n h => exact .inr ⟨_, rfl, by omega⟩
  | t h => exact .inr ⟨_, rfl, by omega⟩
  | m h => exact .inr ⟨_, rfl, by omega⟩
  | d h => exact .inl ⟨_, rfl, h⟩
  | w _ _ _ => exact absurd mc n9
local macro_rules | `(tactic| walk_at "ssz") => `(tactic| first | decide | exact str_small (by assumption) | (have : (1000000 : Nat) ≤ sizeLine := (by decide); omega))
local macro_rules | `(tactic| walk_at "st1") => `(tactic| first
  | with_reducible refine' r_nt ?_ | with_reducible refine' r_nf ?_
  | ((with_reducible refine r_lenS ?e1 ?_); (case e1 => walk_at "ssz"))
  | with_reducible refine r_inS ?_
  | with_reducible refine r_ninS ?_
  | ((with_reducible refine r_addS ?e1 ?_); (case e1 => walk_at "ssz"))
  | ((with_reducible refine' r_ixS ?e1 ?e2 ?_); (case e1 => walk_at "ssz"); (case e2 => first | assumption | rfl))
  | with_reducible refine r_istr ?_
  | with_reducible refine r_is ?_
  | with_reducible refine r_un ?_
  | with_reducible refine r_u ?_)
local macro_rules | `(tactic| walk_at "st1") => `(tactic| first
  | with_reducible refine r_tru ?_
  | ((with_reducible refine' r_truT ?e1 ?_); (case e1 => walk_at "sq"))
  | with_reducible refine r_isN ?_
  | with_reducible refine r_tyS ?_
  | with_reducible refine r_m1 ?_
  | with_reducible refine r_sx ?_
  | ((with_reducible refine r_strC ?e1 ?_); (case e1 => omega)))
local macro_rules | `(tactic| walk_at "st1") => `(tactic| first
  | with_reducible refine r_par ?_
  | with_reducible refine r_parx ?_
  | ((with_reducible refine' r_gtup ?e1 ?e2 ?_); (case e1 => walk_at "sq"); (case e2 => rfl))
  | with_reducible refine r_gcons ?_
  | with_reducible refine r_gnil ?_
  | with_reducible refine r_ient ?_
  | ((with_reducible refine' r_ent ?e1 ?_); (case e1 => walk_at "sq")))
local macro_rules | `(tactic| walk_at "st1") => `(tactic| first
  | with_reducible refine' r_nt ?_
  | with_reducible refine' r_nf ?_
  | with_reducible refine r_un ?_
  | with_reducible refine r_u ?_)
local macro_rules | `(tactic| walk_at "st1") => `(tactic| first
  | with_reducible refine r_fld ?_
  | with_reducible refine r_sfld ?_
  | ((with_reducible refine' r_fldr ?e1 ?e2 ?e3 ?e4 ?_); (case e1 => walk_at "hl"); (case e2 => assumption); (case e3 => assumption); (case e4 => assumption)))
/-! ### [x for a in as for x in a] -/
section
variable {σ σ2 : L2.St} {H : Hp} {Q : VK}
def LcI (J1 : It) (g1 : TG) (tt1 : TT) (te : TE) (vs1 : List Nat) (σ2 : L2.St) (D : Addr) (Nx : Hp → Prop) (H4 : Hp) : Prop := ∃ W1 : Nat → Nat → Hp → Prop, (∃ m, W1 0 m H4) ∧ ∀ j k H, W1 j k H →
  (J1.stop j H ∧ Nx H) ∨ (J1.go j H ∧ ∃ Nx1 : Hp → Prop, (∀ H', Nx1 H' → ∃ k', k' < k ∧ W1 (j + 1) k' H') ∧ ∀ x H', J1.yld j H x H' → g1 x (wipe σ2 vs1) H' fun σ3 H5 => wipe σ3 vs1 = wipe σ2 vs1 ∧ tt1 σ3 H5 fun b H6 =>
    if b = true then te σ3 H6 fun y H7 => ∃ acc, H7 D = some (.lst acc) ∧ acc.length < sizeLine ∧ Nx1 (upd H7 D (.lst (acc ++ [y]))) else Nx1 H6)
def LcO (J : It) (g : TG) (tt : TT) (wi1 : TI) (g1 : TG) (tt1 : TT) (te : TE) (vs vs1 : List Nat) (σ : L2.St) (D : Addr) (Q : VK) (H1 : Hp) : Prop := ∃ W : Nat → Nat → Hp → Prop, (∃ m, W 0 m (upd H1 D (.lst []))) ∧ ∀ i m H, W i m H →
  (J.stop i H ∧ Q (.ref D) H) ∨ (J.go i H ∧ ∃ Nx : Hp → Prop, (∀ H', Nx H' → ∃ m', m' < m ∧ W (i + 1) m' H') ∧ ∀ x H', J.yld i H x H' → g x (wipe σ vs) H' fun σ2 H2 => wipe σ2 vs = wipe σ vs ∧ tt σ2 H2 fun b H3 =>
    if b = true then wi1 σ2 H3 fun J1 H4 => LcI J1 g1 tt1 te vs1 σ2 D Nx H4 else Nx H3)
theorem r_lc2 {wi : TI} {g : TG} {tt : TT} {wi1 : TI} {g1 : TG} {tt1 : TT} {te : TE} {vs vs1 : List Nat} (h : wi σ H fun J H1 => ∀ D, H1 D = none → LcO J g tt wi1 g1 tt1 te vs vs1 σ D Q H1) : tLc2 wi g tt wi1 g1 tt1 te vs vs1 σ H Q := h
theorem lco_by {J : It} {n : Nat} {G : Hp → Prop} {Yd : Nat → Hp → V → Hp → Prop} (w : Walk J n G Yd) {g : TG} {tt : TT} {wi1 : TI} {g1 : TG} {tt1 : TT} {te : TE} {vs vs1 : List Nat} {D : Addr} (Pv : Nat → Hp → Prop) (h0 : Pv 0 (upd H D (.lst []))) (hG : ∀ i H, i ≤ n → Pv i H → G H)
    (hs : ∀ i x H H', i < n → Pv i H → Yd i H x H' → g x (wipe σ vs) H' fun σ2 H2 => wipe σ2 vs = wipe σ vs ∧ tt σ2 H2 fun b H3 => if b = true then wi1 σ2 H3 fun J1 H4 => LcI J1 g1 tt1 te vs1 σ2 D (Pv (i + 1)) H4 else Pv (i + 1) H3) (hd : ∀ H, Pv n H → Q (.ref D) H) : LcO J g tt wi1 g1 tt1 te vs vs1 σ D Q H := by
  refine ⟨fun i m H => m = n - i ∧ i ≤ n ∧ Pv i H, ⟨n, by simp, Nat.zero_le _, h0⟩, ?_⟩
  rintro i m H ⟨rfl, hi, p⟩
  by_cases hlt : i < n
  · exact .inr ⟨w.goes i H hlt (hG i H hi p), Pv (i + 1), fun H' p' => ⟨n - (i + 1), by omega, rfl, hlt, p'⟩, fun x H' y => hs i x H H' hlt p (w.yields i H x H' hlt (hG i H hi p) y)⟩
  · have e : i = n := by omega
    subst e
    exact .inl ⟨w.stops H (hG _ H hi p), hd H p⟩
theorem lci_by {J : It} {n : Nat} {G : Hp → Prop} {Yd : Nat → Hp → V → Hp → Prop} (w : Walk J n G Yd) {g1 : TG} {tt1 : TT} {te : TE} {vs1 : List Nat} {D : Addr} {Nx : Hp → Prop} (Pv : Nat → Hp → Prop) (h0 : Pv 0 H) (hG : ∀ i H, i ≤ n → Pv i H → G H)
    (hs : ∀ i x H H', i < n → Pv i H → Yd i H x H' → LcT g1 tt1 te vs1 σ2 x H' (fun y H4 => ∃ acc, H4 D = some (.lst acc) ∧ acc.length < sizeLine ∧ Pv (i + 1) (upd H4 D (.lst (acc ++ [y])))) (fun H3 => Pv (i + 1) H3)) (hd : ∀ H, Pv n H → Nx H) : LcI J g1 tt1 te vs1 σ2 D Nx H := by
  refine ⟨fun i m H => m = n - i ∧ i ≤ n ∧ Pv i H, ⟨n, by simp, Nat.zero_le _, h0⟩, ?_⟩
  rintro i m H ⟨rfl, hi, p⟩
  by_cases hlt : i < n
  · exact .inr ⟨w.goes i H hlt (hG i H hi p), Pv (i + 1), fun H' p' => ⟨n - (i + 1), by omega, rfl, hlt, p'⟩, fun x H' y => hs i x H H' hlt p (w.yields i H x H' hlt (hG i H hi p) y)⟩
  · have e : i = n := by omega
    subst e
    exact .inl ⟨w.stops H (hG _ H hi p), hd H p⟩
end
/-! ### a unit is written -/
def rStrV : List V → Hp → VK → Prop := fun xs H Q => rStrOf xs H Q ∨ ∃ a, xs = [.str a] ∧ Q (.str a) H
theorem cr_strV {X : Cx} : CallR X (.type "str") rStrV := cr_strOf.or SkE.call_str_str
theorem Sx_app (a b : List Nat) : Sx a ++ Sx b = Sx (a ++ b) := cs_inj (by rw [cs_append]; rfl)
theorem join_words (ws : List (List Nat)) : Txt.join (Str.ofString " ") (ws.map Sx) = Sx (joinC ws) := by
  rw [show Str.ofString " " = SX.S [32] from rfl]
  exact SX.join_S [32] ws
theorem sum_words : ∀ ws : List (List Nat), (∀ w ∈ ws, w.length ≤ 8) → ((ws.map Sx).map (·.length)).sum ≤ 8 * ws.length
  | [], _ => Nat.le_refl _
  | w :: ws, h => by
    have ih := sum_words ws fun v m => h v (List.mem_cons_of_mem _ m)
    have := h w List.mem_cons_self
    rw [List.map_cons, List.map_cons, List.sum_cons, Sx_len, List.length_cons]
    omega
def oneW : Arg → List Nat
  | .w z => cs z
  | .n i => numC i
  | .ways _ => []
theorem flat_eq {as : List Arg} (h : ∀ a ∈ as, Flat1 a) : as.flatMap argW = as.map oneW := by
  induction as with
  | nil => rfl
  | cons a as ih =>
    rw [List.flatMap_cons, List.map_cons, ih fun b m => h b (List.mem_cons_of_mem _ m)]
    rcases h a List.mem_cons_self with ⟨z, rfl, _⟩ | ⟨i, rfl, _⟩ <;> rfl
theorem flat_at {as : List Arg} (h : ∀ a ∈ as, Flat1 a) {i : Nat} {a : Arg} (e : as[i]? = some a) : (as.flatMap argW)[i]? = some (oneW a) := by rw [flat_eq h, List.getElem?_map, e]; rfl
theorem flat_len {as : List Arg} (h : ∀ a ∈ as, Flat1 a) : (as.flatMap argW).length = as.length := by rw [flat_eq h, List.length_map]
def wordsV (ws : List (List Nat)) : List V := ws.map fun w => V.str (Sx w)
def sp_words_row (_ : PySem.W.Frag) : Sp := fun vs H Q _ => ∃ (l : Addr) (ws : List (List Nat)), vs = [.ref l, .int 1] ∧ H l = some (.lst (wordsV ws)) ∧ (∀ w ∈ ws, w.length ≤ 8) ∧ ws.length ≤ 49 ∧ Q (.str (Sx ([32, 32] ++ joinC ws))) H
def sp_words_of (_ : PySem.W.Frag) : Sp := fun vs H Q _ => ∃ (v : V) (hid : Nat) (many p : Int) (x : Ins), vs = [v] ∧ InsV H v x ∧ GoodI hid many p x ∧ (many ≤ 400 ∧ p ≤ 997) ∧ ∀ l H', Same H H' → H' l = some (.lst (wordsV (insW x))) → Q (.ref l) H'
section
variable {P : Program} {w : World} {K : PySem.W.Frag} {mg : Str → Option Value} {base : Heap}
theorem ok_words_row {c_Coded : Addr} {c_Machine : Addr} {c_CodeReader : Addr} {c_REGISTERS : Addr} {c_CELLS : Addr} {c_SHAPES : Addr} (T : Tx K mg c_Coded c_Machine c_CodeReader c_REGISTERS c_CELLS c_SHAPES w)  {f : Addr} {fd : FuncData} (F : Here K mg "words_row" s_words_row ["words", "depth"] f fd) : Cal P w K mg base "words_row" 1 ["words", "depth"] (sp_words_row K) s_words_row f fd := by
  refine F.cal sc_words_row (fun vs H Q E h => ?_) (fun cdv A outer s H vs Q E hr h => ?_)
  · obtain ⟨l, ws, rfl, _⟩ := h
    rfl
  · obtain ⟨l, ws, rfl, hl, h8, hn, q⟩ := h
    refine ⟨_, (pss_one (ps_ret (pe_op op_addS (pe_op op_mulS1 pe_str (pv 1)) (castM1 (K := K) (pe_join pe_str (pv 0)))))), ?_⟩
    walk_at "st"
    refine ⟨_, rfl, rfl, by decide, ?_⟩
    walk_at "st"
    have sm := sum_words ws h8
    refine r_joinS (ys := ws.map Sx) (SqL.of (by rw [hl, List.map_map]; rfl)) ?_ ?_
    · rw [List.length_map]
      show _ + ws.length * 1 ≤ _
      omega
    rw [join_words]
    have jl := join_len ws h8
    refine r_addS (by rw [Sx_len]; exact Nat.le_trans (show 2 + (joinC ws).length ≤ 1000 by omega) (by decide)) ?_
    rw [show Str.ofString "  " = Sx [32, 32] from rfl, Sx_app]
    exact q
theorem ok_words_of {c_Coded : Addr} {c_Machine : Addr} {c_CodeReader : Addr} {c_REGISTERS : Addr} {c_CELLS : Addr} {c_SHAPES : Addr} (T : Tx K mg c_Coded c_Machine c_CodeReader c_REGISTERS c_CELLS c_SHAPES w)  {f : Addr} {fd : FuncData} (F : Here K mg "words_of" s_words_of ["step"] f fd) : Cal P w K mg base "words_of" 1 ["step"] (sp_words_of K) s_words_of f fd := by
  refine F.cal sc_words_of (fun vs H Q E h => ?_) (fun cdv A outer s H vs Q E hr h => ?_)
  · obtain ⟨v, hid, many, p, x, rfl, _⟩ := h
    rfl
  · obtain ⟨v, hid, many, p, x, rfl, ⟨t, us, rfl, ht, al⟩, g, hmp, q⟩ := h
    refine ⟨_, (pss_cons (ps_if (pt_cmpR op_eq (pe_ix (ix_tupK (K := K)) (pv 0) pe_int (fun _ _ => rfl)) pe_str (nomark _)) (pss_one (ps_ret (pe_op op_cat (pe_lst (pa_cons pe_str pa_nil)) (pe_lc2 (vs1 := [2]) rfl sc_words_of.nd (pi_tupK (K := K) (pe_ix (ix_tupK (K := K)) (pv 0) pe_int (fun _ _ => rfl))) (blkOk_by (own := [("way", 1), ("thing", 2)]) (N := ["step", "way", "thing"]) (sc := (defScope s_words_of)) (by decide +kernel)) (by decide) (fun _ _ _ _ _ => (pg_name (i := 1) sc_words_of.nd rfl (by first | exact .inl rfl | exact .inr rfl))) (fun _ _ _ _ _ => pts_nil) (fun _ _ _ _ _ => (pi_tupK (K := K) (pv 1))) (fun _ _ _ _ _ => (pg_name (i := 2) sc_words_of.nd rfl (by first | exact .inl rfl | exact .inr rfl))) (fun _ _ _ _ _ => pts_nil) (fun _ _ _ _ _ => (pe_callTy cr_strV (by rfl) T.m_str (by decide +kernel) (pa_cons (pv 2) pa_nil))))))) pss_nil)
      (pss_one (ps_ret (pe_lc rfl sc_words_of.nd (pi_tupK (K := K) (pv 0)) (blkOk_by (own := [("thing", 2)]) (N := ["step", "way", "thing"]) (sc := (defScope s_words_of)) (by decide +kernel)) (fun _ _ _ _ _ => (pg_name (i := 2) sc_words_of.nd rfl (by first | exact .inl rfl | exact .inr rfl))) (fun _ _ _ _ _ => pts_nil) (fun _ _ _ _ _ => (pe_callTy cr_strV (by rfl) T.m_str (by decide +kernel) (pa_cons (pv 2) pa_nil))))))), ?_⟩
    have ix0 : atI (V.str x.1 :: us) 0 = some (.str x.1) := (show atI _ ((0 : Nat) : Int) = _ from atI_nat rfl)
    walk_at "st"
    walk_at "if"
    have dstr : decide (V.str x.1 = V.str (Str.ofString "pick")) = decide (x.1 = "pick") := decide_eq_decide.mpr ⟨fun e => by injection e, fun e => by rw [e]⟩
    rw [dstr]
    by_cases c1 : x.1 = "pick"
    · rw [decide_eq_true c1, if_pos rfl]
      walk_at "st"
      intro l1 hl1
      have s1 := Same.upd_new (x := .lst [V.str "pick"]) hl1
      have el1 : upd H l1 (.lst [V.str "pick"]) l1 = some (.lst [V.str "pick"]) := upd_same
      generalize upd H l1 (.lst [V.str "pick"]) = H1 at *
      obtain ⟨op, args⟩ := x
      obtain rfl : op = "pick" := c1
      obtain ⟨wl, ea, hwl, hws, _⟩ := pick_args g
      obtain rfl : args = [.ways wl] := ea
      obtain ⟨u0, rfl⟩ : ∃ u, us = [u] := by
        match us, al.1 with
        | [u], _ => exact ⟨u, rfl⟩
      obtain ⟨tw, uw, rfl, htw, alw⟩ := al.tail.1
      have ix1 : atI [V.str (Str.ofString "pick"), V.ref tw] 1 = some (.ref tw) := (show atI _ ((1 : Nat) : Int) = _ from atI_nat rfl)
      have ht1 := s1 _ _ ht
      have htw1 := s1 _ _ htw
      refine r_lc2 ?_
      walk_at "st"
      intro D hD
      refine lco_by (walk_tup (a := tw) (xs := uw)) (fun i H' => Same H1 H' ∧ H' D = some (.lst (wordsV ((wl.take i).flatMap fun x => [cs x.1, numC x.2])))) ⟨Same.upd_new hD, upd_same⟩ (fun i H' _ p => SqT.of (p.1 _ _ htw1)) (fun i x' H2 H2' hi p y => ?_) (fun H2 p => ?_)
      · obtain ⟨s2, eD⟩ := p
        obtain ⟨rfl, ex⟩ := y
        obtain ⟨xw, ew, tx, rfl, htx⟩ := alw.2 i x' ex
        have hx := hws xw (List.mem_of_getElem? ew)
        have htx2 := s2 _ _ (s1 _ _ htx)
        have wk : (wl.take (i + 1)).flatMap (fun x => [cs x.1, numC x.2]) = (wl.take i).flatMap (fun x => [cs x.1, numC x.2]) ++ [cs xw.1, numC xw.2] := by
          rw [List.take_succ, ew, List.flatMap_append]; simp
        have lw : (wordsV ((wl.take i).flatMap fun x => [cs x.1, numC x.2])).length ≤ 12 := by
          have e : ∀ l : List (Str × Int), (l.flatMap fun x => [cs x.1, numC x.2]).length = 2 * l.length := by
            intro l
            induction l with
            | nil => rfl
            | cons x l ih => rw [List.flatMap_cons, List.length_append, ih, List.length_cons]; show 2 + 2 * l.length = 2 * (l.length + 1); omega
          unfold wordsV
          rw [List.length_map, e, List.length_take]
          omega
        refine ⟨rfl, ?_⟩
        walk_at "st"
        refine lci_by (walk_tup (a := tx) (xs := [V.str xw.1, .int xw.2])) (fun j H' => Same H1 H' ∧ H' D = some (.lst (wordsV ((wl.take i).flatMap (fun x => [cs x.1, numC x.2]) ++ [cs xw.1, numC xw.2].take j)))) ⟨s2, by rw [List.take_zero, List.append_nil]; exact eD⟩ (fun j H' _ p => SqT.of (p.1 _ _ (s1 _ _ htx))) (fun j x' H3 H3' hj p y => ?_) (fun H3 p => ?_)
        · obtain ⟨s3, eD3⟩ := p
          obtain ⟨rfl, ex⟩ := y
          refine ⟨rfl, ?_⟩
          have fin : ∀ (w : List Nat), [cs xw.1, numC xw.2][j]? = some w → ∃ acc, H3' D = some (.lst acc) ∧ acc.length < sizeLine ∧ Same H1 (upd H3' D (.lst (acc ++ [V.str (Sx w)]))) ∧ upd H3' D (.lst (acc ++ [V.str (Sx w)])) D = some (.lst (wordsV ((wl.take i).flatMap (fun x => [cs x.1, numC x.2]) ++ [cs xw.1, numC xw.2].take (j + 1)))) := fun w ew => by
            refine ⟨_, eD3, ?_, fun b o e => hl_set (ne_of_none e hD) (s3 _ _ e), ?_⟩
            · unfold wordsV at lw ⊢
              rw [List.length_map] at lw ⊢
              rw [List.length_append]
              have h2 : ([cs xw.1, numC xw.2].take j).length ≤ 2 := by rw [List.length_take]; exact Nat.min_le_right _ _
              exact Nat.lt_of_lt_of_le (show _ < 1000 by omega) (by decide)
            · rw [upd_same, List.take_succ, ew, ← List.append_assoc]
              unfold wordsV
              rw [List.map_append, List.map_append, List.map_append]; rfl
          have hj2 : j = 0 ∨ j = 1 := by have : j < 2 := hj; omega
          rcases hj2 with rfl | rfl
          · obtain rfl := Option.some.inj ex
            walk_at "st"
            exact .inr ⟨_, rfl, by have := fin (cs xw.1) rfl; rw [Sx_cs] at this; exact this⟩
          · obtain rfl := Option.some.inj ex
            walk_at "st"
            exact .inl ⟨_, rfl, log_small hx.2.1 (by omega), by rw [numC_of hx.2.1]; exact fin (numC xw.2) rfl⟩
        · obtain ⟨s3, eD3⟩ := p
          refine ⟨s3, ?_⟩
          rw [wk]; exact eD3
      · obtain ⟨s2, eD⟩ := p
        rw [alw.1, List.take_length] at eD
        have lw : (wordsV (wl.flatMap fun x => [cs x.1, numC x.2])).length ≤ 12 := by
          have e : ∀ l : List (Str × Int), (l.flatMap fun x => [cs x.1, numC x.2]).length = 2 * l.length := by
            intro l
            induction l with
            | nil => rfl
            | cons x l ih => rw [List.flatMap_cons, List.length_append, ih, List.length_cons]; show 2 + 2 * l.length = 2 * (l.length + 1); omega
          unfold wordsV
          rw [List.length_map, e]
          omega
        refine r_catL (s2 _ _ el1) eD (by show 1 + _ ≤ _; omega) fun l2 hl2 => ?_
        refine q l2 _ ((s1.trans s2).trans (Same.upd_new hl2)) ?_
        rw [upd_same]
        show _ = some (HO.lst (wordsV (cs "pick" :: ([Arg.ways wl].flatMap argW))))
        rw [List.flatMap_cons, List.flatMap_nil, List.append_nil]
        rfl
    · rw [decide_eq_false c1, if_neg (by decide)]
      walk_at "st"
      have fa := plain_args g c1 hmp.1 hmp.2
      have l4 := (good_args g).1
      intro D hD
      refine lc_map (walk_tup (a := t) (xs := V.str x.1 :: us)) (by rw [List.length_cons, al.1]; omega) hD (fun i y _ => ∃ w, (insW x)[i]? = some w ∧ y = V.str (Sx w)) (fun _ _ _ _ h _ => h) (fun _ _ _ _ _ h _ => h) (fun H' k => SqT.of (k _ _ ht)) (fun i H1 x H2 y => by rw [y.1]; exact Same.refl _)
        (fun i x' H1 H2 Y No hi s1 y hY => ?_) (fun ys H1 ely s1 eD hys => ?_)
      · obtain ⟨rfl, ex⟩ := y
        refine ⟨rfl, ?_⟩
        walk_at "st"
        cases i with
        | zero =>
          obtain rfl := Option.some.inj (show some (V.str x.1) = some x' from ex)
          exact .inr ⟨_, rfl, hY _ _ (Same.refl _) ⟨cs x.1, rfl, by rw [Sx_cs]⟩⟩
        | succ i =>
          obtain ⟨a, ea, av⟩ := al.2 i x' (by simpa using ex)
          have ef : (insW x)[i + 1]? = (x.2.flatMap argW)[i]? := by unfold insW; simp
          rw [flat_at fa ea] at ef
          rcases fa a (List.mem_of_getElem? ea) with ⟨z, rfl, _⟩ | ⟨k, rfl, hk⟩
          · obtain rfl : x' = .str z := av
            exact .inr ⟨_, rfl, hY _ _ (Same.refl _) ⟨_, ef, by rw [show oneW (Arg.w z) = cs z from rfl, Sx_cs]⟩⟩
          · obtain rfl : x' = .int k := av
            exact .inl ⟨_, rfl, log_small hk.1 (by omega), by rw [numC_of hk.1]; exact hY _ _ (Same.refl _) ⟨_, ef, rfl⟩⟩
      · refine q D H1 s1 ?_
        rw [eD]
        congr 2
        apply List.ext_getElem?
        intro i
        have len : (insW x).length = ys.length := by rw [ely, List.length_cons, al.1]; unfold insW; rw [List.length_cons, flat_len fa]
        unfold wordsV
        rw [List.getElem?_map]
        cases e2 : ys[i]? with
        | none =>
          rw [List.getElem?_eq_none_iff] at e2
          rw [List.getElem?_eq_none_iff.mpr (by omega)]; rfl
        | some y =>
          obtain ⟨w, ew, rfl⟩ := hys i y e2
          rw [ew]; rfl
end
local macro_rules | `(tactic| walk_at "ssz") => `(tactic| first | decide | exact str_small (by assumption) | (have : (1000000 : Nat) ≤ sizeLine := (by decide); omega))
local macro_rules | `(tactic| walk_at "st1") => `(tactic| first
  | with_reducible refine' r_nt ?_ | with_reducible refine' r_nf ?_
  | ((with_reducible refine r_lenS ?e1 ?_); (case e1 => walk_at "ssz"))
  | with_reducible refine r_inS ?_
  | with_reducible refine r_ninS ?_
  | ((with_reducible refine r_addS ?e1 ?_); (case e1 => walk_at "ssz"))
  | ((with_reducible refine' r_ixS ?e1 ?e2 ?_); (case e1 => walk_at "ssz"); (case e2 => first | assumption | rfl))
  | with_reducible refine r_istr ?_
  | with_reducible refine r_is ?_
  | with_reducible refine r_un ?_
  | with_reducible refine r_u ?_)
local macro_rules | `(tactic| walk_at "st1") => `(tactic| first
  | with_reducible refine r_tru ?_
  | ((with_reducible refine' r_truT ?e1 ?_); (case e1 => walk_at "sq"))
  | with_reducible refine r_isN ?_
  | with_reducible refine r_tyS ?_
  | with_reducible refine r_m1 ?_
  | with_reducible refine r_sx ?_
  | ((with_reducible refine r_strC ?e1 ?_); (case e1 => omega)))
local macro_rules | `(tactic| walk_at "st1") => `(tactic| first
  | with_reducible refine r_par ?_
  | with_reducible refine r_parx ?_
  | ((with_reducible refine' r_gtup ?e1 ?e2 ?_); (case e1 => walk_at "sq"); (case e2 => rfl))
  | with_reducible refine r_gcons ?_
  | with_reducible refine r_gnil ?_
  | with_reducible refine r_ient ?_
  | ((with_reducible refine' r_ent ?e1 ?_); (case e1 => walk_at "sq")))
local macro_rules | `(tactic| walk_at "st1") => `(tactic| first
  | with_reducible refine' r_nt ?_
  | with_reducible refine' r_nf ?_
  | with_reducible refine r_un ?_
  | with_reducible refine r_u ?_)
local macro_rules | `(tactic| walk_at "st1") => `(tactic| first
  | with_reducible refine r_fld ?_
  | with_reducible refine r_sfld ?_
  | ((with_reducible refine' r_fldr ?e1 ?e2 ?e3 ?e4 ?_); (case e1 => walk_at "hl"); (case e2 => assumption); (case e3 => assumption); (case e4 => assumption)))
def sp_coded_text (_ : PySem.W.Frag) (C : Addr) : Sp := fun vs H Q _ => ∃ (x : Addr) (hid : Nat) (ds : List Deed) (p : Int), vs = [.ref x] ∧ CodV C H x hid ds p ∧ ∀ H', Same H H' → Q (.str (Sx (linesC (unitL hid ds p)))) H'
theorem lenA {a b : List Nat} {n m k : Nat} (h1 : a.length ≤ n) (h2 : b.length ≤ m) (h : n + m ≤ k := by decide) : (a ++ b).length ≤ k := by
  rw [List.length_append]; omega
def FmtR (Q : VK) (x : V) (H1 : Hp) : Prop := (∃ y : Str, x = .str y ∧ y.length ≤ sizeLine ∧ Q (.str y) H1) ∨ ∃ i : Int, x = .int i ∧ i.natAbs.log2 < 1920 ∧ Q (.str (toString i)) H1
theorem r_fmt {te : TE} {σ : L2.St} {H : Hp} {Q : VK} (h : te σ H (FmtR Q)) : tFmt te σ H Q := h
theorem r_fmI {k : Int} {H : Hp} {Q : VK} (h : 0 ≤ k ∧ k ≤ 999) (q : Q (.str (Sx (numC k))) H) : FmtR Q (.int k) H := .inr ⟨k, rfl, log_small h.1 (by omega), by rw [numC_of h.1]; exact q⟩
theorem r_fmS {z : Str} {H : Hp} {Q : VK} (h : z.length ≤ 1000) (q : Q (.str z) H) : FmtR Q (.str z) H := .inl ⟨z, rfl, Nat.le_trans h (by decide), q⟩
def MthR (C : Addr) (m : Str) (sp : Sp) (dvs : List V) (E : XK) (t : TA) (σ : L2.St) (Q : VK) (x : V) (H1 : Hp) : Prop := ∃ a dx fs, x = .ref a ∧ H1 a = some (.ins C dx fs) ∧ fs.lookup m = none ∧ t σ H1 fun vs H2 => sp (x :: (vs ++ dvs)) H2 Q E
theorem r_mth {C : Addr} {m : Str} {sp : Sp} {dvs : List V} {E : XK} {ta : TE} {t : TA} {σ : L2.St} {H : Hp} {Q : VK} (h : ta σ H (MthR C m sp dvs E t σ Q)) : tMeth C m sp dvs E ta t σ H Q := h
theorem r_mthC {C x : Addr} {m : Str} {sp : Sp} {dvs : List V} {E : XK} {t : TA} {σ : L2.St} {H : Hp} {Q : VK} {hid : Nat} {ds : List Deed} {p : Int} (cv : CodV C H x hid ds p) (h1 : ¬ m = "_asks") (h2 : ¬ m = "_prime") (h3 : ¬ m = "_deeds") (h4 : ¬ m = "_hidden") (q : t σ H fun vs H2 => sp (.ref x :: (vs ++ dvs)) H2 Q E) : MthR C m sp dvs E t σ Q (.ref x) H := by
  obtain ⟨dx, dv, av, hx, _⟩ := cv
  exact ⟨x, dx, _, rfl, hx, cod_no _ _ _ _ h1 h2 h3 h4, q⟩
def JsR (ts : List TE) (a : List Nat) (σ : L2.St) (R : Str → Hp → Prop) (x : V) (H1 : Hp) : Prop := ∃ y : Str, x = .str y ∧ (Sx a ++ y).length ≤ sizeLine ∧ tJs ts (Sx a ++ y) σ H1 R
theorem r_js {t : TE} {ts : List TE} {a : List Nat} {σ : L2.St} {H : Hp} {R : Str → Hp → Prop} (h : t σ H (JsR ts a σ R)) : tJs (t :: ts) (Sx a) σ H R := h
theorem r_jx {ts : List TE} {a b : List Nat} {σ : L2.St} {H : Hp} {R : Str → Hp → Prop} (l : (a ++ b).length ≤ 1000) (h : tJs ts (Sx (a ++ b)) σ H R) : JsR ts a σ R (.str (Sx b)) H := ⟨Sx b, rfl, by rw [Sx_app, Sx_len]; exact Nat.le_trans l (by decide), by rw [Sx_app]; exact h⟩
theorem r_jn {acc : Str} {σ : L2.St} {H : Hp} {R : Str → Hp → Prop} (h : R acc H) : tJs [] acc σ H R := h
local macro_rules | `(tactic| walk_at "st1") => `(tactic| first
  | with_reducible refine r_fmt ?_
  | with_reducible refine r_mth ?_
  | ((with_reducible refine' r_mthC ?e0 ?e1 ?e2 ?e3 ?e4 ?_); (case e0 => assumption); (case e1 => decide); (case e2 => decide); (case e3 => decide); (case e4 => decide)))
section
variable {P : Program} {w : World} {K : PySem.W.Frag} {mg : Str → Option Value} {base : Heap}
theorem ok_coded_text {c_Coded : Addr} {c_Machine : Addr} {c_CodeReader : Addr} {c_REGISTERS : Addr} {c_CELLS : Addr} {c_SHAPES : Addr} (T : Tx K mg c_Coded c_Machine c_CodeReader c_REGISTERS c_CELLS c_SHAPES w) {f_Coded_deeds : Addr} {fd_Coded_deeds : FuncData} (C_Coded_deeds : CalM P w K mg base c_Coded "deeds" 1 ["self"] (sp_Coded_deeds K c_Coded) s_Coded_deeds f_Coded_deeds fd_Coded_deeds) {f_Coded_prime : Addr} {fd_Coded_prime : FuncData} (C_Coded_prime : CalM P w K mg base c_Coded "prime" 1 ["self"] (sp_Coded_prime K c_Coded) s_Coded_prime f_Coded_prime fd_Coded_prime) {f_Coded_hidden : Addr} {fd_Coded_hidden : FuncData} (C_Coded_hidden : CalM P w K mg base c_Coded "hidden" 1 ["self"] (sp_Coded_hidden K c_Coded) s_Coded_hidden f_Coded_hidden fd_Coded_hidden) {f_words_row : Addr} {fd_words_row : FuncData} (C_words_row : Cal P w K mg base "words_row" 1 ["words", "depth"] (sp_words_row K) s_words_row f_words_row fd_words_row) {f_words_of : Addr} {fd_words_of : FuncData} (C_words_of : Cal P w K mg base "words_of" 1 ["step"] (sp_words_of K) s_words_of f_words_of fd_words_of) {f : Addr} {fd : FuncData} (F : Here K mg "coded_text" s_coded_text ["unit"] f fd) : Cal P w K mg base "coded_text" 2 ["unit"] (sp_coded_text K c_Coded) s_coded_text f fd := by
  refine F.cal sc_coded_text (fun vs H Q E h => ?_) (fun cdv A outer s H vs Q E hr h => ?_)
  · obtain ⟨x, hid, ds, p, rfl, _⟩ := h
    rfl
  · obtain ⟨x, hid, ds, p, rfl, cv, q⟩ := h
    have g : GoodU hid ds p := by obtain ⟨_, _, _, _, _, _, g⟩ := cv; exact g
    refine ⟨_, (pss_cons (ps_set (i := 1) sc_coded_text.nd rfl (by first | exact .inl rfl | exact .inr rfl) (pe_lst (pa_cons (pe_joined (.cons pe_str (.cons (pe_fmt (pe_meth0 (pv 0) T.cl_Coded C_Coded_prime.me C_Coded_prime.ok (hr.mono (by decide)) C_Coded_prime.b .nil pass0)) .nil))) (pa_cons (pe_joined (.cons pe_str (.cons (pe_fmt (pe_meth0 (pv 0) T.cl_Coded C_Coded_hidden.me C_Coded_hidden.ok (hr.mono (by decide)) C_Coded_hidden.b .nil pass0)) .nil))) pa_nil))))
      (pss_cons (ps_for PassesOwn.never rfl (pi_tupK (K := K) (pe_meth0 (pv 0) T.cl_Coded C_Coded_deeds.me C_Coded_deeds.ok (hr.mono (by decide)) C_Coded_deeds.b .nil pass0)) (castPG (K := K) (n := 3) (pg_tup rfl (pgs_cons (pg_name (i := 2) sc_coded_text.nd rfl (by first | exact .inl rfl | exact .inr rfl)) (pgs_cons (pg_name (i := 3) sc_coded_text.nd rfl (by first | exact .inl rfl | exact .inr rfl)) (pgs_cons (pg_name (i := 4) sc_coded_text.nd rfl (by first | exact .inl rfl | exact .inr rfl)) pgs_nil))))) (pss_cons (ps_expr (castBM (K := K) (pe_bm PySem.F.plainAttrs_list PySem.F.slot_list_append PySem.F.type_list_append mt_append (pv 1) (pa_cons (pe_joined (.cons pe_str (.cons (pe_fmt (pv 2)) (.cons pe_str (.cons (pe_fmt (pv 3)) .nil))))) pa_nil))))
      (pss_cons (ps_expr (castBM (K := K) (pe_bm PySem.F.plainAttrs_list PySem.F.slot_list_extend PySem.F.type_list_extend mt_extend (pv 1) (pa_cons (pe_lc rfl sc_coded_text.nd (pi_tupK (K := K) (pv 4)) (blkOk_by (own := [("step", 5)]) (N := ["unit", "rows", "name", "many", "code", "step", "row"]) (sc := (defScope s_coded_text)) (by decide +kernel)) (fun _ _ _ _ _ => (pg_name (i := 5) sc_coded_text.nd rfl (by first | exact .inl rfl | exact .inr rfl))) (fun _ _ _ _ _ => pts_nil) (fun _ _ _ _ _ => (pe_call C_words_row.ok (hr.mono (by decide)) (by rfl) C_words_row.at_ C_words_row.kp C_words_row.b .nil pass0 (pa_cons (pe_call C_words_of.ok (hr.mono (by decide)) (by rfl) C_words_of.at_ C_words_of.kp C_words_of.b .nil pass0 (pa_cons (pv 5) pa_nil)) (pa_cons pe_int pa_nil))))) pa_nil))))
      (pss_one (ps_expr (castBM (K := K) (pe_bm PySem.F.plainAttrs_list PySem.F.slot_list_append PySem.F.type_list_append mt_append (pv 1) (pa_cons pe_str pa_nil))))))))
      (pss_one (ps_ret (castM1 (K := K) (pe_join pe_str (pe_lc rfl sc_coded_text.nd (pi_listK (K := K) (pv 1)) (blkOk_by (own := [("row", 6)]) (N := ["unit", "rows", "name", "many", "code", "step", "row"]) (sc := (defScope s_coded_text)) (by decide +kernel)) (fun _ _ _ _ _ => (pg_name (i := 6) sc_coded_text.nd rfl (by first | exact .inl rfl | exact .inr rfl))) (fun _ _ _ _ _ => pts_nil) (fun _ _ _ _ _ => (pe_op op_addS (pv 6) pe_str))))))))), ?_⟩
    walk_at "st"
    have hp : 0 ≤ p ∧ p ≤ 999 := ⟨by have := g.prime.1; omega, by have := g.prime.2.1; omega⟩
    have hh : 0 ≤ ((hid : Nat) : Int) ∧ ((hid : Nat) : Int) ≤ 999 := by have := g.lid; omega
    have n1 := numC_sm hp
    have n2 := numC_sm hh
    refine r_js (a := []) ?_
    walk_at "st"
    refine r_jx (b := cs "prime ") (by show 6 ≤ 1000; decide) (r_js ?_)
    walk_at "st"
    refine ⟨x, hid, ds, p, rfl, cv, r_fmI hp (r_jx (lenA (n := 6) (by decide) n1) (r_jn ?_))⟩
    walk_at "st"
    refine r_js (a := []) ?_
    walk_at "st"
    refine r_jx (b := cs "cells ") (by show 6 ≤ 1000; decide) (r_js ?_)
    walk_at "st"
    refine ⟨x, hid, ds, p, rfl, cv, r_fmI hh (r_jx (lenA (n := 6) (by decide) n2) (r_jn ?_))⟩
    walk_at "st"
    intro l hl
    rw [show ([] ++ cs "prime " ++ numC p) = joinC [cs "prime", numC p] from rfl, show ([] ++ cs "cells " ++ numC (hid : Nat)) = joinC [cs "cells", numC (hid : Nat)] from rfl]
    have s1 : Same H (upd H l (.lst [V.str (Sx (joinC [cs "prime", numC p])), V.str (Sx (joinC [cs "cells", numC (hid : Nat)]))])) := Same.upd_new hl
    have el1 : upd H l (.lst [V.str (Sx (joinC [cs "prime", numC p])), V.str (Sx (joinC [cs "cells", numC (hid : Nat)]))]) l = some (.lst (wordsV [joinC [cs "prime", numC p], joinC [cs "cells", numC (hid : Nat)]])) := upd_same
    generalize upd H l (.lst [V.str (Sx (joinC [cs "prime", numC p])), V.str (Sx (joinC [cs "cells", numC (hid : Nat)]))]) = H1 at *
    have cv1 := cv.same s1
    walk_at "st"
    refine ⟨x, hid, ds, p, rfl, cv1, fun dv hdv => ?_⟩
    obtain ⟨td, us, rfl, htd, al⟩ := hdv
    walk_at "st"
    have gl := g.len
    refine lp_by (walk_tup (a := td) (xs := us)) (fun i σ' H' => ∃ x2 x3 x4, σ' = [some (.ref x), some (.ref l), x2, x3, x4, none, none] ∧ Same H H' ∧ (∀ b o, H1 b = some o → b ≠ l → H' b = some o) ∧ H' l = some (.lst (wordsV ([joinC [cs "prime", numC p], joinC [cs "cells", numC (hid : Nat)]] ++ (ds.take i).flatMap deedL))) ∧ ((ds.take i).flatMap deedL).length ≤ 402 * i)
      ⟨none, none, none, rfl, s1, fun _ _ e _ => e, el1, Nat.zero_le _⟩ (fun i σ' H' _ z => ?_) (fun i v σ' H2 H2' hi z y => ?_) (fun σ' H2 z => ?_)
    · obtain ⟨_, _, _, _, _, k2, _⟩ := z
      exact SqT.of (k2 _ _ htd fun e => by rw [e, el1] at htd; cases htd)
    · obtain ⟨x2, x3, x4, rfl, s2, k2, el2, lf⟩ := z
      obtain ⟨rfl, ex⟩ := y
      obtain ⟨d, ed, t, c, rfl, ht, tc, cu, rfl, hc, ac⟩ := al.2 i v ex
      have gd := g.good d (List.mem_of_getElem? ed)
      have gdl := gd.len
      have gm := gd.many
      have gn := gd.name
      have tupl : ∀ {b xs}, H1 b = some (.tup xs) → H2' b = some (.tup xs) := fun e => k2 _ _ e fun z => by rw [z, el1] at e; cases e
      have ht2 := tupl ht
      have hc2 := tupl hc
      have i4 : i < 4 := by have := al.1; omega
      have alc2 : Al (InsV H2') cu d.2.2 := ac.imp fun u y h => by
        obtain ⟨t9, u9, e9, h9, a9⟩ := h
        refine ⟨t9, u9, e9, tupl h9, a9.imp fun u a h => ?_⟩
        cases a with
        | w z => exact h
        | n i => exact h
        | ways wl =>
          obtain ⟨t8, u8, e8, h8, a8⟩ := h
          exact ⟨t8, u8, e8, tupl h8, a8.imp fun u x ⟨t7, e7, h7⟩ => ⟨t7, e7, tupl h7⟩⟩
      have hm9 : 0 ≤ d.2.1 ∧ d.2.1 ≤ 999 := by omega
      have nm := numC_sm hm9
      have nn : (cs d.1).length ≤ 8 := by rw [cs_len]; exact gn.2.1
      have zn : d.1.length ≤ 1000 := Nat.le_trans gn.2.1 (by decide)
      refine ⟨t, _, rfl, SqT.of ht2, rfl, ?_⟩
      walk_at "st"
      refine r_js (a := []) ?_
      walk_at "st"
      refine r_jx (b := cs "deed ") (by decide +kernel) (r_js ?_)
      walk_at "st"
      refine r_fmS zn ?_
      rw [show (V.str d.1) = V.str (Sx (cs d.1)) by rw [Sx_cs]]
      refine r_jx (lenA (n := 5) (by decide +kernel) nn) (r_js ?_)
      walk_at "st"
      refine r_jx (b := [32]) (lenA (n := 13) (m := 1) (lenA (n := 5) (by decide +kernel) nn) (by decide)) (r_js ?_)
      walk_at "st"
      refine r_fmI hm9 (r_jx (lenA (n := 14) (lenA (n := 13) (m := 1) (lenA (n := 5) (by decide +kernel) nn) (by decide)) nm) (r_jn ?_))
      walk_at "st"
      rw [show ([] ++ cs "deed " ++ cs d.1 ++ [32] ++ numC d.2.1) = joinC (headW d) by
        show _ = cs "deed" ++ ([32] ++ (cs d.1 ++ ([32] ++ numC d.2.1)))
        rw [List.nil_append, List.append_assoc, List.append_assoc]; rfl]
      have lw : (wordsV ([joinC [cs "prime", numC p], joinC [cs "cells", numC (hid : Nat)]] ++ (ds.take i).flatMap deedL)).length ≤ 402 * i + 2 := by
        unfold wordsV
        rw [List.length_map, List.length_append]
        show 2 + _ ≤ _
        omega
      refine r_app0 el2 (Nat.lt_of_lt_of_le (show _ < 10000 by omega) (by decide)) ?_
      have kt3 := KeepT.lst (o := .lst (wordsV ([joinC [cs "prime", numC p], joinC [cs "cells", numC (hid : Nat)]] ++ (ds.take i).flatMap deedL) ++ [V.str (Sx (joinC (headW d)))])) el2
      have alc3 := alc2.imp fun u a h => h.tup kt3
      have hc3 := kt3 _ _ hc2
      have s3 : Same H (upd H2' l (.lst (wordsV ([joinC [cs "prime", numC p], joinC [cs "cells", numC (hid : Nat)]] ++ (ds.take i).flatMap deedL) ++ [V.str (Sx (joinC (headW d)))]))) := fun b o e => hl_set (ne_of_none e hl) (s2 _ _ e)
      have k3 : ∀ b o, H1 b = some o → b ≠ l → upd H2' l (.lst (wordsV ([joinC [cs "prime", numC p], joinC [cs "cells", numC (hid : Nat)]] ++ (ds.take i).flatMap deedL) ++ [V.str (Sx (joinC (headW d)))])) b = some o := fun b o e n => hl_set n (k2 b o e n)
      have el3 : upd H2' l (.lst (wordsV ([joinC [cs "prime", numC p], joinC [cs "cells", numC (hid : Nat)]] ++ (ds.take i).flatMap deedL) ++ [V.str (Sx (joinC (headW d)))])) l = some (.lst (wordsV ([joinC [cs "prime", numC p], joinC [cs "cells", numC (hid : Nat)]] ++ (ds.take i).flatMap deedL) ++ [V.str (Sx (joinC (headW d)))])) := upd_same
      generalize upd H2' l (.lst (wordsV ([joinC [cs "prime", numC p], joinC [cs "cells", numC (hid : Nat)]] ++ (ds.take i).flatMap deedL) ++ [V.str (Sx (joinC (headW d)))])) = H3 at *
      clear el2 s2 k2 alc2 hc2 kt3 tupl
      walk_at "st"
      intro D hD
      refine lc_map (walk_tup (a := tc) (xs := cu)) (by rw [ac.1]; omega) hD (fun j y _ => ∃ x, d.2.2[j]? = some x ∧ y = V.str (Sx (insL x))) (fun _ _ _ _ h _ => h) (fun _ _ _ _ _ h _ => h) (fun H' k => SqT.of (k _ _ hc3)) (fun j H1 x H2 y => by rw [y.1]; exact Same.refl _)
        (fun j v H4 H5 Y No hj s4 y hY => ?_) (fun ys H4 ely s4 eD hys => ?_)
      · obtain ⟨rfl, exj⟩ := y
        refine ⟨rfl, ?_⟩
        obtain ⟨xi, exi, iv⟩ := alc3.2 j v exj
        have gi := gd.ins xi (List.mem_of_getElem? exi)
        have iv4 := iv.same s4
        have ml : ((d.2.2.length : Nat) : Int) ≤ 400 := by omega
        walk_at "st"
        refine ⟨v, hid, (d.2.2.length : Nat), p, xi, rfl, iv4, gi, ⟨ml, g.prime.2.1⟩, fun l9 H9 s9 e9 => ?_⟩
        walk_at "st"
        refine ⟨l9, insW xi, rfl, e9, fun w m => (ins_words gi ml g.prime.2.1 w m).2.1, ins_len gi ml g.prime.2.1, ?_⟩
        exact hY _ _ s9 ⟨xi, exi, rfl⟩
      have ey : ys = wordsV (d.2.2.map insL) := by
        unfold wordsV
        rw [List.map_map]
        apply List.ext_getElem?
        intro j
        rw [List.getElem?_map]
        cases e2 : ys[j]? with
        | none =>
          rw [List.getElem?_eq_none_iff, ely, ac.1] at e2
          rw [List.getElem?_eq_none_iff.mpr e2]; rfl
        | some y =>
          obtain ⟨z, ez, rfl⟩ := hys j y e2
          rw [ez]; rfl
      subst ey
      have el4 := s4 _ _ el3
      have ndl : l ≠ D := ne_of_none el3 hD
      walk_at "st"
      have ly : (wordsV (d.2.2.map insL)).length ≤ 400 := by unfold wordsV; rw [List.length_map, List.length_map]; exact gdl
      refine ⟨l, D, _, _, rfl, rfl, el4, eD, ?_, ?_⟩
      · rw [List.length_append]
        exact Nat.le_trans (show _ + 1 + _ ≤ 10000 by omega) (by decide)
      have zl : (wordsV ([joinC [cs "prime", numC p], joinC [cs "cells", numC (hid : Nat)]] ++ (ds.take i).flatMap deedL) ++ [V.str (Sx (joinC (headW d)))] ++ wordsV (d.2.2.map insL)).length < sizeLine := by
        rw [List.length_append, List.length_append]
        exact Nat.lt_of_lt_of_le (show _ + 1 + _ < 10000 by omega) (by decide)
      walk_at "st"
      refine ⟨_, _, _, rfl, fun b o e => hl_set (ne_of_none e hl) (hl_set (ne_of_none e hl) (s4 _ _ (s3 _ _ e))), fun b o e n => hl_set n (hl_set n (s4 _ _ (k3 _ _ e n))), ?_, ?_⟩
      · rw [upd_same, List.take_succ, ed]
        unfold wordsV
        congr 2
        have e9 : (ds.take i ++ (some d).toList).flatMap deedL = (ds.take i).flatMap deedL ++ (joinC (headW d) :: (d.2.2.map insL ++ [cs "end"])) := by
          rw [List.flatMap_append]
          show _ ++ (deedL d ++ []) = _
          rw [List.append_nil]; rfl
        rw [e9]
        simp only [List.map_append, List.map_cons, List.map_nil, List.append_assoc, List.cons_append, List.nil_append]
        rfl
      · rw [List.take_succ, ed, List.flatMap_append, List.length_append]
        show _ + (deedL d ++ []).length ≤ _
        rw [List.append_nil]
        have : (deedL d).length = d.2.2.length + 1 + 1 := by
          show (d.2.2.map insL ++ [cs "end"]).length + 1 = _
          rw [List.length_append, List.length_map]; rfl
        omega
    · obtain ⟨x2, x3, x4, rfl, s2, k2, el2, lf⟩ := z
      rw [al.1, List.take_length] at el2 lf
      have um := unit_many g
      have ul := unit_lines g
      have el2 : H2 l = some (.lst (wordsV (unitL hid ds p))) := el2
      walk_at "st"
      intro D hD
      refine lc_map (walk_list (a := l) (xs := wordsV (unitL hid ds p))) (by unfold wordsV; rw [List.length_map]; omega) hD (fun j y _ => ∃ a, (unitL hid ds p)[j]? = some a ∧ y = V.str (Sx (a ++ [10]))) (fun _ _ _ _ h _ => h) (fun _ _ _ _ _ h _ => h) (fun H' k => SqL.of (k _ _ el2)) (fun j H1 x H2 y => by rw [y.1]; exact Same.refl _)
        (fun j v H4 H5 Y No hj s4 y hY => ?_) (fun ys H4 ely s4 eD hys => ?_)
      · obtain ⟨rfl, exj⟩ := y
        refine ⟨rfl, ?_⟩
        unfold wordsV at exj
        rw [List.getElem?_map] at exj
        obtain ⟨a, ea, rfl⟩ : ∃ a, (unitL hid ds p)[j]? = some a ∧ v = V.str (Sx a) := by
          cases e : (unitL hid ds p)[j]? with
          | none => rw [e] at exj; cases exj
          | some a => rw [e] at exj; exact ⟨a, rfl, (Option.some.inj exj).symm⟩
        have la := (ul a (List.mem_of_getElem? ea)).len
        walk_at "st"
        refine r_addS (by rw [Sx_len]; exact Nat.le_trans (show a.length + 1 ≤ 1000 by omega) (by decide)) ?_
        rw [show Str.ofString "\n" = Sx [10] from rfl, Sx_app]
        exact hY _ _ (Same.refl _) ⟨a, ea, rfl⟩
      have ey : ys = ((unitL hid ds p).map fun a => Sx (a ++ [10])).map V.str := by
        rw [List.map_map]
        apply List.ext_getElem?
        intro j
        rw [List.getElem?_map]
        cases e2 : ys[j]? with
        | none =>
          rw [List.getElem?_eq_none_iff, ely] at e2
          unfold wordsV at e2
          rw [List.length_map] at e2
          rw [List.getElem?_eq_none_iff.mpr e2]; rfl
        | some y =>
          obtain ⟨z, ez, rfl⟩ := hys j y e2
          rw [ez]; rfl
      subst ey
      walk_at "st"
      refine r_joinS (ys := (unitL hid ds p).map fun a => Sx (a ++ [10])) (SqL.of eD) ?_ ?_
      · have hs : ∀ L : List (List Nat), (∀ a ∈ L, LineOk a) → ((L.map fun a => Sx (a ++ [10])).map (·.length)).sum ≤ 501 * L.length := by
          intro L
          induction L with
          | nil => intro _; exact Nat.le_refl _
          | cons a L ih =>
            intro h
            have h1 := (h a List.mem_cons_self).len
            have h2 := ih fun b m => h b (List.mem_cons_of_mem _ m)
            rw [List.map_cons, List.map_cons, List.sum_cons, Sx_len, List.length_append]
            show a.length + 1 + _ ≤ 501 * (L.length + 1)
            omega
        have := hs _ ul
        show _ + _ * 0 ≤ _
        omega
      have ej : Txt.join (Str.ofString "") ((unitL hid ds p).map fun a => Sx (a ++ [10])) = Sx (linesC (unitL hid ds p)) := by
        rw [show Str.ofString "" = SX.S [] from rfl, show ((unitL hid ds p).map fun a => Sx (a ++ [10])) = ((unitL hid ds p).map (· ++ [10])).map SX.S by rw [List.map_map]; rfl, SX.join_S, join_flat]
        rw [← List.flatMap_def]; rfl
      rw [ej]
      exact q _ (s2.trans s4)
end
local macro_rules | `(tactic| walk_at "ssz") => `(tactic| first | decide | exact str_small (by assumption) | (have : (1000000 : Nat) ≤ sizeLine := (by decide); omega))
local macro_rules | `(tactic| walk_at "st1") => `(tactic| first
  | with_reducible refine' r_nt ?_ | with_reducible refine' r_nf ?_
  | ((with_reducible refine r_lenS ?e1 ?_); (case e1 => walk_at "ssz"))
  | with_reducible refine r_inS ?_
  | with_reducible refine r_ninS ?_
  | ((with_reducible refine r_addS ?e1 ?_); (case e1 => walk_at "ssz"))
  | ((with_reducible refine' r_ixS ?e1 ?e2 ?_); (case e1 => walk_at "ssz"); (case e2 => first | assumption | rfl))
  | with_reducible refine r_istr ?_
  | with_reducible refine r_is ?_
  | with_reducible refine r_un ?_
  | with_reducible refine r_u ?_)
local macro_rules | `(tactic| walk_at "st1") => `(tactic| first
  | with_reducible refine r_tru ?_
  | ((with_reducible refine' r_truT ?e1 ?_); (case e1 => walk_at "sq"))
  | with_reducible refine r_isN ?_
  | with_reducible refine r_tyS ?_
  | with_reducible refine r_m1 ?_
  | with_reducible refine r_sx ?_
  | ((with_reducible refine r_strC ?e1 ?_); (case e1 => omega)))
local macro_rules | `(tactic| walk_at "st1") => `(tactic| first
  | with_reducible refine r_par ?_
  | with_reducible refine r_parx ?_
  | ((with_reducible refine' r_gtup ?e1 ?e2 ?_); (case e1 => walk_at "sq"); (case e2 => rfl))
  | with_reducible refine r_gcons ?_
  | with_reducible refine r_gnil ?_
  | with_reducible refine r_ient ?_
  | ((with_reducible refine' r_ent ?e1 ?_); (case e1 => walk_at "sq")))
local macro_rules | `(tactic| walk_at "st1") => `(tactic| first
  | with_reducible refine' r_nt ?_
  | with_reducible refine' r_nf ?_
  | with_reducible refine r_un ?_
  | with_reducible refine r_u ?_)
/-! ### rows are parted, words are told -/
theorem numL_head : ∀ (m n : Nat), n ≤ m → 1 ≤ n → (TL.numL n).head? ≠ some 48
  | 0, n, h, k => by omega
  | m + 1, n, h, k => by
    by_cases c : n < 10
    · rw [TL.numL_lt c]
      intro z
      have : 48 + n = 48 := Option.some.inj z
      omega
    · rw [TL.numL_step (by omega)]
      have ih := numL_head m (n / 10) (by omega) (by omega)
      cases e : TL.numL (n / 10) with
      | nil => exact absurd e (TL.numL_ne _)
      | cons a l => rw [e] at ih; exact ih
theorem fig3 {n : Int} (h : 0 ≤ n ∧ n ≤ 999) : figC (numC n) 3 = some n := by
  have hz : ¬ ((numC n).head? = some 48 ∧ 1 < (numC n).length) := fun z => by
    by_cases c : n = 0
    · subst c; exact absurd z.2 (by decide)
    · exact numL_head n.toNat n.toNat (Nat.le_refl _) (by omega) z.1
  unfold figC
  rw [if_pos ⟨⟨List.length_pos_iff.mpr (numC_ne n), by have := numC_sm h; omega⟩, numC_digits n, hz⟩, numC_val h.1]
theorem spl_words (a : List Nat) : (Txt.split (Sx a) (Str.ofString " ")).map V.str = wordsV (TL.spl [32] 0 [] a) := by
  have e := SX.split_S (a := a) (b := [32]) (by simp) (by decide)
  unfold wordsV
  rw [show Txt.split (Sx a) (Str.ofString " ") = _ from e, List.map_map]; rfl
def Pre (d : Int) (pre : List Nat) : Prop := (d = 0 ∧ pre = []) ∨ (d = 1 ∧ pre = [32, 32])
def sp_parted_row (_ : PySem.W.Frag) : Sp := fun vs H Q _ => ∃ (d : Int) (pre w : List Nat) (ws : List (List Nat)), vs = [.str (Sx (pre ++ joinC (w :: ws)))] ∧ Pre d pre ∧ (∀ u ∈ w :: ws, WordC u) ∧ (joinC (w :: ws)).length ≤ 500 ∧ ∀ t l H', Same H H' → H' t = some (.tup [.int d, .ref l]) → H' l = some (.lst (wordsV (w :: ws))) → Q (.ref t) H'
def sp_prime_told (_ : PySem.W.Frag) : Sp := fun vs H Q _ => ∃ (l : Addr) (p : Int), vs = [.ref l] ∧ H l = some (.lst (wordsV [cs "prime", numC p])) ∧ PrimeI p ∧ ∀ H', Same H H' → Q (.int p) H'
/-- a word that a sign asks for -/
inductive Asked (p : Int) : Nat → Arg → Prop
  | u {z : Str} (h : z ∈ knownL 3) : Asked p 117 (.w z)
  | n {i : Int} (h : 0 ≤ i ∧ i < p) (k : i ≤ 999) : Asked p 110 (.n i)
  | t {i : Int} (k : 0 ≤ i ∧ i ≤ 999) : Asked p 116 (.n i)
  | m {i : Int} (k : 0 ≤ i ∧ i ≤ 999) : Asked p 109 (.n i)
  | d {z : Str} (h : NameS z) : Asked p 100 (.w z)
def valA : Arg → V
  | .w z => .str z
  | .n i => .int i
  | .ways _ => .non
def sp_thing_told (_ : PySem.W.Frag) : Sp := fun vs H Q _ => ∃ (a : Arg) (c : Nat) (p : Int), vs = [.str (Sx (oneW a)), .str ⟨#[c]⟩, .int p] ∧ Asked p c a ∧ ∀ H', Same H H' → Q (valA a) H'
section
variable {P : Program} {w : World} {K : PySem.W.Frag} {mg : Str → Option Value} {base : Heap}
theorem ok_parted_row {c_Coded : Addr} {c_Machine : Addr} {c_CodeReader : Addr} {c_REGISTERS : Addr} {c_CELLS : Addr} {c_SHAPES : Addr} (T : Tx K mg c_Coded c_Machine c_CodeReader c_REGISTERS c_CELLS c_SHAPES w)  {f : Addr} {fd : FuncData} (F : Here K mg "parted_row" s_parted_row ["row"] f fd) : Cal P w K mg base "parted_row" 1 ["row"] (sp_parted_row K) s_parted_row f fd := by
  refine F.cal sc_parted_row (fun vs H Q E h => ?_) (fun cdv A outer s H vs Q E hr h => ?_)
  · obtain ⟨d, pre, w, ws, rfl, _⟩ := h
    rfl
  · obtain ⟨d, pre, w, ws, rfl, hpre, hw, hl, q⟩ := h
    refine ⟨_, (pss_cons (ps_set (i := 1) sc_parted_row.nd rfl (by first | exact .inl rfl | exact .inr rfl) (castBM (K := K) (pe_bm PySem.F.plainAttrs_str PySem.F.slot_str_lstrip PySem.F.type_str_lstrip mt_lstK (pv 0) (pa_cons pe_str pa_nil))))
      (pss_cons (ps_set (i := 2) sc_parted_row.nd rfl (by first | exact .inl rfl | exact .inr rfl) (pe_op op_sub (pe_callB cr_lenS (by rfl) T.m_len (by decide +kernel) (pa_cons (pv 0) pa_nil)) (pe_callB cr_lenS (by rfl) T.m_len (by decide +kernel) (pa_cons (pv 1) pa_nil))))
      (pss_one (ps_ret (pe_tup (pa_cons (pe_ifExp (pt_cmpR op_eq (pe_op op_mod (pv 2) pe_int) pe_int (nomark _)) (pe_op op_fdivW (pv 2) pe_int) (pe_un un_neg pe_int)) (pa_cons (castBM (K := K) (pe_bm PySem.F.plainAttrs_str PySem.F.slot_str_split PySem.F.type_str_split mt_splK (pv 1) (pa_cons pe_str pa_nil))) pa_nil))))))), ?_⟩
    have lp : pre.length ≤ 2 := by rcases hpre with ⟨_, rfl⟩ | ⟨_, rfl⟩ <;> decide
    walk_at "st"
    rw [show Str.ofString " " = Sx [32] from rfl]
    refine r_lstC (by rw [List.length_append]; omega) ?_
    have ed : (pre ++ joinC (w :: ws)).dropWhile (fun c => decide (c ∈ [32])) = joinC (w :: ws) := by
      obtain ⟨c, r, ec, hc⟩ := join_head (ws := ws) (hw w List.mem_cons_self)
      rw [ec]
      have h1 : decide (c ∈ [32]) = false := decide_eq_false (by simpa using hc)
      rcases hpre with ⟨_, rfl⟩ | ⟨_, rfl⟩
      · rw [List.nil_append, List.dropWhile_cons, h1]; rfl
      · show (32 :: 32 :: c :: r).dropWhile _ = _
        rw [List.dropWhile_cons, if_pos (by decide), List.dropWhile_cons, if_pos (by decide), List.dropWhile_cons, h1]; rfl
    rw [ed]
    walk_at "st"
    refine r_lenS (by rw [Sx_len, List.length_append]; exact Nat.le_trans (show _ ≤ 1000 by omega) (by decide)) ?_
    walk_at "st"
    refine r_lenS (by rw [Sx_len]; exact Nat.le_trans (show _ ≤ 1000 by omega) (by decide)) ?_
    have eb : (((Sx (pre ++ joinC (w :: ws))).length : Nat) : Int) - (((Sx (joinC (w :: ws))).length : Nat) : Int) = (pre.length : Int) := by
      rw [Sx_len, Sx_len, List.length_append]; omega
    walk_at "st"
    rw [eb]
    have spl : ∀ {H1 : Hp} {Q1 : VK}, (∀ l, H1 l = none → Q1 (.ref l) (upd H1 l (.lst (wordsV (w :: ws))))) → rSplS (.str (Sx (joinC (w :: ws)))) [.str (Sx [32])] H1 Q1 := fun {H1 Q1} k =>
      ⟨_, _, rfl, rfl, rfl, by rw [Sx_len]; exact Nat.le_trans (show (joinC (w :: ws)).length + 2 ≤ 1000 by omega) (by decide), fun l hl => by
        rw [show Sx [32] = Str.ofString " " from rfl, spl_words, words_back (by simp) hw]
        exact k l hl⟩
    rcases hpre with ⟨rfl, rfl⟩ | ⟨rfl, rfl⟩
    · rw [if_pos (by decide)]
      walk_at "st"
      refine spl fun l hl => ?_
      walk_at "st"
      intro t ht
      rw [show ((([] : List Nat).length : Nat) : Int) / 2 = 0 from rfl] at *
      exact q t l _ ((Same.upd_new hl).trans (Same.upd_new ht)) upd_same (hl_new upd_same ht)
    · rw [if_pos (by decide)]
      walk_at "st"
      refine spl fun l hl => ?_
      walk_at "st"
      intro t ht
      exact q t l _ ((Same.upd_new hl).trans (Same.upd_new ht)) upd_same (hl_new upd_same ht)
theorem ok_prime_told {c_Coded : Addr} {c_Machine : Addr} {c_CodeReader : Addr} {c_REGISTERS : Addr} {c_CELLS : Addr} {c_SHAPES : Addr} (T : Tx K mg c_Coded c_Machine c_CodeReader c_REGISTERS c_CELLS c_SHAPES w) {f_read_figures : Addr} {fd_read_figures : FuncData} (C_read_figures : Cal P w K mg base "read_figures" 2 ["text", "most"] (sp_read_figures K) s_read_figures f_read_figures fd_read_figures) {f_is_prime : Addr} {fd_is_prime : FuncData} (C_is_prime : Cal P w K mg base "is_prime" 2 ["thing"] (sp_is_prime K) s_is_prime f_is_prime fd_is_prime) {f : Addr} {fd : FuncData} (F : Here K mg "prime_told" s_prime_told ["words"] f fd) : Cal P w K mg base "prime_told" 3 ["words"] (sp_prime_told K) s_prime_told f fd := by
  refine F.cal sc_prime_told (fun vs H Q E h => ?_) (fun cdv A outer s H vs Q E hr h => ?_)
  · obtain ⟨l, p, rfl, _⟩ := h
    rfl
  · obtain ⟨l, p, rfl, hl, hp, q⟩ := h
    refine ⟨_, (pss_cons (ps_if (PW.pt (pw_or (pt_cmpR op_ne (pe_callB (cr_lenK (K := K)) (by rfl) T.m_len (by decide +kernel) (pa_cons (pv 0) pa_nil)) pe_int (nomark _)) (pw_or1 (pt_cmpR op_ne (pe_ix (ix_listK (K := K)) (pv 0) pe_int (fun _ _ => rfl)) pe_str (nomark _))))) (pss_one (ps_ret pe_int)) pss_nil)
      (pss_cons (ps_set (i := 1) sc_prime_told.nd rfl (by first | exact .inl rfl | exact .inr rfl) (pe_call C_read_figures.ok (hr.mono (by decide)) (by rfl) C_read_figures.at_ C_read_figures.kp C_read_figures.b .nil pass0 (pa_cons (pe_ix (ix_listK (K := K)) (pv 0) pe_int (fun _ _ => rfl)) (pa_cons (pe_glob (v := .int 3) (by rfl) (T.c_PRIME_FIGURES).choose_spec ⟨_, rfl⟩) pa_nil))))
      (pss_one (ps_ret (pe_ifExp (pt_val (pe_call C_is_prime.ok (hr.mono (by decide)) (by rfl) C_is_prime.at_ C_is_prime.kp C_is_prime.b .nil pass0 (pa_cons (pv 1) pa_nil))) (pv 1) pe_int))))), ?_⟩
    have hp9 : 0 ≤ p ∧ p ≤ 999 := ⟨by have := hp.1; omega, by have := hp.2.1; omega⟩
    have e0 : atI (wordsV [cs "prime", numC p]) 0 = some (.str (Sx (cs "prime"))) := (show atI _ ((0 : Nat) : Int) = _ from atI_nat rfl)
    have e1 : atI (wordsV [cs "prime", numC p]) 1 = some (.str (Sx (numC p))) := (show atI _ ((1 : Nat) : Int) = _ from atI_nat rfl)
    walk_at "st"
    walk_at "if"
    rw [if_neg (by rw [show (wordsV [cs "prime", numC p]).length = 2 from rfl]; decide)]
    walk_at "st"
    rw [Sx_cs]
    rw [if_neg (by decide)]
    walk_at "st"
    refine ⟨numC p, 3, rfl, Nat.le_trans (numC_sm hp9) (by decide), by omega, fun H1 s1 => ?_⟩
    rw [fig3 hp9]
    walk_at "st"
    refine ⟨p, rfl, hp, fun H2 s2 => ?_⟩
    walk_at "st"
    exact q H2 (s1.trans s2)
theorem ok_thing_told {c_Coded : Addr} {c_Machine : Addr} {c_CodeReader : Addr} {c_REGISTERS : Addr} {c_CELLS : Addr} {c_SHAPES : Addr} (T : Tx K mg c_Coded c_Machine c_CodeReader c_REGISTERS c_CELLS c_SHAPES w) {f_read_figures : Addr} {fd_read_figures : FuncData} (C_read_figures : Cal P w K mg base "read_figures" 2 ["text", "most"] (sp_read_figures K) s_read_figures f_read_figures fd_read_figures) {f_is_name : Addr} {fd_is_name : FuncData} (C_is_name : Cal P w K mg base "is_name" 2 ["thing"] (sp_is_name K) s_is_name f_is_name fd_is_name) {f_is_number : Addr} {fd_is_number : FuncData} (C_is_number : Cal P w K mg base "is_number" 2 ["thing", "p"] (sp_is_number K) s_is_number f_is_number fd_is_number) {f : Addr} {fd : FuncData} (F : Here K mg "thing_told" s_thing_told ["word", "sign", "p"] f fd) : Cal P w K mg base "thing_told" 3 ["word", "sign", "p"] (sp_thing_told K) s_thing_told f fd := by
  refine F.cal sc_thing_told (fun vs H Q E h => ?_) (fun cdv A outer s H vs Q E hr h => ?_)
  · obtain ⟨a, c, p, rfl, _⟩ := h
    rfl
  · obtain ⟨a, c, p, rfl, ha, q⟩ := h
    refine ⟨_, (pss_cons (ps_if (pt_cmpR op_eq (pv 1) pe_str (nomark _)) (pss_one (ps_ret (pe_ifExp (pt_cmpR (op_inSeqK (K := K)) (pv 0) (pe_op (op_catAK (K := K)) (pe_glob (v := .ref c_REGISTERS) (by rfl) T.g_REGISTERS rfl) (pe_glob (v := .ref c_CELLS) (by rfl) T.g_CELLS rfl)) (by rfl)) (pv 0) pe_non))) pss_nil)
      (pss_cons (ps_if (pt_cmpR op_eq (pv 1) pe_str (nomark _)) (pss_one (ps_ret (pe_ifExp (pt_val (pe_call C_is_name.ok (hr.mono (by decide)) (by rfl) C_is_name.at_ C_is_name.kp C_is_name.b .nil pass0 (pa_cons (pv 0) pa_nil))) (pv 0) pe_non))) pss_nil)
      (pss_cons (ps_set (i := 3) sc_thing_told.nd rfl (by first | exact .inl rfl | exact .inr rfl) (pe_call C_read_figures.ok (hr.mono (by decide)) (by rfl) C_read_figures.at_ C_read_figures.kp C_read_figures.b .nil pass0 (pa_cons (pv 0) (pa_cons (pe_glob (v := .int 3) (by rfl) (T.c_MOST_FIGURES).choose_spec ⟨_, rfl⟩) pa_nil))))
      (pss_one (ps_ret (pe_ifExp (PW.pt (pw_or (pt_cmpR op_ne (pv 1) pe_str (nomark _)) (pw_or1 (pt_val (pe_call C_is_number.ok (hr.mono (by decide)) (by rfl) C_is_number.at_ C_is_number.kp C_is_number.b .nil pass0 (pa_cons (pv 3) (pa_cons (pv 2) pa_nil))))))) (pv 3) pe_non)))))), ?_⟩
    have sg : ∀ (c k : Nat) (s : String), Str.ofString s = ⟨#[k]⟩ → decide (V.str { cps := #[c] } = V.str (Str.ofString s)) = decide (c = k) := fun c k s e => decide_eq_decide.mpr ⟨fun h => by
      rw [e] at h
      injection h with h
      injection h with h
      simpa using h, fun h => by rw [e, h]⟩
    walk_at "st"
    walk_at "if"
    rw [sg c 117 "u" rfl]
    cases ha with
    | @u z h =>
      rw [if_pos (by decide)]
      rw [show Sx (oneW (Arg.w z)) = z from Sx_cs z]
      walk_at "st"
      refine r_catQ T.rg_REGISTERS.sq T.ce_CELLS.sq (by decide) fun p1 H1 s1 h1 => ?_
      walk_at "st"
      rw [← List.map_append] at h1
      refine ⟨p1, _, rfl, .inr h1, rfl, flat_strs _, ?_⟩
      rw [if_neg (by decide), inV_strs, decide_eq_true (show z ∈ regsL ++ cellsL from h)]
      walk_at "st"
      exact q H1 s1
    | @d z h =>
      rw [if_neg (by decide)]
      rw [show Sx (oneW (Arg.w z)) = z from Sx_cs z]
      walk_at "st"
      walk_at "if"
      rw [sg 100 100 "d" rfl, if_pos (by decide)]
      walk_at "st"
      refine ⟨z, rfl, h, fun H1 s1 => ?_⟩
      walk_at "st"
      exact q H1 s1
    | @n i h k =>
      rw [if_neg (by decide)]
      walk_at "st"
      walk_at "if"
      rw [sg 110 100 "d" rfl, if_neg (by decide)]
      walk_at "st"
      refine ⟨numC i, 3, rfl, Nat.le_trans (numC_sm ⟨h.1, k⟩) (by decide), by omega, fun H1 s1 => ?_⟩
      rw [fig3 ⟨h.1, k⟩]
      walk_at "st"
      rw [if_neg (by decide)]
      walk_at "st"
      refine ⟨i, p, rfl, h, ?_⟩
      walk_at "st"
      exact q H1 s1
    | @t i k =>
      rw [if_neg (by decide)]
      walk_at "st"
      walk_at "if"
      rw [sg 116 100 "d" rfl, if_neg (by decide)]
      walk_at "st"
      refine ⟨numC i, 3, rfl, Nat.le_trans (numC_sm k) (by decide), by omega, fun H1 s1 => ?_⟩
      rw [fig3 k]
      walk_at "st"
      rw [if_pos (by decide)]
      walk_at "st"
      exact q H1 s1
    | @m i k =>
      rw [if_neg (by decide)]
      walk_at "st"
      walk_at "if"
      rw [sg 109 100 "d" rfl, if_neg (by decide)]
      walk_at "st"
      refine ⟨numC i, 3, rfl, Nat.le_trans (numC_sm k) (by decide), by omega, fun H1 s1 => ?_⟩
      rw [fig3 k]
      walk_at "st"
      rw [if_pos (by decide)]
      walk_at "st"
      exact q H1 s1
end
local macro_rules | `(tactic| walk_at "ssz") => `(tactic| first | decide | exact str_small (by assumption) | (have : (1000000 : Nat) ≤ sizeLine := (by decide); omega))
local macro_rules | `(tactic| walk_at "st1") => `(tactic| first
  | with_reducible refine' r_nt ?_ | with_reducible refine' r_nf ?_
  | ((with_reducible refine r_lenS ?e1 ?_); (case e1 => walk_at "ssz"))
  | with_reducible refine r_inS ?_
  | with_reducible refine r_ninS ?_
  | ((with_reducible refine r_addS ?e1 ?_); (case e1 => walk_at "ssz"))
  | ((with_reducible refine' r_ixS ?e1 ?e2 ?_); (case e1 => walk_at "ssz"); (case e2 => first | assumption | rfl))
  | with_reducible refine r_istr ?_
  | with_reducible refine r_is ?_
  | with_reducible refine r_un ?_
  | with_reducible refine r_u ?_)
local macro_rules | `(tactic| walk_at "st1") => `(tactic| first
  | with_reducible refine r_tru ?_
  | ((with_reducible refine' r_truT ?e1 ?_); (case e1 => walk_at "sq"))
  | with_reducible refine r_isN ?_
  | with_reducible refine r_tyS ?_
  | with_reducible refine r_m1 ?_
  | with_reducible refine r_sx ?_
  | ((with_reducible refine r_strC ?e1 ?_); (case e1 => omega)))
local macro_rules | `(tactic| walk_at "st1") => `(tactic| first
  | with_reducible refine r_par ?_
  | with_reducible refine r_parx ?_
  | ((with_reducible refine' r_gtup ?e1 ?e2 ?_); (case e1 => walk_at "sq"); (case e2 => rfl))
  | with_reducible refine r_gcons ?_
  | with_reducible refine r_gnil ?_
  | with_reducible refine r_ient ?_
  | ((with_reducible refine' r_ent ?e1 ?_); (case e1 => walk_at "sq")))
local macro_rules | `(tactic| walk_at "st1") => `(tactic| first
  | with_reducible refine' r_nt ?_
  | with_reducible refine' r_nf ?_
  | with_reducible refine r_un ?_
  | with_reducible refine r_u ?_)
/-! ### a row of words is told -/
local macro_rules | `(tactic| walk_at "st1") => `(tactic| first
  | with_reducible refine r_izw ?_
  | ((with_reducible refine' r_zxw ?e1 ?_); (case e1 => walk_at "sq")))
def valFlat (a : Arg) : Prop := match a with
  | .ways _ => False
  | _ => True
theorem asked_flat {p : Int} {c : Nat} {a : Arg} (h : Asked p c a) : valFlat a := by cases h <;> trivial
theorem no_non : ∀ {as : List Arg}, (∀ a ∈ as, valFlat a) → inV .non (as.map valA) = false ∧ (as.map valA).all flatV = true
  | [], _ => ⟨rfl, rfl⟩
  | a :: as, h => by
    obtain ⟨h1, h2⟩ := no_non (as := as) fun b m => h b (List.mem_cons_of_mem _ m)
    have ha := h a List.mem_cons_self
    unfold inV at h1 ⊢
    rw [List.map_cons, List.any_cons, List.all_cons, h1, h2]
    cases a with
    | w z => exact ⟨rfl, rfl⟩
    | n i => exact ⟨rfl, rfl⟩
    | ways l => exact ha.elim
def sp_things_told (_ : PySem.W.Frag) : Sp := fun vs H Q _ => ∃ (l : Addr) (as : List Arg) (sh : Str) (p : Int), vs = [.ref l, .str sh, .int p] ∧ H l = some (.lst (wordsV (as.map oneW))) ∧ (cs sh).length = as.length ∧ as.length ≤ 100 ∧
  (∀ (i c : Nat) (a : Arg), (cs sh)[i]? = some c → as[i]? = some a → Asked p c a) ∧ ∀ t H', Same H H' → H' t = some (.tup (as.map valA)) → Q (.ref t) H'
section
variable {P : Program} {w : World} {K : PySem.W.Frag} {mg : Str → Option Value} {base : Heap}
theorem ok_things_told {c_Coded : Addr} {c_Machine : Addr} {c_CodeReader : Addr} {c_REGISTERS : Addr} {c_CELLS : Addr} {c_SHAPES : Addr} (T : Tx K mg c_Coded c_Machine c_CodeReader c_REGISTERS c_CELLS c_SHAPES w) {f_thing_told : Addr} {fd_thing_told : FuncData} (C_thing_told : Cal P w K mg base "thing_told" 3 ["word", "sign", "p"] (sp_thing_told K) s_thing_told f_thing_told fd_thing_told) {f : Addr} {fd : FuncData} (F : Here K mg "things_told" s_things_told ["words", "shape", "p"] f fd) : Cal P w K mg base "things_told" 4 ["words", "shape", "p"] (sp_things_told K) s_things_told f fd := by
  refine F.cal sc_things_told (fun vs H Q E h => ?_) (fun cdv A outer s H vs Q E hr h => ?_)
  · obtain ⟨l, as, sh, p, rfl, _⟩ := h
    rfl
  · obtain ⟨l, as, sh, p, rfl, hl, ls, l1, ha, q⟩ := h
    refine ⟨_, (pss_cons (ps_if (pt_cmpR op_ne (pe_callB (cr_lenK (K := K)) (by rfl) T.m_len (by decide +kernel) (pa_cons (pv 0) pa_nil)) (pe_callB cr_lenS (by rfl) T.m_len (by decide +kernel) (pa_cons (pv 1) pa_nil)) (nomark _)) (pss_one (ps_ret pe_non)) pss_nil)
      (pss_cons (ps_set (i := 3) sc_things_told.nd rfl (by first | exact .inl rfl | exact .inr rfl) (pe_callTy (cr_tupOfK (K := K)) (by rfl) T.m_tuple (by decide +kernel) (pa_cons (pe_lc rfl sc_things_told.nd (castPI (K := K) (wi := fun K => iZipW K _) (pi_zipW (by rfl) T.m_zip (pa_cons (pv 0) (pa_cons (pv 1) pa_nil)))) (blkOk_by (own := [("word", 4), ("sign", 5)]) (N := ["words", "shape", "p", "things", "word", "sign"]) (sc := (defScope s_things_told)) (by decide +kernel)) (fun _ _ _ _ _ => (castPG (K := K) (n := 2) (pg_tup rfl (pgs_cons (pg_name (i := 4) sc_things_told.nd rfl (by first | exact .inl rfl | exact .inr rfl)) (pgs_cons (pg_name (i := 5) sc_things_told.nd rfl (by first | exact .inl rfl | exact .inr rfl)) pgs_nil))))) (fun _ _ _ _ _ => pts_nil) (fun _ _ _ _ _ => (pe_call C_thing_told.ok (hr.mono (by decide)) (by rfl) C_thing_told.at_ C_thing_told.kp C_thing_told.b .nil pass0 (pa_cons (pv 4) (pa_cons (pv 5) (pa_cons (pv 2) pa_nil)))))) pa_nil)))
      (pss_one (ps_ret (pe_ifExp (pt_cmpR (op_inSeqK (K := K)) pe_non (pv 3) (by rfl)) pe_non (pv 3)))))), ?_⟩
    have lsh : sh.length = as.length := by rw [← cs_len]; exact ls
    have lw : (wordsV (as.map oneW)).length = as.length := by unfold wordsV; rw [List.length_map, List.length_map]
    have fl : ∀ a ∈ as, valFlat a := fun a m => by
      obtain ⟨i, e⟩ := List.getElem?_of_mem m
      have li := (List.getElem?_eq_some_iff.mp e).1
      exact asked_flat (ha i _ a (List.getElem?_eq_getElem (by rw [ls]; exact li)) e)
    walk_at "st"
    walk_at "if"
    rw [if_neg (by rw [lw, lsh]; simp)]
    walk_at "st"
    intro D hD
    refine lc_map (walk_zipW (a := l) (b := sh) (xs := wordsV (as.map oneW)) (n := as.length) (by rw [lw, show sh.cps.size = sh.length from rfl, lsh, Nat.min_self])) (by omega) hD (fun i y _ => ∃ a, as[i]? = some a ∧ y = valA a) (fun _ _ _ _ h _ => h) (fun _ _ _ _ _ h _ => h) (fun H' k => SqL.of (k _ _ hl)) (fun i H1 x H2 y => ?_)
      (fun i v H2 H3 Y No hi s2 yy hY => ?_) (fun ys H2 el s2 eD hys => ?_)
    · obtain ⟨T2, x1, y1, rfl, nt, rfl, _⟩ := y
      exact Same.upd_new nt
    · obtain ⟨T2, x1, y1, rfl, nt, rfl, e1, e2⟩ := yy
      have e2 : sh.cps[i]?.map (fun c => V.str ⟨#[c]⟩) = some y1 := e2
      have e1 : (wordsV (as.map oneW))[i]? = some x1 := e1
      cases ec : sh.cps[i]? with
      | none => rw [ec] at e2; cases e2
      | some c =>
        rw [ec] at e2
        obtain rfl : V.str ⟨#[c]⟩ = y1 := Option.some.inj e2
        have ea : as[i]? = some (as[i]'hi) := List.getElem?_eq_getElem hi
        generalize as[i]'hi = a at *
        unfold wordsV at e1
        rw [List.getElem?_map, List.getElem?_map, ea] at e1
        obtain rfl : V.str (Sx (oneW a)) = x1 := Option.some.inj e1
        have ecs : (cs sh)[i]? = some c := by
          show sh.cps.toList[i]? = some c
          rw [Array.getElem?_toList]; exact ec
        refine ⟨T2, _, rfl, SqT.of upd_same, rfl, _, _, rfl, _, _, rfl, rfl, ?_⟩
        refine ⟨rfl, ?_⟩
        walk_at "st"
        exact ⟨a, c, p, rfl, ha i c a ecs ea, fun H' s4 => hY _ _ s4 ⟨a, ea, rfl⟩⟩
    have ey : ys = as.map valA := by
      apply List.ext_getElem?
      intro j
      rw [List.getElem?_map]
      cases e2 : ys[j]? with
      | none =>
        rw [List.getElem?_eq_none_iff, el] at e2
        rw [List.getElem?_eq_none_iff.mpr e2]; rfl
      | some y =>
        obtain ⟨z, ez, rfl⟩ := hys j y e2
        rw [ez]; rfl
    subst ey
    obtain ⟨nn, nf⟩ := no_non fl
    walk_at "st"
    intro t ht
    walk_at "st"
    refine ⟨t, _, rfl, .inr (SqT.of upd_same), rfl, nf, ?_⟩
    rw [if_neg (by decide), nn]
    walk_at "st"
    exact q t _ (s2.trans (Same.upd_new ht)) upd_same
end
local macro_rules | `(tactic| walk_at "ssz") => `(tactic| first | decide | exact str_small (by assumption) | (have : (1000000 : Nat) ≤ sizeLine := (by decide); omega))
local macro_rules | `(tactic| walk_at "st1") => `(tactic| first
  | with_reducible refine' r_nt ?_ | with_reducible refine' r_nf ?_
  | ((with_reducible refine r_lenS ?e1 ?_); (case e1 => walk_at "ssz"))
  | with_reducible refine r_inS ?_
  | with_reducible refine r_ninS ?_
  | ((with_reducible refine r_addS ?e1 ?_); (case e1 => walk_at "ssz"))
  | ((with_reducible refine' r_ixS ?e1 ?e2 ?_); (case e1 => walk_at "ssz"); (case e2 => first | assumption | rfl))
  | with_reducible refine r_istr ?_
  | with_reducible refine r_is ?_
  | with_reducible refine r_un ?_
  | with_reducible refine r_u ?_)
local macro_rules | `(tactic| walk_at "st1") => `(tactic| first
  | with_reducible refine r_tru ?_
  | ((with_reducible refine' r_truT ?e1 ?_); (case e1 => walk_at "sq"))
  | with_reducible refine r_isN ?_
  | with_reducible refine r_tyS ?_
  | with_reducible refine r_m1 ?_
  | with_reducible refine r_sx ?_
  | ((with_reducible refine r_strC ?e1 ?_); (case e1 => omega)))
local macro_rules | `(tactic| walk_at "st1") => `(tactic| first
  | with_reducible refine r_par ?_
  | with_reducible refine r_parx ?_
  | ((with_reducible refine' r_gtup ?e1 ?e2 ?_); (case e1 => walk_at "sq"); (case e2 => rfl))
  | with_reducible refine r_gcons ?_
  | with_reducible refine r_gnil ?_
  | with_reducible refine r_ient ?_
  | ((with_reducible refine' r_ent ?e1 ?_); (case e1 => walk_at "sq")))
local macro_rules | `(tactic| walk_at "st1") => `(tactic| first
  | with_reducible refine' r_nt ?_
  | with_reducible refine' r_nf ?_
  | with_reducible refine r_un ?_
  | with_reducible refine r_u ?_)
/-! ### an instruction is told -/
theorem known_three {hid : Nat} {z : Str} (m : z ∈ knownL hid) : z ∈ knownL 3 := by
  unfold knownL at m
  show z ∈ regsL ++ cellsL
  rcases List.mem_append.mp m with m | m
  · exact List.mem_append_left _ m
  · exact List.mem_append_right _ (List.mem_of_mem_take m)
theorem asked_of {hid c : Nat} {many p : Int} {a : Arg} (f : Fits hid many p NameS Ris c a) (hm : many ≤ 400) (hp : p ≤ 997) (n : c ≠ 119) : Asked p c a := by
  cases f with
  | u h => exact .u (known_three h)
  | n h => exact .n h (by omega)
  | t h => exact .t (by omega)
  | m h => exact .m (by omega)
  | d h => exact .d h
  | w _ _ _ => exact absurd rfl n
def pArgs (wl : List (Str × Int)) : List Arg := wl.flatMap fun x => [.w x.1, .n x.2]
def dtL : Nat → List Nat
  | 0 => []
  | k + 1 => 100 :: 116 :: dtL k
def AskL (p : Int) : List Nat → List Arg → Prop
  | [], [] => True
  | c :: l, a :: as => Asked p c a ∧ AskL p l as
  | _, _ => False
theorem AskL.ok {p : Int} : ∀ {l : List Nat} {as : List Arg}, AskL p l as → l.length = as.length ∧ ∀ (i c : Nat) (a : Arg), l[i]? = some c → as[i]? = some a → Asked p c a
  | [], [], _ => ⟨rfl, fun i c a e => by simp at e⟩
  | c :: l, a :: as, h => by
    obtain ⟨h1, h2⟩ := h
    obtain ⟨e, k⟩ := h2.ok
    refine ⟨by rw [List.length_cons, List.length_cons, e], fun i c' a' e1 e2 => ?_⟩
    cases i with
    | zero =>
      rw [← Option.some.inj (show some c = some c' from e1), ← Option.some.inj (show some a = some a' from e2)]
      exact h1
    | succ i => exact k i c' a' (by simpa using e1) (by simpa using e2)
  | [], _ :: _, h => h.elim
  | _ :: _, [], h => h.elim
theorem dt_ask {p : Int} : ∀ {wl : List (Str × Int)}, (∀ x ∈ wl, NameS x.1 ∧ 0 ≤ x.2 ∧ x.2 ≤ 999) → AskL p (dtL wl.length) (pArgs wl)
  | [], _ => trivial
  | x :: wl, h => by
    have hx := h x List.mem_cons_self
    have e : pArgs (x :: wl) = .w x.1 :: .n x.2 :: pArgs wl := by unfold pArgs; rw [List.flatMap_cons]; rfl
    rw [e]
    exact ⟨.d hx.1, .t hx.2, dt_ask fun y m => h y (List.mem_cons_of_mem _ m)⟩
theorem pArgs_len (wl : List (Str × Int)) : (pArgs wl).length = 2 * wl.length := by
  induction wl with
  | nil => rfl
  | cons x wl ih =>
    have e : pArgs (x :: wl) = .w x.1 :: .n x.2 :: pArgs wl := by unfold pArgs; rw [List.flatMap_cons]; rfl
    rw [e, List.length_cons, List.length_cons, ih, List.length_cons]; omega
theorem pArgs_words (wl : List (Str × Int)) : (wl.flatMap fun x => [cs x.1, numC x.2]) = (pArgs wl).map oneW := by
  induction wl with
  | nil => rfl
  | cons x wl ih =>
    have e : pArgs (x :: wl) = .w x.1 :: .n x.2 :: pArgs wl := by unfold pArgs; rw [List.flatMap_cons]; rfl
    rw [e, List.flatMap_cons, ih]; rfl
theorem pArgs_alt : ∀ wl : List (Str × Int), altL ((pArgs wl).map valA) = wl.map (fun x => V.str x.1) ∧ altL (((pArgs wl).map valA).drop 1) = wl.map (fun x => V.int x.2)
  | [] => ⟨by simp [pArgs, altL], by simp [pArgs, altL]⟩
  | x :: wl => by
    obtain ⟨h1, h2⟩ := pArgs_alt wl
    have e : pArgs (x :: wl) = .w x.1 :: .n x.2 :: pArgs wl := by unfold pArgs; rw [List.flatMap_cons]; rfl
    rw [e, List.map_cons, List.map_cons, List.map_cons, List.map_cons]
    refine ⟨?_, ?_⟩
    · rw [altL, h1]; rfl
    · rw [List.drop_succ_cons, List.drop_zero]
      cases wl with
      | nil => simp [pArgs, altL, valA]
      | cons y wl =>
        have e2 : pArgs (y :: wl) = .w y.1 :: .n y.2 :: pArgs wl := by unfold pArgs; rw [List.flatMap_cons]; rfl
        rw [e2, List.map_cons, List.map_cons, List.drop_succ_cons, List.drop_zero] at h2
        rw [e2, List.map_cons, List.map_cons, altL, h2]; rfl
def rDt : R2 := fun x y H Q => rMulS1 x y H Q ∨ rMulS x y H Q
theorem r_dt {k : Nat} {H : Hp} {Q : VK} (hk : 1 ≤ k ∧ k ≤ 6) (q : Q (.str (Sx (dtL k))) H) : rMulS1 (.str (Str.ofString "dt")) (.int (k : Nat)) H Q ∨ rMulS (.str (Str.ofString "dt")) (.int (k : Nat)) H Q := by
  have h : k = 1 ∨ k = 2 ∨ k = 3 ∨ k = 4 ∨ k = 5 ∨ k = 6 := by omega
  rcases h with rfl | rfl | rfl | rfl | rfl | rfl
  · exact .inl ⟨_, rfl, rfl, by decide, q⟩
  · exact .inr ⟨_, 2, rfl, rfl, by decide, by decide, by decide +kernel, q⟩
  · exact .inr ⟨_, 3, rfl, rfl, by decide, by decide, by decide +kernel, q⟩
  · exact .inr ⟨_, 4, rfl, rfl, by decide, by decide, by decide +kernel, q⟩
  · exact .inr ⟨_, 5, rfl, rfl, by decide, by decide, by decide +kernel, q⟩
  · exact .inr ⟨_, 6, rfl, rfl, by decide, by decide, by decide +kernel, q⟩
def AltR (K : PySem.W.Frag) (k : Nat) (Q : VK) (x : V) (H1 : Hp) : Prop := ∃ a xs, x = .ref a ∧ SqT K H1 a xs ∧ ∀ p, H1 p = none → Q (.ref p) (upd H1 p (.tup (altL (xs.drop k))))
theorem r_altT {K : PySem.W.Frag} {k : Nat} {te : TE} {σ : L2.St} {H : Hp} {Q : VK} (h : te σ H (AltR K k Q)) : tAltT K k te σ H Q := h
local macro_rules | `(tactic| walk_at "st1") => `(tactic| first
  | with_reducible refine r_altT ?_
  | with_reducible refine r_tz ?_)
theorem cutL_1 (x : V) (xs : List V) : cutV (x :: xs) (some 1) none = xs := by
  have e1 : HT.sIx (x :: xs).length 0 (some 1) = 1 := by
    rw [List.length_cons]
    simp [HT.sIx]
  have e2 : HT.sIx (x :: xs).length (x :: xs).length none = xs.length + 1 := rfl
  unfold cutV
  rw [e1, e2, List.drop_succ_cons, List.drop_zero, Nat.add_sub_cancel, List.take_length]
theorem r_catX {K : PySem.W.Frag} {a b : Addr} {xs ys : List V} {H : Hp} {Q : VK} (ha : H a = some (.tup xs)) (hb : H b = some (.tup ys)) (sz : xs.length + ys.length ≤ 1000000) (q : ∀ p H', Same H H' → H' p = some (.tup (xs ++ ys)) → Q (.ref p) H') : rCatA K (.ref a) (.ref b) H Q := by
  refine ⟨a, b, xs, ys, rfl, rfl, SqT.of ha, SqT.of hb, Nat.le_trans sz (by decide), fun e => ?_, fun _ e => ?_, fun _ _ p hp => ?_⟩
  · exact q b H (Same.refl _) (by rw [e]; exact hb)
  · exact q a H (Same.refl _) (by rw [e, List.append_nil]; exact ha)
  · exact q p _ (Same.upd_new hp) upd_same
theorem al_val {H : Hp} : ∀ {as : List Arg}, (∀ a ∈ as, Flat1 a) → Al (ArgV H) (as.map valA) as
  | [], _ => .nil
  | a :: as, h => .cons (by
      rcases h a List.mem_cons_self with ⟨z, rfl, _⟩ | ⟨i, rfl, _⟩ <;> exact rfl) (al_val fun b m => h b (List.mem_cons_of_mem _ m))
def sp_instruction_told (_ : PySem.W.Frag) : Sp := fun vs H Q _ => ∃ (l : Addr) (x : Ins) (hid : Nat) (n p : Int), vs = [.ref l, .int p] ∧ H l = some (.lst (wordsV (insW x))) ∧ GoodI hid n p x ∧ (n ≤ 400 ∧ p ≤ 997) ∧ ∀ v H', Same H H' → (∃ t, v = .ref t) → InsV H' v x → Q v H'
section
variable {P : Program} {w : World} {K : PySem.W.Frag} {mg : Str → Option Value} {base : Heap}
theorem ok_instruction_told {c_Coded : Addr} {c_Machine : Addr} {c_CodeReader : Addr} {c_REGISTERS : Addr} {c_CELLS : Addr} {c_SHAPES : Addr} (T : Tx K mg c_Coded c_Machine c_CodeReader c_REGISTERS c_CELLS c_SHAPES w) {f_things_told : Addr} {fd_things_told : FuncData} (C_things_told : Cal P w K mg base "things_told" 4 ["words", "shape", "p"] (sp_things_told K) s_things_told f_things_told fd_things_told) {f : Addr} {fd : FuncData} (F : Here K mg "instruction_told" s_instruction_told ["words", "p"] f fd) : Cal P w K mg base "instruction_told" 5 ["words", "p"] (sp_instruction_told K) s_instruction_told f fd := by
  refine F.cal sc_instruction_told (fun vs H Q E h => ?_) (fun cdv A outer s H vs Q E hr h => ?_)
  · obtain ⟨l, x, hid, n, p, rfl, _⟩ := h
    rfl
  · obtain ⟨l, x, hid, n, p, rfl, hl, g, ⟨hn, hp⟩, q⟩ := h
    refine ⟨_, (pss_cons (ps_if (pt_cmpR (op_ninKD (K := K) (w := w) T.sh_SHAPES.1) (pe_ix (ix_listK (K := K)) (pv 0) pe_int (fun _ _ => rfl)) (pe_glob (v := .ref c_SHAPES) (by rfl) T.g_SHAPES rfl) (by rfl)) (pss_one (ps_ret pe_non)) pss_nil)
      (pss_cons (ps_if (pt_cmpR op_ne (pe_ix (ix_listK (K := K)) (pv 0) pe_int (fun _ _ => rfl)) pe_str (nomark _)) (pss_cons (ps_set (i := 2) sc_instruction_told.nd rfl (by first | exact .inl rfl | exact .inr rfl) (pe_call C_things_told.ok (hr.mono (by decide)) (by rfl) C_things_told.at_ C_things_told.kp C_things_told.b .nil pass0 (pa_cons (pe_slice (sl_listK (K := K)) (pv 0) (po_some pe_int) po_none) (pa_cons (pe_ix (ix_kdK (K := K) (w := w)) (pe_glob (v := .ref c_SHAPES) (by rfl) T.g_SHAPES rfl) (pe_ix (ix_listK (K := K)) (pv 0) pe_int (fun _ _ => rfl)) (fun _ _ => rfl)) (pa_cons (pv 1) pa_nil)))))
      (pss_one (ps_ret (pe_ifExp (pt_cmpR op_isNn (pv 2) pe_non (nomark _)) pe_non (pe_op (op_catAK (K := K)) (pe_tup (pa_cons (pe_ix (ix_listK (K := K)) (pv 0) pe_int (fun _ _ => rfl)) pa_nil)) (pv 2)))))) pss_nil)
      (pss_cons (ps_set (i := 3) sc_instruction_told.nd rfl (by first | exact .inl rfl | exact .inr rfl) (pe_op op_fdivW (pe_callB (cr_lenK (K := K)) (by rfl) T.m_len (by decide +kernel) (pa_cons (pv 0) pa_nil)) pe_int))
      (pss_cons (ps_set (i := 2) sc_instruction_told.nd rfl (by first | exact .inl rfl | exact .inr rfl) (pe_call C_things_told.ok (hr.mono (by decide)) (by rfl) C_things_told.at_ C_things_told.kp C_things_told.b .nil pass0 (pa_cons (pe_slice (sl_listK (K := K)) (pv 0) (po_some pe_int) po_none) (pa_cons (pe_op (op_mulS1.or op_mulS) pe_str (pv 3)) (pa_cons (pv 1) pa_nil)))))
      (pss_cons (ps_if (PW.pt (pw_or (pt_cmpR op_isNn (pv 2) pe_non (nomark _)) (pw_or1 (pt_cmpR op_eq (pv 3) pe_int (nomark _))))) (pss_one (ps_ret pe_non)) pss_nil)
      (pss_one (ps_ret (pe_tup (pa_cons pe_str (pa_cons (castTZ (K := K) (pe_tupZ rfl (by rfl) T.m_tuple (by rfl) T.m_zip (pa_cons (castAlt (K := K) (pe_two0 (pv 2))) (pa_cons (castAlt (K := K) (pe_two1 (pv 2))) pa_nil)))) pa_nil)))))))))), ?_⟩
    obtain ⟨sh, msh, lsh, ft⟩ := id g
    have ix : atI (wordsV (insW x)) 0 = some (.str (Sx (cs x.1))) := (show atI _ ((0 : Nat) : Int) = _ from atI_nat rfl)
    rw [Sx_cs] at ix
    walk_at "st"
    obtain ⟨tk, etk⟩ := T.sh_SHAPES.2 _ msh
    refine r_if ?_
    walk_at "st"
    refine ⟨x.1, _, rfl, rfl, etk, false, rfl, ?_⟩
    rw [if_neg (by decide)]
    walk_at "st"
    walk_at "if"
    have dstr : decide (V.str x.1 = V.str (Str.ofString "pick")) = decide (x.1 = "pick") := decide_eq_decide.mpr ⟨fun e => by injection e, fun e => by rw [e]⟩
    rw [dstr]
    by_cases c1 : x.1 = "pick"
    · rw [decide_eq_true c1, if_neg (by decide)]
      obtain ⟨op, args⟩ := x
      obtain rfl : op = "pick" := c1
      obtain ⟨wl, ea, hwl, hws, _⟩ := pick_args g
      obtain rfl : args = [.ways wl] := ea
      have hws2 : ∀ x ∈ wl, NameS x.1 ∧ 0 ≤ x.2 ∧ x.2 ≤ 999 := fun x m => by have := hws x m; exact ⟨this.1, this.2.1, by omega⟩
      have ew : insW ("pick", [Arg.ways wl]) = cs "pick" :: (pArgs wl).map oneW := by
        rw [← pArgs_words]
        show cs "pick" :: ((wl.flatMap fun x => [cs x.1, numC x.2]) ++ []) = _
        rw [List.append_nil]
      have pl := pArgs_len wl
      have ecut : cutV (wordsV (insW ("pick", [Arg.ways wl]))) (some 1) none = wordsV ((pArgs wl).map oneW) := by
        rw [ew]; exact cutL_1 _ _
      have em : ((((wordsV (insW ("pick", [Arg.ways wl]))).length : Nat) : Int) / 2) = ((wl.length : Nat) : Int) := by
        rw [ew]
        unfold wordsV
        rw [List.length_map, List.length_cons, List.length_map, pl]; omega
      walk_at "st"
      rw [em, ecut]
      intro l1 hl1
      have s1 := Same.upd_new (x := .lst (wordsV ((pArgs wl).map oneW))) hl1
      have el1 : upd H l1 (.lst (wordsV ((pArgs wl).map oneW))) l1 = some (.lst (wordsV ((pArgs wl).map oneW))) := upd_same
      generalize upd H l1 (.lst (wordsV ((pArgs wl).map oneW))) = H1 at *
      walk_at "st"
      refine r_dt hwl ?_
      walk_at "st"
      obtain ⟨la, fa⟩ := (dt_ask (p := p) hws2).ok
      refine ⟨l1, pArgs wl, _, p, rfl, el1, la, by omega, fa, fun t H2 s2 ht => ?_⟩
      have nz : ¬ ((wl.length : Nat) : Int) = 0 := by omega
      walk_at "st"
      walk_at "if"
      rw [if_neg (by simp)]
      walk_at "st"
      rw [if_neg (by simpa using nz)]
      obtain ⟨a1, a2⟩ := pArgs_alt wl
      walk_at "st"
      refine ⟨t, _, rfl, SqT.of ht, fun p1 hp1 => ?_⟩
      rw [List.drop_zero, a1]
      have ht2 := hl_new (u := .tup (wl.map fun x => V.str x.1)) ht hp1
      walk_at "st"
      refine ⟨t, _, rfl, SqT.of ht2, fun p2 hp2 => ?_⟩
      rw [a2]
      walk_at "st"
      have s3 := (s2.trans (Same.upd_new (x := .tup (wl.map fun x => V.str x.1)) hp1)).trans (Same.upd_new (x := .tup (wl.map fun x => V.int x.2)) hp2)
      refine ⟨p1, p2, _, _, rfl, SqT.of (hl_new upd_same hp2), SqT.of upd_same, by rw [List.length_map, List.length_map], by rw [List.length_map]; omega, fun ps p3 H4 s4 lp zp ep => ?_⟩
      walk_at "st"
      intro t5 ht5
      have s5 := Same.upd_new (x := .tup [V.str "pick", .ref p3]) ht5
      refine q (.ref t5) _ (((s1.trans s3).trans s4).trans s5) ⟨t5, rfl⟩ ⟨t5, [.ref p3], rfl, upd_same, .cons ⟨p3, _, rfl, s5 _ _ ep, ?_⟩ .nil⟩
      rw [List.length_map] at lp
      refine ⟨by rw [List.length_map]; exact lp, fun i u eu => ?_⟩
      rw [List.getElem?_map] at eu
      cases e : ps[i]? with
      | none => rw [e] at eu; cases eu
      | some p5 =>
        rw [e] at eu
        obtain rfl : V.ref p5 = u := Option.some.inj eu
        obtain ⟨x, y, ex, ey, hp5⟩ := zp i p5 e
        rw [List.getElem?_map] at ex ey
        cases e9 : wl[i]? with
        | none => rw [e9] at ex; cases ex
        | some x9 =>
          rw [e9] at ex ey
          obtain rfl := Option.some.inj ex
          obtain rfl := Option.some.inj ey
          exact ⟨x9, rfl, p5, rfl, s5 _ _ hp5⟩
    · rw [decide_eq_false c1, if_pos (by decide)]
      have fa := plain_args g c1 hn hp
      have l4 := (good_args g).1
      have ecut : cutV (wordsV (insW x)) (some 1) none = wordsV (x.2.map oneW) := by
        unfold insW; rw [flat_eq fa]; exact cutL_1 _ _
      have no : ∀ q ∈ shapesS, ¬ q.1 = "pick" → 119 ∉ cs q.2 := by decide +kernel
      have n9 := no _ msh c1
      walk_at "st"
      rw [ecut]
      intro l1 hl1
      have s1 := Same.upd_new (x := .lst (wordsV (x.2.map oneW))) hl1
      have el1 : upd H l1 (.lst (wordsV (x.2.map oneW))) l1 = some (.lst (wordsV (x.2.map oneW))) := upd_same
      generalize upd H l1 (.lst (wordsV (x.2.map oneW))) = H1 at *
      have hl1' := s1 _ _ hl
      walk_at "st"
      refine ⟨c_SHAPES, x.1, .str sh, rfl, rfl, T.sh_SHAPES.get msh, ?_⟩
      walk_at "st"
      refine ⟨l1, x.2, sh, p, rfl, el1, lsh, by omega, fun i c a e1 e2 => asked_of (ft i c a e1 e2) hn hp (fun e => n9 (by rw [← e]; exact List.mem_of_getElem? e1)), fun t H2 s2 ht => ?_⟩
      have hl2 := s2 _ _ hl1'
      walk_at "st"
      rw [if_neg (by simp)]
      walk_at "st"
      intro t1 ht1
      have s3 := Same.upd_new (x := .tup [V.str x.1]) ht1
      walk_at "st"
      refine r_catX upd_same (s3 _ _ ht) (by rw [List.length_map]; show 1 + _ ≤ _; omega) fun t5 H5 s5 h5 => ?_
      exact q (.ref t5) H5 (((s1.trans s2).trans s3).trans s5) ⟨t5, rfl⟩ ⟨t5, _, rfl, h5, al_val fa⟩
end
local macro_rules | `(tactic| walk_at "ssz") => `(tactic| first | decide | exact str_small (by assumption) | (have : (1000000 : Nat) ≤ sizeLine := (by decide); omega))
local macro_rules | `(tactic| walk_at "st1") => `(tactic| first
  | with_reducible refine' r_nt ?_ | with_reducible refine' r_nf ?_
  | ((with_reducible refine r_lenS ?e1 ?_); (case e1 => walk_at "ssz"))
  | with_reducible refine r_inS ?_
  | with_reducible refine r_ninS ?_
  | ((with_reducible refine r_addS ?e1 ?_); (case e1 => walk_at "ssz"))
  | ((with_reducible refine' r_ixS ?e1 ?e2 ?_); (case e1 => walk_at "ssz"); (case e2 => first | assumption | rfl))
  | with_reducible refine r_istr ?_
  | with_reducible refine r_is ?_
  | with_reducible refine r_un ?_
  | with_reducible refine r_u ?_)
local macro_rules | `(tactic| walk_at "st1") => `(tactic| first
  | with_reducible refine r_tru ?_
  | ((with_reducible refine' r_truT ?e1 ?_); (case e1 => walk_at "sq"))
  | with_reducible refine r_isN ?_
  | with_reducible refine r_tyS ?_
  | with_reducible refine r_m1 ?_
  | with_reducible refine r_sx ?_
  | ((with_reducible refine r_strC ?e1 ?_); (case e1 => omega)))
local macro_rules | `(tactic| walk_at "st1") => `(tactic| first
  | with_reducible refine r_par ?_
  | with_reducible refine r_parx ?_
  | ((with_reducible refine' r_gtup ?e1 ?e2 ?_); (case e1 => walk_at "sq"); (case e2 => rfl))
  | with_reducible refine r_gcons ?_
  | with_reducible refine r_gnil ?_
  | with_reducible refine r_ient ?_
  | ((with_reducible refine' r_ent ?e1 ?_); (case e1 => walk_at "sq")))
local macro_rules | `(tactic| walk_at "st1") => `(tactic| first
  | with_reducible refine' r_nt ?_
  | with_reducible refine' r_nf ?_
  | with_reducible refine r_un ?_
  | with_reducible refine r_u ?_)
local macro_rules | `(tactic| walk_at "st1") => `(tactic| first
  | with_reducible refine r_fld ?_
  | with_reducible refine r_sfld ?_
  | ((with_reducible refine' r_fldr ?e1 ?e2 ?e3 ?e4 ?_); (case e1 => walk_at "hl"); (case e2 => assumption); (case e3 => assumption); (case e4 => assumption)))
/-! ### the reader of coded texts: its fields -/
def rIsNNn : R2 := fun x y H Q => y = .non ∧ Q (.bl (!decide (x = .non))) H
theorem op_isNNn {X : Cx} : OpR X (compareOp .IsNot) rIsNNn := op_notN
theorem r_isNN {x : V} {H : Hp} {Q : VK} (q : Q (.bl (!decide (x = .non))) H) : rIsNNn x .non H Q := ⟨rfl, q⟩
theorem putF_len {f : Str} {v : V} : ∀ {fs : List (Str × V)}, (fs.lookup f).isSome = true → (putF f v fs).length = fs.length
  | [], h => by cases h
  | (g, x) :: r, h => by
    unfold putF
    by_cases c : g = f
    · rw [if_pos c]; rfl
    · rw [if_neg c, List.length_cons, List.length_cons]
      have h2 : (r.lookup f).isSome = true := by
        rw [List.lookup_cons] at h
        have : (f == g) = false := beq_false_of_ne fun e => c e.symm
        rw [this] at h
        exact h
      rw [putF_len h2]
theorem pl {f : Str} {v : V} {n : Nat} : ∀ {fs : List (Str × V)}, fs.length ≤ n → (putF f v fs).length ≤ n + 1
  | [], _ => Nat.succ_le_succ (Nat.zero_le _)
  | (g, x) :: r, h => by
    unfold putF
    by_cases c : g = f
    · rw [if_pos c]; exact Nat.le_trans h (Nat.le_succ _)
    · rw [if_neg c, List.length_cons]
      cases n with
      | zero => simp at h
      | succ n => exact Nat.succ_le_succ (pl (by simpa using h))
def MethsR (m : Str) : Prop := ¬ m = "p" ∧ ¬ m = "cells" ∧ ¬ m = "heads" ∧ ¬ m = "codes" ∧ ¬ m = "within"
structure FlS (fs : List (Str × V)) (pv : Int) (cv : V) (A B : Addr) (w : Bool) : Prop where
  len : fs.length ≤ 10
  p : fs.lookup ("p" : Str) = some (.int pv)
  cells : fs.lookup ("cells" : Str) = some cv
  heads : fs.lookup ("heads" : Str) = some (.ref A)
  codes : fs.lookup ("codes" : Str) = some (.ref B)
  within : fs.lookup ("within" : Str) = some (.bl w)
  no : ∀ m : Str, MethsR m → fs.lookup m = none
section
variable {fs : List (Str × V)} {pv : Int} {cv : V} {A B : Addr} {w : Bool}
theorem FlS.setP (h : FlS fs pv cv A B w) (q : Int) : FlS (putF "p" (.int q) fs) q cv A B w :=
  ⟨by rw [putF_len (by rw [h.p]; rfl)]; exact h.len, by rw [lookup_putF, if_pos rfl], by rw [lookup_putF, if_neg (by decide)]; exact h.cells, by rw [lookup_putF, if_neg (by decide)]; exact h.heads, by rw [lookup_putF, if_neg (by decide)]; exact h.codes,
    by rw [lookup_putF, if_neg (by decide)]; exact h.within, fun m k => by rw [lookup_putF, if_neg k.1]; exact h.no m k⟩
theorem FlS.setC (h : FlS fs pv cv A B w) (q : V) : FlS (putF "cells" q fs) pv q A B w :=
  ⟨by rw [putF_len (by rw [h.cells]; rfl)]; exact h.len, by rw [lookup_putF, if_neg (by decide)]; exact h.p, by rw [lookup_putF, if_pos rfl], by rw [lookup_putF, if_neg (by decide)]; exact h.heads, by rw [lookup_putF, if_neg (by decide)]; exact h.codes,
    by rw [lookup_putF, if_neg (by decide)]; exact h.within, fun m k => by rw [lookup_putF, if_neg k.2.1]; exact h.no m k⟩
theorem FlS.setW (h : FlS fs pv cv A B w) (q : Bool) : FlS (putF "within" (.bl q) fs) pv cv A B q :=
  ⟨by rw [putF_len (by rw [h.within]; rfl)]; exact h.len, by rw [lookup_putF, if_neg (by decide)]; exact h.p, by rw [lookup_putF, if_neg (by decide)]; exact h.cells, by rw [lookup_putF, if_neg (by decide)]; exact h.heads, by rw [lookup_putF, if_neg (by decide)]; exact h.codes,
    by rw [lookup_putF, if_pos rfl], fun m k => by rw [lookup_putF, if_neg k.2.2.2.2]; exact h.no m k⟩
end
theorem flS0 (A B : Addr) : FlS (putF "within" (.bl false) (putF "codes" (.ref B) (putF "heads" (.ref A) (putF "cells" .non (putF "p" (.int 0) []))))) 0 .non A B false :=
  ⟨by
    have h1 : ¬ (Str.ofString "p" = Str.ofString "cells") := by decide
    have h2 : ¬ (Str.ofString "p" = Str.ofString "heads") := by decide
    have h3 : ¬ (Str.ofString "cells" = Str.ofString "heads") := by decide
    have h4 : ¬ (Str.ofString "p" = Str.ofString "codes") := by decide
    have h5 : ¬ (Str.ofString "cells" = Str.ofString "codes") := by decide
    have h6 : ¬ (Str.ofString "heads" = Str.ofString "codes") := by decide
    have h7 : ¬ (Str.ofString "p" = Str.ofString "within") := by decide
    have h8 : ¬ (Str.ofString "cells" = Str.ofString "within") := by decide
    have h9 : ¬ (Str.ofString "heads" = Str.ofString "within") := by decide
    have h10 : ¬ (Str.ofString "codes" = Str.ofString "within") := by decide
    simp [putF, h1, h2, h3, h4, h5, h6, h7, h8, h9, h10],
  by rw [lookup_putF, if_neg (by decide), lookup_putF, if_neg (by decide), lookup_putF, if_neg (by decide), lookup_putF, if_neg (by decide), lookup_putF, if_pos rfl],
  by rw [lookup_putF, if_neg (by decide), lookup_putF, if_neg (by decide), lookup_putF, if_neg (by decide), lookup_putF, if_pos rfl],
  by rw [lookup_putF, if_neg (by decide), lookup_putF, if_neg (by decide), lookup_putF, if_pos rfl],
  by rw [lookup_putF, if_neg (by decide), lookup_putF, if_pos rfl],
  by rw [lookup_putF, if_pos rfl],
  fun m k => by rw [lookup_putF, if_neg k.2.2.2.2, lookup_putF, if_neg k.2.2.2.1, lookup_putF, if_neg k.2.2.1, lookup_putF, if_neg k.2.1, lookup_putF, if_neg k.1]; rfl⟩
structure RState where
  p : Int
  cells : V
  within : Bool
  heads : List (Str × Int)
  codes : List (List Ins)
structure RdS (C : Addr) (H : Hp) (r A B : Addr) (ls : List Addr) (st : RState) : Prop where
  ob : ∃ dx fs, H r = some (.ins C dx fs) ∧ FlS fs st.p st.cells A B st.within
  nd : (A :: B :: ls).Nodup
  heads : ∃ ua, H A = some (.lst ua) ∧ Al (WayI H) ua st.heads
  cods : H B = some (.lst (ls.map V.ref))
  len : ls.length = st.codes.length
  row : ∀ (i : Nat) (l : Addr), ls[i]? = some l → ∃ code us, st.codes[i]? = some code ∧ H l = some (.lst us) ∧ Al (InsV H) us code
theorem RdS.same {C : Addr} {H H' : Hp} {r A B : Addr} {ls : List Addr} {st : RState} (h : RdS C H r A B ls st) (k : Same H H') : RdS C H' r A B ls st := by
  obtain ⟨⟨dx, fs, hr, fl⟩, nd, ⟨ua, hA, al⟩, hB, len, row⟩ := h
  exact ⟨⟨dx, fs, k _ _ hr, fl⟩, nd, ⟨ua, k _ _ hA, al.imp fun u x h => by obtain ⟨t, e, ht⟩ := h; exact ⟨t, e, k _ _ ht⟩⟩, k _ _ hB, len, fun i l e => by
    obtain ⟨code, us, ec, hl, a⟩ := row i l e
    exact ⟨code, us, ec, k _ _ hl, a.imp fun u x h => h.same k⟩⟩
inductive Stp : RState → List Nat → RState → Prop
  | prime {p : Int} (h : PrimeI p) : Stp ⟨0, .non, false, [], []⟩ (joinC [cs "prime", numC p]) ⟨p, .non, false, [], []⟩
  | cells {p : Int} {hid : Nat} (h : PrimeI p) (k : hid ≤ 3) : Stp ⟨p, .non, false, [], []⟩ (joinC [cs "cells", numC (hid : Nat)]) ⟨p, .int (hid : Nat), false, [], []⟩
  | deed {p : Int} {hid : Nat} {hs : List (Str × Int)} {cds : List (List Ins)} {z : Str} {m : Int} (h : PrimeI p) (n : NameS z) (k : 0 ≤ m ∧ m < 4) (l : cds.length ≤ 10 ∧ hs.length ≤ 10) : Stp ⟨p, .int (hid : Nat), false, hs, cds⟩ (joinC [cs "deed", cs z, numC m]) ⟨p, .int (hid : Nat), true, hs ++ [(z, m)], cds ++ [[]]⟩
  | ins {p n : Int} {hid hid2 : Nat} {hs : List (Str × Int)} {cds : List (List Ins)} {code : List Ins} {x : Ins} (h : PrimeI p) (g : GoodI hid2 n p x) (hn : n ≤ 400) (l : code.length ≤ 400) : Stp ⟨p, .int (hid : Nat), true, hs, cds ++ [code]⟩ (insL x) ⟨p, .int (hid : Nat), true, hs, cds ++ [code ++ [x]]⟩
  | fin {p : Int} {hid : Nat} {hs : List (Str × Int)} {cds : List (List Ins)} : Stp ⟨p, .int (hid : Nat), true, hs, cds⟩ (joinC [cs "end"]) ⟨p, .int (hid : Nat), false, hs, cds⟩
def sp_CodeReader___init__ (_ : PySem.W.Frag) (C : Addr) : Sp := fun vs H Q _ => ∃ (r dx : Addr), vs = [.ref r] ∧ H r = some (.ins C dx []) ∧
  ∀ (A B : Addr) (H' : Hp), (∀ b o, H b = some o → b ≠ r → H' b = some o) → H A = none → H B = none → RdS C H' r A B [] ⟨0, .non, false, [], []⟩ → Q .non H'
def sp_CodeReader_rests (_ : PySem.W.Frag) (C : Addr) : Sp := fun vs H Q _ => ∃ (r A B : Addr) (ls : List Addr) (st : RState) (hid : Nat), vs = [.ref r] ∧ RdS C H r A B ls st ∧ st.cells = .int (hid : Nat) ∧ st.within = false ∧ Q (.bl true) H
section
variable {P : Program} {w : World} {K : PySem.W.Frag} {mg : Str → Option Value} {base : Heap}
theorem ok_CodeReader___init__ {c_Coded : Addr} {c_Machine : Addr} {c_CodeReader : Addr} {c_REGISTERS : Addr} {c_CELLS : Addr} {c_SHAPES : Addr} (T : Tx K mg c_Coded c_Machine c_CodeReader c_REGISTERS c_CELLS c_SHAPES w)  {f : Addr} {fd : FuncData} (F : HereI K c_CodeReader "__init__" "CodeReader.__init__" s_CodeReader___init__ ["self"] f fd) : CalI P w K mg base c_CodeReader "__init__" 1 ["self"] (sp_CodeReader___init__ K c_CodeReader) s_CodeReader___init__ f fd := by
  refine F.cal sc_CodeReader___init__ (fun vs H Q E h => ?_) (fun cdv A outer s H vs Q E hr h => ?_)
  · obtain ⟨r, dx, rfl, _⟩ := h
    rfl
  · obtain ⟨r, dx, rfl, hr0, q⟩ := h
    refine ⟨_, (pss_cons (ps_fldK (K := K) (pv 0) pe_int rfl)
      (pss_cons (ps_fldK (K := K) (pv 0) pe_non rfl)
      (pss_cons (ps_fldK (K := K) (pv 0) (pe_lst pa_nil) rfl)
      (pss_cons (ps_fldK (K := K) (pv 0) (pe_lst pa_nil) rfl)
      (pss_one (ps_fldK (K := K) (pv 0) pe_bl rfl)))))), ?_⟩
    have cl := T.cl_CodeReader
    walk_at "st"
    refine r_sfr hr0 cl T.na_CodeReader_p (by show 0 < 1000; decide) ?_
    walk_at "st"
    refine r_sfr upd_same cl T.na_cells (by decide +kernel) ?_
    have k2 : ∀ b o, H b = some o → b ≠ r → upd (upd H r (.ins c_CodeReader dx (putF "p" (.int 0) []))) r (.ins c_CodeReader dx (putF "cells" .non (putF "p" (.int 0) []))) b = some o := fun b o e n => hl_set n (hl_set n e)
    have b2 : ∀ b, upd (upd H r (.ins c_CodeReader dx (putF "p" (.int 0) []))) r (.ins c_CodeReader dx (putF "cells" .non (putF "p" (.int 0) []))) b = none → H b = none := fun b e => by
      have n : b ≠ r := fun z => by rw [z, upd_same] at e; cases e
      rw [upd_ne n, upd_ne n] at e; exact e
    have e2 : upd (upd H r (.ins c_CodeReader dx (putF "p" (.int 0) []))) r (.ins c_CodeReader dx (putF "cells" .non (putF "p" (.int 0) []))) r = some (.ins c_CodeReader dx (putF "cells" .non (putF "p" (.int 0) []))) := upd_same
    generalize upd (upd H r (.ins c_CodeReader dx (putF "p" (.int 0) []))) r (.ins c_CodeReader dx (putF "cells" .non (putF "p" (.int 0) []))) = H2 at *
    walk_at "st"
    intro A hA
    have nAr : A ≠ r := fun z => by rw [z, e2] at hA; cases hA
    walk_at "st"
    refine r_sfr (hl_new e2 hA) cl T.na_heads (by decide +kernel) ?_
    walk_at "st"
    intro B hB
    have nBr : B ≠ r := fun z => by rw [z, upd_same] at hB; cases hB
    have nBA : B ≠ A := fun z => by rw [z, upd_ne nAr, upd_same] at hB; cases hB
    have hB2 : H2 B = none := by rw [upd_ne nBr, upd_ne nBA] at hB; exact hB
    walk_at "st"
    refine r_sfr (hl_new upd_same hB) cl T.na_codes (Nat.lt_of_le_of_lt (pl (pl (pl (n := 0) (Nat.le_refl 0)))) (by decide)) ?_
    walk_at "st"
    refine r_sfr upd_same cl T.na_within (Nat.lt_of_le_of_lt (pl (pl (pl (pl (n := 0) (Nat.le_refl 0))))) (by decide)) ?_
    refine q A B _ (fun b o e n => ?_) (b2 A hA) (b2 B hB2) ⟨⟨dx, _, upd_same, flS0 A B⟩, by simp [nBA.symm], ⟨[], ?_, .nil⟩, ?_, rfl, fun i l e => by simp at e⟩
    · have h1 := k2 b o e n
      have nA : b ≠ A := ne_of_none h1 hA
      have nB : b ≠ B := ne_of_none h1 hB2
      exact hl_set n (hl_set n (hl_set nB (hl_set n (hl_set nA h1))))
    · exact hl_set nAr (hl_set nAr (hl_set nBA.symm (hl_set nAr upd_same)))
    · exact hl_set nBr (hl_set nBr upd_same)
theorem ok_CodeReader_rests {c_Coded : Addr} {c_Machine : Addr} {c_CodeReader : Addr} {c_REGISTERS : Addr} {c_CELLS : Addr} {c_SHAPES : Addr} (T : Tx K mg c_Coded c_Machine c_CodeReader c_REGISTERS c_CELLS c_SHAPES w)  {f : Addr} {fd : FuncData} (F : HereM K c_CodeReader "rests" "CodeReader.rests" s_CodeReader_rests ["self"] f fd) : CalM P w K mg base c_CodeReader "rests" 1 ["self"] (sp_CodeReader_rests K c_CodeReader) s_CodeReader_rests f fd := by
  refine F.cal sc_CodeReader_rests (fun vs H Q E h => ?_) (fun cdv A outer s H vs Q E hr h => ?_)
  · obtain ⟨r, A, B, ls, st, hid, rfl, _⟩ := h
    rfl
  · obtain ⟨r, A, B, ls, st, hid, rfl, R, ec, ew, q⟩ := h
    refine ⟨_, (pss_one (ps_ret (pe_and (pe_cmpR op_isNNn (pe_fldK (K := K) (pv 0) rfl) pe_non (nomark _)) (pe_one (pe_not (pe_fldK (K := K) (pv 0) rfl)))))), ?_⟩
    obtain ⟨⟨dx, fs, hr0, fl⟩, _⟩ := R
    have cl := T.cl_CodeReader
    have n1 := T.na_cells
    have n2 := T.na_within
    have l1 := fl.cells
    have l2 := fl.within
    rw [ec] at l1
    rw [ew] at l2
    walk_at "st"
    refine r_isNN ?_
    walk_at "st"
    rw [if_pos (by simp)]
    walk_at "st"
    exact q
end
local macro_rules | `(tactic| walk_at "ssz") => `(tactic| first | decide | exact str_small (by assumption) | (have : (1000000 : Nat) ≤ sizeLine := (by decide); omega))
local macro_rules | `(tactic| walk_at "st1") => `(tactic| first
  | with_reducible refine' r_nt ?_ | with_reducible refine' r_nf ?_
  | ((with_reducible refine r_lenS ?e1 ?_); (case e1 => walk_at "ssz"))
  | with_reducible refine r_inS ?_
  | with_reducible refine r_ninS ?_
  | ((with_reducible refine r_addS ?e1 ?_); (case e1 => walk_at "ssz"))
  | ((with_reducible refine' r_ixS ?e1 ?e2 ?_); (case e1 => walk_at "ssz"); (case e2 => first | assumption | rfl))
  | with_reducible refine r_istr ?_
  | with_reducible refine r_is ?_
  | with_reducible refine r_un ?_
  | with_reducible refine r_u ?_)
local macro_rules | `(tactic| walk_at "st1") => `(tactic| first
  | with_reducible refine r_tru ?_
  | ((with_reducible refine' r_truT ?e1 ?_); (case e1 => walk_at "sq"))
  | with_reducible refine r_isN ?_
  | with_reducible refine r_tyS ?_
  | with_reducible refine r_m1 ?_
  | with_reducible refine r_sx ?_
  | ((with_reducible refine r_strC ?e1 ?_); (case e1 => omega)))
local macro_rules | `(tactic| walk_at "st1") => `(tactic| first
  | with_reducible refine r_par ?_
  | with_reducible refine r_parx ?_
  | ((with_reducible refine' r_gtup ?e1 ?e2 ?_); (case e1 => walk_at "sq"); (case e2 => rfl))
  | with_reducible refine r_gcons ?_
  | with_reducible refine r_gnil ?_
  | with_reducible refine r_ient ?_
  | ((with_reducible refine' r_ent ?e1 ?_); (case e1 => walk_at "sq")))
local macro_rules | `(tactic| walk_at "st1") => `(tactic| first
  | with_reducible refine' r_nt ?_
  | with_reducible refine' r_nf ?_
  | with_reducible refine r_un ?_
  | with_reducible refine r_u ?_)
local macro_rules | `(tactic| walk_at "st1") => `(tactic| first
  | with_reducible refine r_fld ?_
  | with_reducible refine r_sfld ?_
  | ((with_reducible refine' r_fldr ?e1 ?e2 ?e3 ?e4 ?_); (case e1 => walk_at "hl"); (case e2 => assumption); (case e3 => assumption); (case e4 => assumption)))
/-! ### the reader reads a row -/
def MthR2 (C : Addr) (m : Str) (sp : Sp) (dvs : List V) (E : XK) (t : TA) (σ : L2.St) (Q : VK) (x : V) (H1 : Hp) : Prop := ∃ a dx fs, x = .ref a ∧ H1 a = some (.ins C dx fs) ∧ fs.lookup m = none ∧ t σ H1 fun vs H2 => sp (x :: (vs ++ dvs)) H2 Q E
theorem r_mth2 {C : Addr} {m : Str} {sp : Sp} {dvs : List V} {E : XK} {ta : TE} {t : TA} {σ : L2.St} {H : Hp} {Q : VK} (h : ta σ H (MthR2 C m sp dvs E t σ Q)) : tMeth C m sp dvs E ta t σ H Q := h
theorem r_mthR {C x A B : Addr} {m : Str} {sp : Sp} {dvs : List V} {E : XK} {t : TA} {σ : L2.St} {H : Hp} {Q : VK} {ls : List Addr} {st : RState} (R : RdS C H x A B ls st) (h1 : MethsR m) (q : t σ H fun vs H2 => sp (.ref x :: (vs ++ dvs)) H2 Q E) : MthR2 C m sp dvs E t σ Q (.ref x) H := by
  obtain ⟨⟨dx, fs, hr0, fl⟩, _⟩ := R
  exact ⟨x, dx, fs, rfl, hr0, fl.no m h1, q⟩
local macro_rules | `(tactic| walk_at "st1") => `(tactic| first
  | with_reducible refine r_mth2 ?_
  | ((with_reducible refine' r_mthR ?e0 ?e1 ?_); (case e0 => assumption); (case e1 => exact ⟨by decide, by decide, by decide, by decide, by decide⟩)))
def Kr (r A B : Addr) (ls : List Addr) (H H' : Hp) : Prop := ∀ b o, H b = some o → b ∉ r :: A :: B :: ls → H' b = some o
/-- the last list grows -/
theorem RdS.grow {C : Addr} {H : Hp} {r A B le t : Addr} {ls0 : List Addr} {p : Int} {cv : V} {w : Bool} {hs : List (Str × Int)} {cds : List (List Ins)} {code : List Ins} {x : Ins} {us : List V} (h : RdS C H r A B (ls0 ++ [le]) ⟨p, cv, w, hs, cds ++ [code]⟩)
    (hle : H le = some (.lst us)) (iv : InsV H (.ref t) x) : RdS C (upd H le (.lst (us ++ [.ref t]))) r A B (ls0 ++ [le]) ⟨p, cv, w, hs, cds ++ [code ++ [x]]⟩ := by
  obtain ⟨⟨dx, fs, hr, fl⟩, nd, ⟨ua, hA, al⟩, hB, len, row⟩ := h
  have nd1 := List.nodup_cons.mp nd
  have nd2 := List.nodup_cons.mp nd1.2
  have nA : A ≠ le := fun e => nd1.1 (by rw [e]; simp)
  have nB : B ≠ le := fun e => nd2.1 (by rw [e]; simp)
  have nr : r ≠ le := fun e => by rw [e, hle] at hr; cases hr
  have kt := KeepT.lst (o := .lst (us ++ [.ref t])) hle
  have l0 : ls0.length = cds.length := by
    have := len
    rw [List.length_append] at this
    have e : (RState.codes ⟨p, cv, w, hs, cds ++ [code]⟩).length = cds.length + 1 := by show (cds ++ [code]).length = _; rw [List.length_append]; rfl
    rw [e] at this
    exact Nat.succ.inj this
  refine ⟨⟨dx, fs, hl_set nr hr, fl⟩, nd, ⟨ua, hl_set nA hA, al.imp fun u y h => h.tup kt⟩, hl_set nB hB, ?_, fun i l e => ?_⟩
  · show (ls0 ++ [le]).length = (cds ++ [code ++ [x]]).length
    rw [List.length_append, List.length_append, l0]; rfl
  · by_cases c : i < ls0.length
    · obtain ⟨cd, us2, ec, hl, a⟩ := row i l e
      rw [List.getElem?_append_left c] at e
      have ec : (cds ++ [code])[i]? = some cd := ec
      rw [List.getElem?_append_left (by omega)] at ec
      have nl : l ≠ le := fun z => by
        have h1 := (List.nodup_append.mp nd2.2).2.2 l (List.mem_of_getElem? e) le (by simp)
        exact h1 z
      refine ⟨cd, us2, ?_, hl_set nl hl, a.imp fun u y h => h.tup kt⟩
      show (cds ++ [code ++ [x]])[i]? = some cd
      rw [List.getElem?_append_left (by omega)]; exact ec
    · have hi := (List.getElem?_eq_some_iff.mp e).1
      rw [List.length_append] at hi
      have hi : i = ls0.length := by have : i < ls0.length + 1 := hi; omega
      obtain ⟨cd, us2, ec, hl, a⟩ := row i l e
      rw [hi, List.getElem?_append_right (Nat.le_refl _), Nat.sub_self] at e
      obtain rfl := Option.some.inj (show some le = some l from e)
      have ec : (cds ++ [code])[i]? = some cd := ec
      rw [hi, l0, List.getElem?_append_right (Nat.le_refl _), Nat.sub_self] at ec
      obtain rfl := Option.some.inj (show some code = some cd from ec)
      obtain rfl : us2 = us := by rw [hle] at hl; cases hl; rfl
      refine ⟨code ++ [x], us2 ++ [.ref t], ?_, upd_same, (a.imp fun u y h => h.tup kt).snoc (iv.tup kt)⟩
      show (cds ++ [code ++ [x]])[i]? = _
      rw [hi, l0, List.getElem?_append_right (Nat.le_refl _), Nat.sub_self]; rfl
def sp_CodeReader_reads_instruction (_ : PySem.W.Frag) (C : Addr) : Sp := fun vs H Q _ => ∃ (r A B l : Addr) (ls : List Addr) (p n : Int) (hid hid2 : Nat) (hs : List (Str × Int)) (cds : List (List Ins)) (code : List Ins) (x : Ins), vs = [.ref r, .ref l] ∧ RdS C H r A B ls ⟨p, .int (hid : Nat), true, hs, cds ++ [code]⟩ ∧
  H l = some (.lst (wordsV (insW x))) ∧ PrimeI p ∧ GoodI hid2 n p x ∧ n ≤ 400 ∧ code.length ≤ 400 ∧ ∀ H', Kr r A B ls H H' → RdS C H' r A B ls ⟨p, .int (hid : Nat), true, hs, cds ++ [code ++ [x]]⟩ → Q (.bl true) H'
section
variable {P : Program} {w : World} {K : PySem.W.Frag} {mg : Str → Option Value} {base : Heap}
theorem ok_CodeReader_reads_instruction {c_Coded : Addr} {c_Machine : Addr} {c_CodeReader : Addr} {c_REGISTERS : Addr} {c_CELLS : Addr} {c_SHAPES : Addr} (T : Tx K mg c_Coded c_Machine c_CodeReader c_REGISTERS c_CELLS c_SHAPES w) {f_instruction_told : Addr} {fd_instruction_told : FuncData} (C_instruction_told : Cal P w K mg base "instruction_told" 5 ["words", "p"] (sp_instruction_told K) s_instruction_told f_instruction_told fd_instruction_told) {f : Addr} {fd : FuncData} (F : HereM K c_CodeReader "reads_instruction" "CodeReader.reads_instruction" s_CodeReader_reads_instruction ["self", "words"] f fd) : CalM P w K mg base c_CodeReader "reads_instruction" 6 ["self", "words"] (sp_CodeReader_reads_instruction K c_CodeReader) s_CodeReader_reads_instruction f fd := by
  refine F.cal sc_CodeReader_reads_instruction (fun vs H Q E h => ?_) (fun cdv A' outer s H vs Q E hr h => ?_)
  · obtain ⟨r, A, B, l, ls, p, n, hid, hid2, hs, cds, code, x, rfl, _⟩ := h
    rfl
  · obtain ⟨r, A, B, l, ls, p, n, hid, hid2, hs, cds, code, x, rfl, R, hl, hp, g, hn, lc, q⟩ := h
    refine ⟨_, (pss_cons (ps_set (i := 2) sc_CodeReader_reads_instruction.nd rfl (by first | exact .inl rfl | exact .inr rfl) (pe_call C_instruction_told.ok (hr.mono (by decide)) (by rfl) C_instruction_told.at_ C_instruction_told.kp C_instruction_told.b .nil pass0 (pa_cons (pv 1) (pa_cons (pe_fldK (K := K) (pv 0) rfl) pa_nil))))
      (pss_cons (ps_if (pt_cmpR op_isNn (pv 2) pe_non (nomark _)) (pss_one (ps_ret pe_bl)) pss_nil)
      (pss_cons (ps_expr (castBM (K := K) (pe_bm PySem.F.plainAttrs_list PySem.F.slot_list_append PySem.F.type_list_append mt_append (pe_ix (ix_listK (K := K)) (pe_fldK (K := K) (pv 0) rfl) (pe_un un_neg pe_int) (fun _ _ => rfl)) (pa_cons (pv 2) pa_nil))))
      (pss_one (ps_ret pe_bl))))), ?_⟩
    obtain ⟨⟨dx, fs, hr0, fl⟩, _⟩ := id R
    have cl := T.cl_CodeReader
    have n1 := T.na_CodeReader_p
    have n2 := T.na_codes
    have l1 := fl.p
    have l2 := fl.codes
    walk_at "st"
    refine ⟨l, x, hid2, n, p, rfl, hl, g, ⟨hn, hp.2.1⟩, fun v H1 s1 ht iv => ?_⟩
    obtain ⟨t, rfl⟩ := ht
    have R1 := R.same s1
    have hr1 := s1 _ _ hr0
    obtain ⟨_, nd, ⟨ua, hA, alA⟩, hB, len, row⟩ := id R1
    walk_at "st"
    walk_at "if"
    rw [if_neg (by simp)]
    walk_at "st"
    rcases List.eq_nil_or_concat ls with e | ⟨ls0, le, e⟩
    · rw [e] at len
      have : 0 = (cds ++ [code]).length := len
      simp at this
    rw [List.concat_eq_append] at e
    subst e
    have ll : ls0.length = cds.length := by
      have e : (ls0 ++ [le]).length = (cds ++ [code]).length := len
      rw [List.length_append, List.length_append] at e
      exact Nat.succ.inj e
    obtain ⟨cd, us, ec, hle, alc⟩ := row ls0.length le (by rw [List.getElem?_append_right (Nat.le_refl _), Nat.sub_self]; rfl)
    have ec : (cds ++ [code])[ls0.length]? = some cd := ec
    rw [ll, List.getElem?_append_right (Nat.le_refl _), Nat.sub_self] at ec
    obtain rfl := Option.some.inj (show some code = some cd from ec)
    rw [List.map_append] at hB
    have ix2 := atI_last (ls0.map V.ref) (V.ref le)
    have hB2 : H1 B = some (.lst (ls0.map V.ref ++ [V.ref le])) := hB
    refine r_ixl (SqL.of hB2) ix2 ?_
    refine ⟨.inl ⟨rfl, us, SqL.of hle⟩, ?_⟩
    walk_at "st"
    refine r_app0 hle (by rw [alc.1]; exact Nat.lt_of_le_of_lt lc (by decide)) ?_
    walk_at "st"
    exact q _ (fun b o e n => hl_set (fun z => n (by rw [z]; simp)) (s1 _ _ e)) (R1.grow hle iv)
end
local macro_rules | `(tactic| walk_at "ssz") => `(tactic| first | decide | exact str_small (by assumption) | (have : (1000000 : Nat) ≤ sizeLine := (by decide); omega))
local macro_rules | `(tactic| walk_at "st1") => `(tactic| first
  | with_reducible refine' r_nt ?_ | with_reducible refine' r_nf ?_
  | ((with_reducible refine r_lenS ?e1 ?_); (case e1 => walk_at "ssz"))
  | with_reducible refine r_inS ?_
  | with_reducible refine r_ninS ?_
  | ((with_reducible refine r_addS ?e1 ?_); (case e1 => walk_at "ssz"))
  | ((with_reducible refine' r_ixS ?e1 ?e2 ?_); (case e1 => walk_at "ssz"); (case e2 => first | assumption | rfl))
  | with_reducible refine r_istr ?_
  | with_reducible refine r_is ?_
  | with_reducible refine r_un ?_
  | with_reducible refine r_u ?_)
local macro_rules | `(tactic| walk_at "st1") => `(tactic| first
  | with_reducible refine r_tru ?_
  | ((with_reducible refine' r_truT ?e1 ?_); (case e1 => walk_at "sq"))
  | with_reducible refine r_isN ?_
  | with_reducible refine r_tyS ?_
  | with_reducible refine r_m1 ?_
  | with_reducible refine r_sx ?_
  | ((with_reducible refine r_strC ?e1 ?_); (case e1 => omega)))
local macro_rules | `(tactic| walk_at "st1") => `(tactic| first
  | with_reducible refine r_par ?_
  | with_reducible refine r_parx ?_
  | ((with_reducible refine' r_gtup ?e1 ?e2 ?_); (case e1 => walk_at "sq"); (case e2 => rfl))
  | with_reducible refine r_gcons ?_
  | with_reducible refine r_gnil ?_
  | with_reducible refine r_ient ?_
  | ((with_reducible refine' r_ent ?e1 ?_); (case e1 => walk_at "sq")))
local macro_rules | `(tactic| walk_at "st1") => `(tactic| first
  | with_reducible refine' r_nt ?_
  | with_reducible refine' r_nf ?_
  | with_reducible refine r_un ?_
  | with_reducible refine r_u ?_)
local macro_rules | `(tactic| walk_at "st1") => `(tactic| first
  | with_reducible refine r_fld ?_
  | with_reducible refine r_sfld ?_
  | ((with_reducible refine' r_fldr ?e1 ?e2 ?e3 ?e4 ?_); (case e1 => walk_at "hl"); (case e2 => assumption); (case e3 => assumption); (case e4 => assumption)))
/-! ### the reader reads a row that stands outside -/
theorem RdS.set {C : Addr} {H : Hp} {r A B dx dx0 : Addr} {ls : List Addr} {st st' : RState} {fs fs' : List (Str × V)} (h : RdS C H r A B ls st) (hr : H r = some (.ins C dx0 fs)) (fl : FlS fs' st'.p st'.cells A B st'.within) (e1 : st'.heads = st.heads) (e2 : st'.codes = st.codes) : RdS C (upd H r (.ins C dx fs')) r A B ls st' := by
  obtain ⟨_, nd, ⟨ua, hA, al⟩, hB, len, row⟩ := h
  have ne : ∀ {b xs}, H b = some (.lst xs) → b ≠ r := fun e z => by rw [z, hr] at e; cases e
  have kt : KeepT H (upd H r (.ins C dx fs')) := fun b xs e => hl_set (fun z => by rw [z, hr] at e; cases e) e
  refine ⟨⟨dx, fs', upd_same, fl⟩, nd, ⟨ua, hl_set (ne hA) hA, ?_⟩, hl_set (ne hB) hB, by rw [e2]; exact len, fun i l e => ?_⟩
  · rw [e1]; exact al.imp fun u y h => h.tup kt
  · obtain ⟨cd, us, ec, hl, a⟩ := row i l e
    exact ⟨cd, us, by rw [e2]; exact ec, hl_set (ne hl) hl, a.imp fun u y h => h.tup kt⟩
theorem RdS.deed {C : Addr} {H : Hp} {r A B l t : Addr} {ls : List Addr} {p : Int} {cv : V} {w : Bool} {hs : List (Str × Int)} {cds : List (List Ins)} {ua : List V} {x : Str × Int} (h : RdS C H r A B ls ⟨p, cv, w, hs, cds⟩) (hA : H A = some (.lst ua)) (ht : H t = some (.tup [.str x.1, .int x.2])) (hl : upd H A (.lst (ua ++ [.ref t])) l = none) :
    RdS C (upd (upd (upd H A (.lst (ua ++ [.ref t]))) l (.lst [])) B (.lst (ls.map V.ref ++ [.ref l]))) r A B (ls ++ [l]) ⟨p, cv, w, hs ++ [x], cds ++ [[]]⟩ := by
  obtain ⟨⟨dx, fs, hr, fl⟩, nd, ⟨ua2, hA2, al⟩, hB, len, row⟩ := h
  obtain rfl : ua2 = ua := by rw [hA] at hA2; cases hA2; rfl
  have nd1 := List.nodup_cons.mp nd
  have nd2 := List.nodup_cons.mp nd1.2
  have nAB : A ≠ B := fun e => nd1.1 (by rw [e]; simp)
  have nlA : l ≠ A := fun e => by rw [e, upd_same] at hl; cases hl
  have hl0 : H l = none := by rw [upd_ne nlA] at hl; exact hl
  have nlB : l ≠ B := fun e => by rw [e, hB] at hl0; cases hl0
  have nrA : r ≠ A := fun e => by rw [e, hA] at hr; cases hr
  have nrB : r ≠ B := fun e => by rw [e, hB] at hr; cases hr
  have nrl : r ≠ l := fun e => by rw [e, hl0] at hr; cases hr
  have keep : ∀ {b o}, H b = some o → b ≠ A → b ≠ B → upd (upd (upd H A (.lst (ua2 ++ [.ref t]))) l (.lst [])) B (.lst (ls.map V.ref ++ [.ref l])) b = some o := fun e n1 n2 => hl_set n2 (hl_set (ne_of_none e hl0) (hl_set n1 e))
  have kt : KeepT H (upd (upd (upd H A (.lst (ua2 ++ [.ref t]))) l (.lst [])) B (.lst (ls.map V.ref ++ [.ref l]))) := fun b xs e => keep e (fun z => by rw [z, hA] at e; cases e) (fun z => by rw [z, hB] at e; cases e)
  have lm : ∀ y ∈ ls, H y ≠ none := fun y m e => by
    obtain ⟨i, ei⟩ := List.getElem?_of_mem m
    obtain ⟨_, _, _, hy, _⟩ := row i y ei
    rw [hy] at e; cases e
  refine ⟨⟨dx, fs, keep hr nrA nrB, fl⟩, ?_, ⟨ua2 ++ [.ref t], hl_set nAB (hl_set nlA.symm upd_same), (al.imp fun u y h => h.tup kt).snoc ⟨t, rfl, kt _ _ ht⟩⟩, by rw [upd_same, List.map_append]; rfl, ?_, fun i y e => ?_⟩
  · have e9 : A :: B :: (ls ++ [l]) = (A :: B :: ls) ++ [l] := rfl
    rw [e9]
    refine List.nodup_append.mpr ⟨nd, by simp, fun a ma b mb e => ?_⟩
    rw [List.mem_singleton.mp mb] at e
    rcases List.mem_cons.mp ma with z | ma
    · exact nlA (by rw [← e, z])
    · rcases List.mem_cons.mp ma with z | ma
      · exact nlB (by rw [← e, z])
      · exact lm a ma (by rw [e]; exact hl0)
  · show (ls ++ [l]).length = (cds ++ [[]]).length
    have : ls.length = cds.length := len
    rw [List.length_append, List.length_append, this]; rfl
  · have ln : ls.length = cds.length := len
    by_cases c : i < ls.length
    · rw [List.getElem?_append_left c] at e
      obtain ⟨cd, us, ec, hy, a⟩ := row i y e
      have my := List.mem_of_getElem? e
      refine ⟨cd, us, ?_, keep hy (fun z => nd1.1 (by rw [← z]; exact List.mem_cons_of_mem _ my)) (fun z => nd2.1 (by rw [← z]; exact my)), a.imp fun u y h => h.tup kt⟩
      show (cds ++ [[]])[i]? = _
      rw [List.getElem?_append_left (by omega)]; exact ec
    · have hi := (List.getElem?_eq_some_iff.mp e).1
      rw [List.length_append] at hi
      have hi : i = ls.length := by have : i < ls.length + 1 := hi; omega
      rw [hi, List.getElem?_append_right (Nat.le_refl _), Nat.sub_self] at e
      obtain rfl := Option.some.inj (show some l = some y from e)
      refine ⟨[], [], ?_, hl_set nlB upd_same, .nil⟩
      show (cds ++ [[]])[i]? = _
      rw [hi, ln, List.getElem?_append_right (Nat.le_refl _), Nat.sub_self]; rfl
inductive StpO : RState → List (List Nat) → RState → Prop
  | prime {p : Int} (h : PrimeI p) : StpO ⟨0, .non, false, [], []⟩ [cs "prime", numC p] ⟨p, .non, false, [], []⟩
  | cells {p : Int} {hid : Nat} (h : PrimeI p) (k : hid ≤ 3) : StpO ⟨p, .non, false, [], []⟩ [cs "cells", numC (hid : Nat)] ⟨p, .int (hid : Nat), false, [], []⟩
  | deed {p : Int} {hid : Nat} {hs : List (Str × Int)} {cds : List (List Ins)} {z : Str} {m : Int} (h : PrimeI p) (n : NameS z) (k : 0 ≤ m ∧ m < 4) (l : cds.length ≤ 10 ∧ hs.length ≤ 10) : StpO ⟨p, .int (hid : Nat), false, hs, cds⟩ [cs "deed", cs z, numC m] ⟨p, .int (hid : Nat), true, hs ++ [(z, m)], cds ++ [[]]⟩
def sp_CodeReader_reads_outer (_ : PySem.W.Frag) (C : Addr) : Sp := fun vs H Q _ => ∃ (r A B l : Addr) (ls : List Addr) (st st' : RState) (ws : List (List Nat)), vs = [.ref r, .ref l] ∧ RdS C H r A B ls st ∧ H l = some (.lst (wordsV ws)) ∧ StpO st ws st' ∧
  ∀ ls' H', Kr r A B ls H H' → (∀ y ∈ ls', y ∈ ls ∨ H y = none) → RdS C H' r A B ls' st' → Q (.bl true) H'
section
variable {P : Program} {w : World} {K : PySem.W.Frag} {mg : Str → Option Value} {base : Heap}
theorem ok_CodeReader_reads_outer {c_Coded : Addr} {c_Machine : Addr} {c_CodeReader : Addr} {c_REGISTERS : Addr} {c_CELLS : Addr} {c_SHAPES : Addr} (T : Tx K mg c_Coded c_Machine c_CodeReader c_REGISTERS c_CELLS c_SHAPES w) {f_things_told : Addr} {fd_things_told : FuncData} (C_things_told : Cal P w K mg base "things_told" 4 ["words", "shape", "p"] (sp_things_told K) s_things_told f_things_told fd_things_told) {f_prime_told : Addr} {fd_prime_told : FuncData} (C_prime_told : Cal P w K mg base "prime_told" 3 ["words"] (sp_prime_told K) s_prime_told f_prime_told fd_prime_told) {f : Addr} {fd : FuncData} (F : HereM K c_CodeReader "reads_outer" "CodeReader.reads_outer" s_CodeReader_reads_outer ["self", "words"] f fd) : CalM P w K mg base c_CodeReader "reads_outer" 5 ["self", "words"] (sp_CodeReader_reads_outer K c_CodeReader) s_CodeReader_reads_outer f fd := by
  refine F.cal sc_CodeReader_reads_outer (fun vs H Q E h => ?_) (fun cdv A' outer s H vs Q E hr h => ?_)
  · obtain ⟨r, A, B, l, ls, st, st', ws, rfl, _⟩ := h
    rfl
  · obtain ⟨r, A, B, l, ls, st, st', ws, rfl, R, hl, stp, q⟩ := h
    refine ⟨_, (pss_cons (ps_if (pt_cmpR op_eq (pe_fldK (K := K) (pv 0) rfl) pe_int (nomark _)) (pss_cons (ps_fldK (K := K) (pv 0) (pe_call C_prime_told.ok (hr.mono (by decide)) (by rfl) C_prime_told.at_ C_prime_told.kp C_prime_told.b .nil pass0 (pa_cons (pv 1) pa_nil)) rfl)
      (pss_one (ps_ret (pe_cmpR op_ne (pe_fldK (K := K) (pv 0) rfl) pe_int (nomark _))))) pss_nil)
      (pss_cons (ps_if (pt_cmpR op_isNn (pe_fldK (K := K) (pv 0) rfl) pe_non (nomark _)) (pss_cons (ps_set (i := 2) sc_CodeReader_reads_outer.nd rfl (by first | exact .inl rfl | exact .inr rfl) (pe_call C_things_told.ok (hr.mono (by decide)) (by rfl) C_things_told.at_ C_things_told.kp C_things_told.b .nil pass0 (pa_cons (pe_slice (sl_listK (K := K)) (pv 1) (po_some pe_int) po_none) (pa_cons pe_str (pa_cons (pe_fldK (K := K) (pv 0) rfl) pa_nil)))))
      (pss_cons (ps_if (PW.pt (pw_or (pt_cmpR op_ne (pe_ix (ix_listK (K := K)) (pv 1) pe_int (fun _ _ => rfl)) pe_str (nomark _)) (pw_or1 (pt_cmpR op_isNn (pv 2) pe_non (nomark _))))) (pss_one (ps_ret pe_bl)) pss_nil)
      (pss_cons (ps_fldK (K := K) (pv 0) (pe_ix (ix_tupK (K := K)) (pv 2) pe_int (fun _ _ => rfl)) rfl)
      (pss_one (ps_ret pe_bl))))) pss_nil)
      (pss_cons (ps_set (i := 3) sc_CodeReader_reads_outer.nd rfl (by first | exact .inl rfl | exact .inr rfl) (pe_call C_things_told.ok (hr.mono (by decide)) (by rfl) C_things_told.at_ C_things_told.kp C_things_told.b .nil pass0 (pa_cons (pe_slice (sl_listK (K := K)) (pv 1) (po_some pe_int) po_none) (pa_cons pe_str (pa_cons (pe_fldK (K := K) (pv 0) rfl) pa_nil)))))
      (pss_cons (ps_if (PW.pt (pw_or (pt_cmpR op_ne (pe_ix (ix_listK (K := K)) (pv 1) pe_int (fun _ _ => rfl)) pe_str (nomark _)) (pw_or1 (pt_cmpR op_isNn (pv 3) pe_non (nomark _))))) (pss_one (ps_ret pe_bl)) pss_nil)
      (pss_cons (ps_expr (castBM (K := K) (pe_bm PySem.F.plainAttrs_list PySem.F.slot_list_append PySem.F.type_list_append mt_append (pe_fldK (K := K) (pv 0) rfl) (pa_cons (pv 3) pa_nil))))
      (pss_cons (ps_expr (castBM (K := K) (pe_bm PySem.F.plainAttrs_list PySem.F.slot_list_append PySem.F.type_list_append mt_append (pe_fldK (K := K) (pv 0) rfl) (pa_cons (pe_lst pa_nil) pa_nil))))
      (pss_cons (ps_fldK (K := K) (pv 0) pe_bl rfl)
      (pss_one (ps_ret pe_bl))))))))), ?_⟩
    obtain ⟨⟨dx, fs, hr0, fl⟩, _⟩ := id R
    have cl := T.cl_CodeReader
    have n1 := T.na_CodeReader_p
    have n2 := T.na_codes
    have n3 := T.na_heads
    have n4 := T.na_cells
    have n5 := T.na_within
    have l1 := fl.p
    have l2 := fl.codes
    have l3 := fl.heads
    have l4 := fl.cells
    cases stp with
    | @prime p h =>
      have l1 : fs.lookup ("p" : Str) = some (.int 0) := l1
      walk_at "st"
      walk_at "if"
      rw [if_pos (by decide)]
      walk_at "st"
      refine ⟨l, p, rfl, hl, h, fun H1 s1 => ?_⟩
      walk_at "st"
      refine r_sfr (s1 _ _ hr0) cl n1 (Nat.lt_of_le_of_lt fl.len (by decide)) ?_
      have fl2 := fl.setP p
      have l1' := fl2.p
      have R2 := (R.same s1).set (dx := dx) (st' := ⟨p, .non, false, [], []⟩) (s1 _ _ hr0) fl2 rfl rfl
      walk_at "st"
      have pz : ¬ p = 0 := by have := h.1; omega
      have e9 : (!decide (V.int p = V.int 0)) = true := by simpa using pz
      rw [e9]
      exact q ls _ (fun b o e n => hl_set (fun z => n (by rw [z]; simp)) (s1 _ _ e)) (fun y m => .inl m) R2
    | @cells p hid h k =>
      have l1 : fs.lookup ("p" : Str) = some (.int p) := l1
      have l4 : fs.lookup ("cells" : Str) = some .non := l4
      have pz : ¬ p = 0 := by have := h.1; omega
      walk_at "st"
      walk_at "if"
      rw [if_neg (by simpa using pz)]
      walk_at "st"
      walk_at "if"
      rw [if_pos (by decide)]
      walk_at "st"
      intro l9 hl9
      rw [show cutV (wordsV [cs "cells", numC (hid : Nat)]) (some 1) none = wordsV ([Arg.n (hid : Nat)].map oneW) from cutL_1 _ _]
      have s1 := Same.upd_new (x := .lst (wordsV ([Arg.n (hid : Nat)].map oneW))) hl9
      have el9 : upd H l9 (.lst (wordsV ([Arg.n (hid : Nat)].map oneW))) l9 = some (.lst (wordsV ([Arg.n (hid : Nat)].map oneW))) := upd_same
      generalize upd H l9 (.lst (wordsV ([Arg.n (hid : Nat)].map oneW))) = H1 at *
      have hr1 := s1 _ _ hr0
      walk_at "st"
      have ask : AskL p [109] [Arg.n (hid : Nat)] := ⟨.m (by omega), trivial⟩
      refine ⟨l9, [.n (hid : Nat)], _, p, rfl, el9, rfl, (by decide : 1 ≤ 100), ask.ok.2, fun t H2 s2 ht => ?_⟩
      have S2 := s1.trans s2
      have hl2 := S2 _ _ hl
      have e0 : atI (wordsV [cs "cells", numC (hid : Nat)]) 0 = some (V.str (Sx (cs "cells"))) := (show atI _ ((0 : Nat) : Int) = _ from atI_nat rfl)
      rw [Sx_cs] at e0
      have e1 : atI ([Arg.n (hid : Nat)].map valA) 0 = some (.int (hid : Nat)) := (show atI _ ((0 : Nat) : Int) = _ from atI_nat rfl)
      have hr2 := S2 _ _ hr0
      walk_at "st"
      walk_at "if"
      rw [if_neg (by decide)]
      walk_at "st"
      rw [if_neg (by simp)]
      walk_at "st"
      refine r_sfr hr2 cl n4 (Nat.lt_of_le_of_lt fl.len (by decide)) ?_
      have R2 := (R.same S2).set (dx := dx) (st' := ⟨p, .int (hid : Nat), false, [], []⟩) hr2 (fl.setC (.int (hid : Nat))) rfl rfl
      walk_at "st"
      exact q ls _ (fun b o e n => hl_set (fun z => n (by rw [z]; simp)) (S2 _ _ e)) (fun y m => .inl m) R2
    | @deed p hid hs cds z m h n k ln =>
      have l1 : fs.lookup ("p" : Str) = some (.int p) := l1
      have l4 : fs.lookup ("cells" : Str) = some (.int (hid : Nat)) := l4
      have pz : ¬ p = 0 := by have := h.1; omega
      walk_at "st"
      walk_at "if"
      rw [if_neg (by simpa using pz)]
      walk_at "st"
      walk_at "if"
      rw [if_neg (by simp)]
      walk_at "st"
      intro l9 hl9
      rw [show cutV (wordsV [cs "deed", cs z, numC m]) (some 1) none = wordsV ([Arg.w z, Arg.n m].map oneW) from cutL_1 _ _]
      have s1 := Same.upd_new (x := .lst (wordsV ([Arg.w z, Arg.n m].map oneW))) hl9
      have el9 : upd H l9 (.lst (wordsV ([Arg.w z, Arg.n m].map oneW))) l9 = some (.lst (wordsV ([Arg.w z, Arg.n m].map oneW))) := upd_same
      generalize upd H l9 (.lst (wordsV ([Arg.w z, Arg.n m].map oneW))) = H1 at *
      have hr1 := s1 _ _ hr0
      walk_at "st"
      have ask : AskL p [100, 109] [Arg.w z, Arg.n m] := ⟨.d n, .m (by omega), trivial⟩
      refine ⟨l9, [.w z, .n m], _, p, rfl, el9, rfl, (by decide : 2 ≤ 100), ask.ok.2, fun t H2 s2 ht => ?_⟩
      have S2 := s1.trans s2
      have hl2 := S2 _ _ hl
      have e0 : atI (wordsV [cs "deed", cs z, numC m]) 0 = some (V.str (Sx (cs "deed"))) := (show atI _ ((0 : Nat) : Int) = _ from atI_nat rfl)
      rw [Sx_cs] at e0
      have hr2 := S2 _ _ hr0
      have R2 := R.same S2
      obtain ⟨_, nd, ⟨ua, hA, alA⟩, hB, len, row⟩ := id R2
      walk_at "st"
      walk_at "if"
      rw [if_neg (by decide)]
      walk_at "st"
      rw [if_neg (by simp)]
      walk_at "st"
      have lua : ua.length ≤ 10 := by rw [alA.1]; exact ln.2
      have lls : ls.length ≤ 10 := by rw [len]; exact ln.1
      have nrA : r ≠ A := fun e => by rw [e, hA] at hr2; cases hr2
      have nAB : A ≠ B := fun e => (List.nodup_cons.mp nd).1 (by rw [e]; simp)
      refine r_app0 hA (Nat.lt_of_le_of_lt lua (by decide)) ?_
      have hr3 : upd H2 A (.lst (ua ++ [.ref t])) r = some (.ins c_CodeReader dx fs) := hl_set nrA hr2
      have hB3 : upd H2 A (.lst (ua ++ [.ref t])) B = some (.lst (ls.map V.ref)) := hl_set nAB.symm hB
      walk_at "st"
      intro l5 hl5
      have nl5A : l5 ≠ A := fun e => by rw [e, upd_same] at hl5; cases hl5
      have hl50 : H2 l5 = none := by rw [upd_ne nl5A] at hl5; exact hl5
      have R3 := R2.deed (x := (z, m)) hA ht hl5
      have nl5B : l5 ≠ B := fun e => by rw [e, hB] at hl50; cases hl50
      have nl5r : l5 ≠ r := fun e => by rw [e, hr2] at hl50; cases hl50
      have nrB : r ≠ B := fun e => by rw [e, hB] at hr2; cases hr2
      have zls : (ls.map V.ref).length < sizeLine := by rw [List.length_map]; exact Nat.lt_of_le_of_lt lls (by decide)
      walk_at "st"
      have hr4 : upd (upd (upd H2 A (.lst (ua ++ [.ref t]))) l5 (.lst [])) B (.lst (ls.map V.ref ++ [.ref l5])) r = some (.ins c_CodeReader dx fs) := hl_set nrB (hl_new hr3 hl5)
      refine r_sfr hr4 cl n5 (Nat.lt_of_le_of_lt fl.len (by decide)) ?_
      have R5 := R3.set (dx := dx) (st' := ⟨p, .int (hid : Nat), true, hs ++ [(z, m)], cds ++ [[]]⟩) hr4 (fl.setW true) rfl rfl
      walk_at "st"
      refine q (ls ++ [l5]) _ (fun b o e nb => ?_) (fun y my => ?_) R5
      · have e2 := S2 _ _ e
        exact hl_set (fun z => nb (by rw [z]; simp)) (hl_set (fun z => nb (by rw [z]; simp)) (hl_set (ne_of_none e2 hl50) (hl_set (fun z => nb (by rw [z]; simp)) e2)))
      · rcases List.mem_append.mp my with my | my
        · exact .inl my
        · rw [List.mem_singleton.mp my]
          refine .inr ?_
          cases e : H l5 with
          | none => rfl
          | some o => rw [S2 _ _ e] at hl50; cases hl50
end
local macro_rules | `(tactic| walk_at "ssz") => `(tactic| first | decide | exact str_small (by assumption) | (have : (1000000 : Nat) ≤ sizeLine := (by decide); omega))
local macro_rules | `(tactic| walk_at "st1") => `(tactic| first
  | with_reducible refine' r_nt ?_ | with_reducible refine' r_nf ?_
  | ((with_reducible refine r_lenS ?e1 ?_); (case e1 => walk_at "ssz"))
  | with_reducible refine r_inS ?_
  | with_reducible refine r_ninS ?_
  | ((with_reducible refine r_addS ?e1 ?_); (case e1 => walk_at "ssz"))
  | ((with_reducible refine' r_ixS ?e1 ?e2 ?_); (case e1 => walk_at "ssz"); (case e2 => first | assumption | rfl))
  | with_reducible refine r_istr ?_
  | with_reducible refine r_is ?_
  | with_reducible refine r_un ?_
  | with_reducible refine r_u ?_)
local macro_rules | `(tactic| walk_at "st1") => `(tactic| first
  | with_reducible refine r_tru ?_
  | ((with_reducible refine' r_truT ?e1 ?_); (case e1 => walk_at "sq"))
  | with_reducible refine r_isN ?_
  | with_reducible refine r_tyS ?_
  | with_reducible refine r_m1 ?_
  | with_reducible refine r_sx ?_
  | ((with_reducible refine r_strC ?e1 ?_); (case e1 => omega)))
local macro_rules | `(tactic| walk_at "st1") => `(tactic| first
  | with_reducible refine r_par ?_
  | with_reducible refine r_parx ?_
  | ((with_reducible refine' r_gtup ?e1 ?e2 ?_); (case e1 => walk_at "sq"); (case e2 => rfl))
  | with_reducible refine r_gcons ?_
  | with_reducible refine r_gnil ?_
  | with_reducible refine r_ient ?_
  | ((with_reducible refine' r_ent ?e1 ?_); (case e1 => walk_at "sq")))
local macro_rules | `(tactic| walk_at "st1") => `(tactic| first
  | with_reducible refine' r_nt ?_
  | with_reducible refine' r_nf ?_
  | with_reducible refine r_un ?_
  | with_reducible refine r_u ?_)
local macro_rules | `(tactic| walk_at "st1") => `(tactic| first
  | with_reducible refine r_fld ?_
  | with_reducible refine r_sfld ?_
  | ((with_reducible refine' r_fldr ?e1 ?e2 ?e3 ?e4 ?_); (case e1 => walk_at "hl"); (case e2 => assumption); (case e3 => assumption); (case e4 => assumption)))
/-! ### the reader reads any row -/
local macro_rules | `(tactic| walk_at "st1") => `(tactic| first
  | with_reducible refine r_mth2 ?_
  | ((with_reducible refine' r_mthR ?e0 ?e1 ?_); (case e0 => assumption); (case e1 => exact ⟨by decide, by decide, by decide, by decide, by decide⟩)))
def sp_CodeReader_reads (_ : PySem.W.Frag) (C : Addr) : Sp := fun vs H Q _ => ∃ (r A B : Addr) (ls : List Addr) (st st' : RState) (a : List Nat), vs = [.ref r, .str (Sx a)] ∧ RdS C H r A B ls st ∧ Stp st a st' ∧
  ∀ ls' H', Kr r A B ls H H' → (∀ y ∈ ls', y ∈ ls ∨ H y = none) → RdS C H' r A B ls' st' → Q (.bl true) H'
theorem strOk_end : PyData.strOk (Sx (cs "end")) = true := by decide +kernel
section
variable {P : Program} {w : World} {K : PySem.W.Frag} {mg : Str → Option Value} {base : Heap}
theorem ok_CodeReader_reads {c_Coded : Addr} {c_Machine : Addr} {c_CodeReader : Addr} {c_REGISTERS : Addr} {c_CELLS : Addr} {c_SHAPES : Addr} (T : Tx K mg c_Coded c_Machine c_CodeReader c_REGISTERS c_CELLS c_SHAPES w) {f_parted_row : Addr} {fd_parted_row : FuncData} (C_parted_row : Cal P w K mg base "parted_row" 1 ["row"] (sp_parted_row K) s_parted_row f_parted_row fd_parted_row) {f_CodeReader_reads_outer : Addr} {fd_CodeReader_reads_outer : FuncData} (C_CodeReader_reads_outer : CalM P w K mg base c_CodeReader "reads_outer" 5 ["self", "words"] (sp_CodeReader_reads_outer K c_CodeReader) s_CodeReader_reads_outer f_CodeReader_reads_outer fd_CodeReader_reads_outer) {f_CodeReader_reads_instruction : Addr} {fd_CodeReader_reads_instruction : FuncData} (C_CodeReader_reads_instruction : CalM P w K mg base c_CodeReader "reads_instruction" 6 ["self", "words"] (sp_CodeReader_reads_instruction K c_CodeReader) s_CodeReader_reads_instruction f_CodeReader_reads_instruction fd_CodeReader_reads_instruction) {f : Addr} {fd : FuncData} (F : HereM K c_CodeReader "reads" "CodeReader.reads" s_CodeReader_reads ["self", "row"] f fd) : CalM P w K mg base c_CodeReader "reads" 7 ["self", "row"] (sp_CodeReader_reads K c_CodeReader) s_CodeReader_reads f fd := by
  refine F.cal sc_CodeReader_reads (fun vs H Q E h => ?_) (fun cdv A' outer s H vs Q E hr h => ?_)
  · obtain ⟨r, A, B, ls, st, st', a, rfl, _⟩ := h
    rfl
  · obtain ⟨r, A, B, ls, st, st', a, rfl, R, stp, q⟩ := h
    refine ⟨_, (pss_cons (ps_asg (pe_call C_parted_row.ok (hr.mono (by decide)) (by rfl) C_parted_row.at_ C_parted_row.kp C_parted_row.b .nil pass0 (pa_cons (pv 1) pa_nil)) (castPG (K := K) (n := 2) (pg_tup rfl (pgs_cons (pg_name (i := 2) sc_CodeReader_reads.nd rfl (by first | exact .inl rfl | exact .inr rfl)) (pgs_cons (pg_name (i := 3) sc_CodeReader_reads.nd rfl (by first | exact .inl rfl | exact .inr rfl)) pgs_nil)))))
      (pss_cons (ps_if (PW.pt (pw_and (pt_val (pe_fldK (K := K) (pv 0) rfl)) (pw_and1 (pt_cmpR op_eq (pv 2) pe_int (nomark _))))) (pss_one (ps_ret (pe_meth (pv 0) T.cl_CodeReader C_CodeReader_reads_instruction.me C_CodeReader_reads_instruction.ok (hr.mono (by decide)) C_CodeReader_reads_instruction.b .nil pass0 (pa_cons (pv 3) pa_nil)))) pss_nil)
      (pss_cons (ps_if (pt_cmpR op_ne (pv 2) pe_int (nomark _)) (pss_one (ps_ret pe_bl)) pss_nil)
      (pss_cons (ps_if (pt_val (pe_fldK (K := K) (pv 0) rfl)) (pss_cons (ps_fldK (K := K) (pv 0) (pe_cmpR (op_neDK (K := K) (hu_of64 hr)) (pv 3) (pe_lst (pa_cons pe_str pa_nil)) (nomark _)) rfl)
      (pss_one (ps_ret (pe_not (pe_fldK (K := K) (pv 0) rfl))))) pss_nil)
      (pss_one (ps_ret (pe_meth (pv 0) T.cl_CodeReader C_CodeReader_reads_outer.me C_CodeReader_reads_outer.ok (hr.mono (by decide)) C_CodeReader_reads_outer.b .nil pass0 (pa_cons (pv 3) pa_nil)))))))), ?_⟩
    obtain ⟨⟨dx, fs, hr0, fl⟩, _⟩ := id R
    have cl := T.cl_CodeReader
    have n5 := T.na_within
    have l5 := fl.within
    -- rows that stand outside
    have out : ∀ (ws : List (List Nat)) (wd : List Nat) (H1 : Hp) (lw : Addr), Same H H1 → H1 lw = some (.lst (wordsV (wd :: ws))) → StpO st (wd :: ws) st' → sp_CodeReader_reads_outer K c_CodeReader [.ref r, .ref lw] H1 Q E0 := fun ws wd H1 lw s1 e so =>
      ⟨r, A, B, lw, ls, st, st', _, rfl, R.same s1, e, so, fun ls' H' k f R' => q ls' H' (fun b o e n => k _ _ (s1 _ _ e) n) (fun y m => (f y m).imp id fun e => by
        cases h : H y with
        | none => rfl
        | some o => rw [s1 _ _ h] at e; cases e) R'⟩
    cases stp with
    | @prime p h =>
      have hw := two_words (z := "prime") (by decide +kernel) (i := p) ⟨by have := h.1; omega, by have := h.2.1; omega⟩
      have l5 : fs.lookup ("within" : Str) = some (.bl false) := l5
      walk_at "st"
      refine ⟨0, [], cs "prime", [numC p], rfl, .inl ⟨rfl, rfl⟩, hw, Nat.le_trans (words_line hw (by show 2 ≤ 10; decide)).len (by decide), fun t lw H1 s1 et elw => ?_⟩
      have R1 := R.same s1
      have hr1 := s1 _ _ hr0
      walk_at "st"
      walk_at "if"
      walk_at "if"
      rw [if_neg (by decide)]
      walk_at "st"
      walk_at "if"
      exact out _ _ H1 lw s1 elw (.prime h)
    | @cells p hid h k =>
      have hw := two_words (z := "cells") (by decide +kernel) (i := (hid : Nat)) (by omega)
      have l5 : fs.lookup ("within" : Str) = some (.bl false) := l5
      walk_at "st"
      refine ⟨0, [], cs "cells", [numC (hid : Nat)], rfl, .inl ⟨rfl, rfl⟩, hw, Nat.le_trans (words_line hw (by show 2 ≤ 10; decide)).len (by decide), fun t lw H1 s1 et elw => ?_⟩
      have R1 := R.same s1
      have hr1 := s1 _ _ hr0
      walk_at "st"
      walk_at "if"
      walk_at "if"
      rw [if_neg (by decide)]
      walk_at "st"
      walk_at "if"
      exact out _ _ H1 lw s1 elw (.cells h k)
    | @deed p hid hs cds z m h n k ln =>
      have hw : ∀ u ∈ [cs "deed", cs z, numC m], WordC u := fun u mu => by
        simp only [List.mem_cons, List.not_mem_nil, or_false] at mu
        rcases mu with e | e | e
        · rw [e]; exact name_word (nameB_ok (by decide +kernel))
        · rw [e]; exact name_word n
        · rw [e]; exact num_word (by omega)
      have l5 : fs.lookup ("within" : Str) = some (.bl false) := l5
      walk_at "st"
      refine ⟨0, [], cs "deed", [cs z, numC m], rfl, .inl ⟨rfl, rfl⟩, hw, Nat.le_trans (words_line hw (by show 3 ≤ 10; decide)).len (by decide), fun t lw H1 s1 et elw => ?_⟩
      have R1 := R.same s1
      have hr1 := s1 _ _ hr0
      walk_at "st"
      walk_at "if"
      walk_at "if"
      rw [if_neg (by decide)]
      walk_at "st"
      walk_at "if"
      exact out _ _ H1 lw s1 elw (.deed h n k ln)
    | @ins p n hid hid2 hs cds code x h g hn lc =>
      have hw := ins_words g hn h.2.1
      have l5 : fs.lookup ("within" : Str) = some (.bl true) := l5
      walk_at "st"
      refine ⟨1, [32, 32], cs x.1, _, rfl, .inr ⟨rfl, rfl⟩, hw, Nat.le_trans (by have := (ins_line g hn h.2.1).len; show (joinC (insW x)).length ≤ 500; have e : (insL x).length = (joinC (insW x)).length + 1 + 1 := rfl; omega) (Nat.le_refl 500), fun t lw H1 s1 et elw => ?_⟩
      have R1 := R.same s1
      have hr1 := s1 _ _ hr0
      walk_at "st"
      walk_at "if"
      rw [if_pos (by decide)]
      walk_at "st"
      refine ⟨r, A, B, lw, ls, p, n, hid, hid2, hs, cds, code, x, rfl, R1, elw, h, g, hn, lc, fun H' k R' => ?_⟩
      exact q ls H' (fun b o e nb => k _ _ (s1 _ _ e) nb) (fun y m => .inl m) R'
    | @fin p hid hs cds =>
      have l5 : fs.lookup ("within" : Str) = some (.bl true) := l5
      have hw : ∀ u ∈ [cs "end"], WordC u := fun u m => by rw [List.mem_singleton.mp m]; exact name_word (nameB_ok (by decide +kernel))
      walk_at "st"
      refine ⟨0, [], cs "end", [], rfl, .inl ⟨rfl, rfl⟩, hw, by decide +kernel, fun t lw H1 s1 et elw => ?_⟩
      have R1 := R.same s1
      have hr1 := s1 _ _ hr0
      walk_at "st"
      walk_at "if"
      rw [if_neg (by decide)]
      walk_at "st"
      walk_at "if"
      rw [if_neg (by decide)]
      walk_at "st"
      walk_at "if"
      have elw2 : H1 lw = some (.lst [V.str "end"]) := by
        rw [elw]
        unfold wordsV
        rw [List.map_cons, Sx_cs]; rfl
      have sh : SeqAt.shaped (.list [.str "end"]) = true := by decide +kernel
      have eq9 : PyData.eqv (.list [.str "end"]) (.list [.str "end"]) = true := by
        rw [PyData.eqv, PyData.eqvAll, eqv_str, PyData.eqvAll]; simp
      intro l9 hl9
      have s2 := Same.upd_new (x := .lst [V.str "end"]) hl9
      have el9 : upd H1 l9 (.lst [V.str "end"]) l9 = some (.lst [V.str "end"]) := upd_same
      generalize upd H1 l9 (.lst [V.str "end"]) = H2 at *
      refine ⟨.list [.str "end"], .list [.str "end"], .lst (SqL.of (s2 _ _ elw2)) (.cons (.str _) .nil), .lst (SqL.of el9) (.cons (.str _) .nil), sh, sh, ?_⟩
      rw [eq9, Bool.not_true]
      walk_at "st"
      have S2 := s1.trans s2
      have hr2 := S2 _ _ hr0
      refine r_sfr hr2 cl n5 (Nat.lt_of_le_of_lt fl.len (by decide)) ?_
      have R3 := (R.same S2).set (dx := dx) (st' := ⟨p, .int (hid : Nat), false, hs, cds⟩) hr2 (fl.setW false) rfl rfl
      have l6 := (fl.setW false).within
      have hr3 : upd H2 r (.ins c_CodeReader dx (putF "within" (.bl false) fs)) r = some (.ins c_CodeReader dx (putF "within" (.bl false) fs)) := upd_same
      generalize hh : upd H2 r (.ins c_CodeReader dx (putF "within" (.bl false) fs)) = H3 at *
      clear l5
      walk_at "st"
      exact q ls H3 (fun b o e nb => by rw [← hh]; exact hl_set (fun z => nb (by rw [z]; simp)) (S2 _ _ e)) (fun y m => .inl m) R3
end
local macro_rules | `(tactic| walk_at "ssz") => `(tactic| first | decide | exact str_small (by assumption) | (have : (1000000 : Nat) ≤ sizeLine := (by decide); omega))
local macro_rules | `(tactic| walk_at "st1") => `(tactic| first
  | with_reducible refine' r_nt ?_ | with_reducible refine' r_nf ?_
  | ((with_reducible refine r_lenS ?e1 ?_); (case e1 => walk_at "ssz"))
  | with_reducible refine r_inS ?_
  | with_reducible refine r_ninS ?_
  | ((with_reducible refine r_addS ?e1 ?_); (case e1 => walk_at "ssz"))
  | ((with_reducible refine' r_ixS ?e1 ?e2 ?_); (case e1 => walk_at "ssz"); (case e2 => first | assumption | rfl))
  | with_reducible refine r_istr ?_
  | with_reducible refine r_is ?_
  | with_reducible refine r_un ?_
  | with_reducible refine r_u ?_)
local macro_rules | `(tactic| walk_at "st1") => `(tactic| first
  | with_reducible refine r_tru ?_
  | ((with_reducible refine' r_truT ?e1 ?_); (case e1 => walk_at "sq"))
  | with_reducible refine r_isN ?_
  | with_reducible refine r_tyS ?_
  | with_reducible refine r_m1 ?_
  | with_reducible refine r_sx ?_
  | ((with_reducible refine r_strC ?e1 ?_); (case e1 => omega)))
local macro_rules | `(tactic| walk_at "st1") => `(tactic| first
  | with_reducible refine r_par ?_
  | with_reducible refine r_parx ?_
  | ((with_reducible refine' r_gtup ?e1 ?e2 ?_); (case e1 => walk_at "sq"); (case e2 => rfl))
  | with_reducible refine r_gcons ?_
  | with_reducible refine r_gnil ?_
  | with_reducible refine r_ient ?_
  | ((with_reducible refine' r_ent ?e1 ?_); (case e1 => walk_at "sq")))
local macro_rules | `(tactic| walk_at "st1") => `(tactic| first
  | with_reducible refine' r_nt ?_
  | with_reducible refine' r_nf ?_
  | with_reducible refine r_un ?_
  | with_reducible refine r_u ?_)
local macro_rules | `(tactic| walk_at "st1") => `(tactic| first
  | with_reducible refine r_fld ?_
  | with_reducible refine r_sfld ?_
  | ((with_reducible refine' r_fldr ?e1 ?e2 ?e3 ?e4 ?_); (case e1 => walk_at "hl"); (case e2 => assumption); (case e3 => assumption); (case e4 => assumption)))
local macro_rules | `(tactic| walk_at "st1") => `(tactic| first
  | ((with_reducible refine' r_izl ?e1 ?e2 ?_); (case e1 => walk_at "sq"); (case e2 => walk_at "sq"))
  | with_reducible refine r_dcT ?_)
/-! ### rows of a text; the unit that was told -/
def sp_text_rows (_ : PySem.W.Frag) : Sp := fun vs H Q _ => ∃ (L : List (List Nat)), vs = [.str (Sx (linesC L))] ∧ (∀ p ∈ L, 10 ∉ p) ∧ (linesC L).length ≤ 1100000 ∧ L.length ≤ 2000 ∧
  ∀ (t l : Addr) (H' : Hp), Same H H' → H l = none → H' t = some (.tup [.ref l, .bl true]) → H' l = some (.lst (L.map fun p => V.str (Sx p))) → Q (.ref t) H'
def hdsS (ds : List Deed) : List (Str × Int) := ds.map fun d => (d.1, d.2.1)
def cdsS (ds : List Deed) : List (List Ins) := ds.map fun d => d.2.2
theorem r_mkK {C : Addr} {n m : Nat} {sp : Sp} {gV : List V → List V → List V} {E : XK} {t tk : TA} {σ : L2.St} {H : Hp} {Q : VK} (h : t σ H fun vs H1 => tk σ H1 fun zs H2 => vs.length = n ∧ zs.length = m ∧ ∀ x dx, H2 x = none → H2 dx = none → dx ≠ x → sp (gV (.ref x :: vs) zs) (upd (upd H2 dx (.own x)) x (.ins C dx [])) (fun v H3 => v = .non ∧ Q (.ref x) H3) E) : tMakeK C n m sp gV E t tk σ H Q := h
def sp_CodeReader_unit_told (_ : PySem.W.Frag) (C D : Addr) : Sp := fun vs H Q _ => ∃ (r A B : Addr) (ls : List Addr) (hid : Nat) (ds : List Deed) (p : Int), vs = [.ref r] ∧ RdS C H r A B ls ⟨p, .int (hid : Nat), false, hdsS ds, cdsS ds⟩ ∧ GoodU hid ds p ∧ ∀ x H', Same H H' → CodV D H' x hid ds p → Q (.ref x) H'
section
variable {P : Program} {w : World} {K : PySem.W.Frag} {mg : Str → Option Value} {base : Heap}
theorem ok_text_rows {c_Coded : Addr} {c_Machine : Addr} {c_CodeReader : Addr} {c_REGISTERS : Addr} {c_CELLS : Addr} {c_SHAPES : Addr} (T : Tx K mg c_Coded c_Machine c_CodeReader c_REGISTERS c_CELLS c_SHAPES w)  {f : Addr} {fd : FuncData} (F : Here K mg "text_rows" s_text_rows ["text"] f fd) : Cal P w K mg base "text_rows" 1 ["text"] (sp_text_rows K) s_text_rows f fd := by
  refine F.cal sc_text_rows (fun vs H Q E h => ?_) (fun cdv A outer s H vs Q E hr h => ?_)
  · obtain ⟨L, rfl, _⟩ := h
    rfl
  · obtain ⟨L, rfl, hL, l1, l2, q⟩ := h
    refine ⟨_, (pss_cons (ps_if (pt_not (pt_val (pe_callB (cr_isiK (K := K)) (by rfl) T.m_isinstance (by decide +kernel) (pa_cons (pv 0) (pa_cons (pe_bltn (v := .ty "str") (by rfl) T.m_str (by decide +kernel) rfl) pa_nil))))) (pss_one ps_never) pss_nil)
      (pss_cons (ps_set (i := 1) sc_text_rows.nd rfl (by first | exact .inl rfl | exact .inr rfl) (castBM (K := K) (pe_bm PySem.F.plainAttrs_str PySem.F.slot_str_split PySem.F.type_str_split mt_splK (pv 0) (pa_cons pe_str pa_nil))))
      (pss_cons (ps_set (i := 2) sc_text_rows.nd rfl (by first | exact .inl rfl | exact .inr rfl) (castBM0 (K := K) (pe_bm0 PySem.F.plainAttrs_list PySem.F.slot_list_pop PySem.F.type_list_pop mt_pop (pv 1))))
      (pss_one (ps_ret (pe_ifExp (pt_cmpR op_eq (pv 2) pe_str (nomark _)) (pe_tup (pa_cons (pv 1) (pa_cons pe_bl pa_nil))) (pe_tup (pa_cons (pe_op op_cat (pv 1) (pe_lst (pa_cons (pv 2) pa_nil))) (pa_cons pe_bl pa_nil))))))))), ?_⟩
    walk_at "st"
    walk_at "if"
    walk_at "st"
    refine ⟨_, _, rfl, rfl, rfl, by rw [Sx_len]; exact Nat.le_trans (show (linesC L).length + 2 ≤ 2000000 by omega) (by decide), fun l hl => ?_⟩
    have e1 : (Txt.split (Sx (linesC L)) (Str.ofString "\n")).map V.str = (L.map fun p => V.str (Sx p)) ++ [V.str (Sx [])] := by
      have e := SX.split_S (a := linesC L) (b := [10]) (by simp) (by decide)
      rw [lines_split hL] at e
      rw [show Txt.split (Sx (linesC L)) (Str.ofString "\n") = _ from e, List.map_append, List.map_append, List.map_map, List.map_map]; rfl
    rw [e1]
    have n1 : (List.map (fun p => V.str (Sx p)) L ++ [V.str (Sx [])])[(List.map (fun p => V.str (Sx p)) L ++ [V.str (Sx [])]).length - 1]? = some (V.str (Sx [])) := by
      rw [List.length_append, List.getElem?_append_right (by simp)]
      simp
    walk_at "st"
    refine ⟨_, rfl, .inl ⟨rfl, _, SqL.of upd_same⟩, l, _, _, rfl, rfl, upd_same, n1, ?_⟩
    rw [List.dropLast_concat]
    have s1 : Same H (upd (upd H l (.lst (List.map (fun p => V.str (Sx p)) L ++ [V.str (Sx [])]))) l (.lst (List.map (fun p => V.str (Sx p)) L))) := fun b o e => hl_set (ne_of_none e hl) (hl_set (ne_of_none e hl) e)
    have el : upd (upd H l (.lst (List.map (fun p => V.str (Sx p)) L ++ [V.str (Sx [])]))) l (.lst (List.map (fun p => V.str (Sx p)) L)) l = some (.lst (List.map (fun p => V.str (Sx p)) L)) := upd_same
    generalize upd (upd H l (.lst (List.map (fun p => V.str (Sx p)) L ++ [V.str (Sx [])]))) l (.lst (List.map (fun p => V.str (Sx p)) L)) = H1 at *
    walk_at "st"
    rw [if_pos (decide_eq_true (show V.str (Sx []) = V.str (Str.ofString "") from rfl))]
    walk_at "st"
    intro t ht
    exact q t l _ (s1.trans (Same.upd_new ht)) hl upd_same (hl_new el ht)
theorem ok_CodeReader_unit_told {c_Coded : Addr} {c_Machine : Addr} {c_CodeReader : Addr} {c_REGISTERS : Addr} {c_CELLS : Addr} {c_SHAPES : Addr} (T : Tx K mg c_Coded c_Machine c_CodeReader c_REGISTERS c_CELLS c_SHAPES w) {f_Coded___init__ : Addr} {fd_Coded___init__ : FuncData} (C_Coded___init__ : CalD P w K mg base c_Coded "__init__" "Coded.__init__" 7 ["self", "hidden", "deeds", "prime"] [("prime", V.int 97)] (sp_Coded___init__ K c_Coded) s_Coded___init__ f_Coded___init__ fd_Coded___init__) {f : Addr} {fd : FuncData} (F : HereM K c_CodeReader "unit_told" "CodeReader.unit_told" s_CodeReader_unit_told ["self"] f fd) : CalM P w K mg base c_CodeReader "unit_told" 9 ["self"] (sp_CodeReader_unit_told K c_CodeReader c_Coded) s_CodeReader_unit_told f fd := by
  refine F.cal sc_CodeReader_unit_told (fun vs H Q E h => ?_) (fun cdv A' outer s H vs Q E hr h => ?_)
  · obtain ⟨r, A, B, ls, hid, ds, p, rfl, _⟩ := h
    rfl
  · obtain ⟨r, A, B, ls, hid, ds, p, rfl, R, g, q⟩ := h
    refine ⟨_, (pss_cons (ps_setLc (i := 1) rfl sc_CodeReader_unit_told.nd rfl rfl (sw_true rfl rfl rfl (by decide +kernel)) (castPI (K := K) (wi := fun K => iZipA K _) (pi_zipA (by rfl) T.m_zip (pa_cons (pe_fldK (K := K) (pv 0) rfl) (pa_cons (pe_fldK (K := K) (pv 0) rfl) pa_nil)))) (blkOk_by (own := [("head", 2), ("code", 3)]) (N := ["self", "deeds", "head", "code"]) (sc := (defScope s_CodeReader_unit_told)) (by decide +kernel)) (fun _ _ _ _ _ => (castPG (K := K) (n := 2) (pg_tup rfl (pgs_cons (pg_name (i := 2) sc_CodeReader_unit_told.nd rfl (by first | exact .inl rfl | exact .inr rfl)) (pgs_cons (pg_name (i := 3) sc_CodeReader_unit_told.nd rfl (by first | exact .inl rfl | exact .inr rfl)) pgs_nil))))) (fun _ _ _ _ _ => pts_nil) (fun _ _ _ _ _ => (pe_op (op_catAK (K := K)) (pv 2) (pe_tup (pa_cons (pe_callTy (cr_tupOfK (K := K)) (by rfl) T.m_tuple (by decide +kernel) (pa_cons (pv 3) pa_nil)) pa_nil)))))
      (pss_one (ps_ret (pe_makeK C_Coded___init__.mkk C_Coded___init__.ok (hr.mono (by decide)) (by rfl) T.g_Coded (cod_k1 C_Coded___init__.fn) pass0 (pa_cons (pe_fldK (K := K) (pv 0) rfl) (pa_cons (pe_callTy (cr_tupOfK (K := K)) (by rfl) T.m_tuple (by decide +kernel) (pa_cons (pv 1) pa_nil)) pa_nil)) (pk_cons (pe_fldK (K := K) (pv 0) rfl) pk_nil))))), ?_⟩
    obtain ⟨⟨dx, fs, hr0, fl⟩, nd, ⟨ua, hA, alA⟩, hB, len, row⟩ := id R
    have cl := T.cl_CodeReader
    have n1 := T.na_CodeReader_p
    have n2 := T.na_codes
    have n3 := T.na_heads
    have n4 := T.na_cells
    have l1 := fl.p
    have l2 := fl.codes
    have l3 := fl.heads
    have l4 := fl.cells
    have lds := g.len
    have lua : ua.length = ds.length := by rw [alA.1]; show (hdsS ds).length = _; unfold hdsS; rw [List.length_map]
    have lls : ls.length = ds.length := by rw [len]; show (cdsS ds).length = _; unfold cdsS; rw [List.length_map]
    walk_at "st"
    intro D hD
    refine lc_map (walk_zipL (a := A) (b := B) (xs := ua) (ys := ls.map V.ref) (n := ds.length) (by rw [List.length_map, lua, lls, Nat.min_self])) (by omega) hD (fun i y H' => ∃ d, ds[i]? = some d ∧ DeedV H' y d) (fun i v H1 H2 h k => by obtain ⟨d, e, h⟩ := h; exact ⟨d, e, h.tup (keepT_of k)⟩) (fun i v H1 acc acc' h e => by obtain ⟨d, e2, h⟩ := h; exact ⟨d, e2, h.tup (KeepT.lst e)⟩) (fun H' k => ⟨SqL.of (k _ _ hA), SqL.of (k _ _ hB)⟩) (fun i H1 x H2 y => ?_)
      (fun i v H1 H2 Y No hi s1 yy hY => ?_) (fun ys H1 el s1 eD hys => ?_)
    · obtain ⟨T2, x1, y1, rfl, nt, rfl, _⟩ := y
      exact Same.upd_new nt
    · obtain ⟨T2, x1, y1, rfl, nt, rfl, e1, e2⟩ := yy
      have e2 : (ls.map V.ref)[i]? = some y1 := e2
      have e1 : ua[i]? = some x1 := e1
      obtain ⟨hd, ehd, tH, rfl, hH⟩ := alA.2 i x1 e1
      have ehd : (hdsS ds)[i]? = some hd := ehd
      rw [List.getElem?_map] at e2
      cases eli : ls[i]? with
      | none => rw [eli] at e2; cases e2
      | some l =>
        rw [eli] at e2
        obtain rfl : V.ref l = y1 := Option.some.inj e2
        obtain ⟨code, us, ec, hl, alc⟩ := row i l eli
        have ec : (cdsS ds)[i]? = some code := ec
        unfold hdsS at ehd
        unfold cdsS at ec
        rw [List.getElem?_map] at ehd ec
        have ed : ds[i]? = some (ds[i]'hi) := List.getElem?_eq_getElem hi
        generalize ds[i]'hi = d at *
        rw [ed] at ehd ec
        obtain rfl : (d.1, d.2.1) = hd := Option.some.inj ehd
        obtain rfl : d.2.2 = code := Option.some.inj ec
        have s2 := s1.trans (Same.upd_new (x := .tup [.ref tH, .ref l]) nt)
        have eT : upd H1 T2 (.tup [.ref tH, .ref l]) T2 = some (.tup [.ref tH, .ref l]) := upd_same
        generalize upd H1 T2 (.tup [.ref tH, .ref l]) = H3 at *
        have hl3 := s2 _ _ hl
        have hH3 := s2 _ _ hH
        refine ⟨T2, _, rfl, SqT.of eT, rfl, _, _, rfl, _, _, rfl, rfl, ?_⟩
        refine ⟨rfl, ?_⟩
        walk_at "st"
        intro t1 ht1
        have s3 := Same.upd_new (x := .tup us) ht1
        have et1 : upd H3 t1 (.tup us) t1 = some (.tup us) := upd_same
        generalize upd H3 t1 (.tup us) = H4 at *
        walk_at "st"
        intro t2 ht2
        have s4 := Same.upd_new (x := .tup [.ref t1]) ht2
        have et2 : upd H4 t2 (.tup [.ref t1]) t2 = some (.tup [.ref t1]) := upd_same
        generalize upd H4 t2 (.tup [.ref t1]) = H5 at *
        refine r_catX (s4 _ _ (s3 _ _ hH3)) et2 (by show 2 + 1 ≤ 1000000; decide) fun t5 H6 s6 h6 => ?_
        refine hY _ _ ((s3.trans s4).trans s6) ⟨d, ed, t5, .ref t1, rfl, h6, t1, us, rfl, s6 _ _ (s4 _ _ et1), ?_⟩
        exact alc.imp fun u a h => h.same (((s2.trans s3).trans s4).trans s6)
    have alD : Al (DeedV H1) ys ds := ⟨el, fun i u e => hys i u e⟩
    have hr1 := s1 _ _ hr0
    walk_at "st"
    refine r_mkK ?_
    have l1 : fs.lookup ("p" : Str) = some (.int p) := l1
    have l4 : fs.lookup ("cells" : Str) = some (.int (hid : Nat)) := l4
    walk_at "st"
    intro t ht
    have s2 := Same.upd_new (x := .tup ys) ht
    have et : upd H1 t (.tup ys) t = some (.tup ys) := upd_same
    have alD2 := alD.imp fun u d h => DeedV.tup h (keepT_of s2)
    generalize upd H1 t (.tup ys) = H2 at *
    have hr2 := s2 _ _ hr1
    walk_at "st"
    refine ⟨rfl, rfl, fun x dx2 hx hdx ne => ?_⟩
    have s3 := (Same.upd_new (x := HO.own x) hdx).trans (Same.upd_new (x := .ins c_Coded dx2 []) (show upd H2 dx2 (.own x) x = none by rw [upd_ne ne.symm]; exact hx))
    exact ⟨x, dx2, hid, .ref t, ds, p, rfl, upd_same, ⟨t, ys, rfl, s3 _ _ et, alD2.imp fun u d h => DeedV.tup h (keepT_of s3)⟩, g, fun H' k cv => ⟨rfl, q x H' (fun b o e => k _ _ (s3 _ _ (s2 _ _ (s1 _ _ e))) (ne_of_none (s2 _ _ (s1 _ _ e)) hx)) cv⟩⟩
end
local macro_rules | `(tactic| walk_at "ssz") => `(tactic| first | decide | exact str_small (by assumption) | (have : (1000000 : Nat) ≤ sizeLine := (by decide); omega))
local macro_rules | `(tactic| walk_at "st1") => `(tactic| first
  | with_reducible refine' r_nt ?_ | with_reducible refine' r_nf ?_
  | ((with_reducible refine r_lenS ?e1 ?_); (case e1 => walk_at "ssz"))
  | with_reducible refine r_inS ?_
  | with_reducible refine r_ninS ?_
  | ((with_reducible refine r_addS ?e1 ?_); (case e1 => walk_at "ssz"))
  | ((with_reducible refine' r_ixS ?e1 ?e2 ?_); (case e1 => walk_at "ssz"); (case e2 => first | assumption | rfl))
  | with_reducible refine r_istr ?_
  | with_reducible refine r_is ?_
  | with_reducible refine r_un ?_
  | with_reducible refine r_u ?_)
local macro_rules | `(tactic| walk_at "st1") => `(tactic| first
  | with_reducible refine r_tru ?_
  | ((with_reducible refine' r_truT ?e1 ?_); (case e1 => walk_at "sq"))
  | with_reducible refine r_isN ?_
  | with_reducible refine r_tyS ?_
  | with_reducible refine r_m1 ?_
  | with_reducible refine r_sx ?_
  | ((with_reducible refine r_strC ?e1 ?_); (case e1 => omega)))
local macro_rules | `(tactic| walk_at "st1") => `(tactic| first
  | with_reducible refine r_par ?_
  | with_reducible refine r_parx ?_
  | ((with_reducible refine' r_gtup ?e1 ?e2 ?_); (case e1 => walk_at "sq"); (case e2 => rfl))
  | with_reducible refine r_gcons ?_
  | with_reducible refine r_gnil ?_
  | with_reducible refine r_ient ?_
  | ((with_reducible refine' r_ent ?e1 ?_); (case e1 => walk_at "sq")))
local macro_rules | `(tactic| walk_at "st1") => `(tactic| first
  | with_reducible refine' r_nt ?_
  | with_reducible refine' r_nf ?_
  | with_reducible refine r_un ?_
  | with_reducible refine r_u ?_)
local macro_rules | `(tactic| walk_at "st1") => `(tactic| first
  | with_reducible refine r_fld ?_
  | with_reducible refine r_sfld ?_
  | ((with_reducible refine' r_fldr ?e1 ?e2 ?e3 ?e4 ?_); (case e1 => walk_at "hl"); (case e2 => assumption); (case e3 => assumption); (case e4 => assumption)))
/-! ### a whole text is read -/
local macro_rules | `(tactic| walk_at "st1") => `(tactic| first
  | with_reducible refine r_mth2 ?_
  | ((with_reducible refine' r_mthR ?e0 ?e1 ?_); (case e0 => assumption); (case e1 => exact ⟨by decide, by decide, by decide, by decide, by decide⟩)))
/-- where the reader stands, and what is still to read -/
inductive Pos (hid : Nat) (ds : List Deed) (p : Int) : RState → List (List Nat) → Prop
  | s0 : Pos hid ds p ⟨0, .non, false, [], []⟩ (unitL hid ds p)
  | s1 : Pos hid ds p ⟨p, .non, false, [], []⟩ (joinC [cs "cells", numC (hid : Nat)] :: ds.flatMap deedL)
  | s2 {k : Nat} (h : k ≤ ds.length) : Pos hid ds p ⟨p, .int (hid : Nat), false, hdsS (ds.take k), cdsS (ds.take k)⟩ ((ds.drop k).flatMap deedL)
  | s3 {k j : Nat} {d : Deed} (e : ds[k]? = some d) (h : j ≤ d.2.2.length) : Pos hid ds p ⟨p, .int (hid : Nat), true, hdsS (ds.take (k + 1)), cdsS (ds.take k) ++ [d.2.2.take j]⟩ ((d.2.2.drop j).map insL ++ (joinC [cs "end"] :: (ds.drop (k + 1)).flatMap deedL))
theorem Pos.step {hid : Nat} {ds : List Deed} {p : Int} (g : GoodU hid ds p) {st : RState} {rest : List (List Nat)} (h : Pos hid ds p st rest) {a : List Nat} {rest' : List (List Nat)} (e : rest = a :: rest') : ∃ st', Stp st a st' ∧ Pos hid ds p st' rest' := by
  cases h with
  | s0 =>
    unfold unitL at e
    obtain ⟨rfl, rfl⟩ := List.cons.inj e
    exact ⟨_, .prime g.prime, .s1⟩
  | s1 =>
    obtain ⟨rfl, rfl⟩ := List.cons.inj e
    exact ⟨_, .cells g.prime g.lid, .s2 (k := 0) (Nat.zero_le _)⟩
  | @s2 k h =>
    by_cases c : k < ds.length
    · have ed : ds[k]? = some ds[k] := List.getElem?_eq_getElem c
      have edr : ds.drop k = ds[k] :: ds.drop (k + 1) := List.drop_eq_getElem_cons c
      generalize ds[k] = d at *
      have gd := g.good d (List.mem_of_getElem? ed)
      rw [edr, List.flatMap_cons] at e
      unfold deedL at e
      rw [List.cons_append] at e
      obtain ⟨rfl, rfl⟩ := List.cons.inj e
      have e1 : hdsS (ds.take (k + 1)) = hdsS (ds.take k) ++ [(d.1, d.2.1)] := by unfold hdsS; rw [List.take_succ, ed, List.map_append]; rfl
      have l1 : (cdsS (ds.take k)).length ≤ 10 := by unfold cdsS; rw [List.length_map, List.length_take]; have := g.len.2; omega
      have l2 : (hdsS (ds.take k)).length ≤ 10 := by unfold hdsS; rw [List.length_map, List.length_take]; have := g.len.2; omega
      refine ⟨_, .deed g.prime gd.name gd.many ⟨l1, l2⟩, ?_⟩
      have P := Pos.s3 (hid := hid) (p := p) (j := 0) ed (Nat.zero_le _)
      rw [e1] at P
      rw [List.append_assoc]
      exact P
    · have : k = ds.length := by omega
      rw [this, List.drop_length] at e
      cases e
  | @s3 k j d ed h =>
    have gd := g.good d (List.mem_of_getElem? ed)
    by_cases c : j < d.2.2.length
    · have ex : d.2.2[j]? = some d.2.2[j] := List.getElem?_eq_getElem c
      have edr : d.2.2.drop j = d.2.2[j] :: d.2.2.drop (j + 1) := List.drop_eq_getElem_cons c
      generalize d.2.2[j] = x at *
      rw [edr, List.map_cons, List.cons_append] at e
      obtain ⟨rfl, rfl⟩ := List.cons.inj e
      have P := Pos.s3 (hid := hid) (p := p) (j := j + 1) ed c
      have et : d.2.2.take (j + 1) = d.2.2.take j ++ [x] := by rw [List.take_succ, ex]; rfl
      rw [et] at P
      have gl := gd.len
      exact ⟨_, .ins g.prime (gd.ins x (List.mem_of_getElem? ex)) (by omega) (by rw [List.length_take]; omega), P⟩
    · have ej : j = d.2.2.length := by omega
      subst ej
      rw [List.drop_length, List.map_nil, List.nil_append] at e
      obtain ⟨rfl, rfl⟩ := List.cons.inj e
      have P := Pos.s2 (hid := hid) (p := p) (ds := ds) (k := k + 1) (by have := (List.getElem?_eq_some_iff.mp ed).1; omega)
      have e2 : cdsS (ds.take (k + 1)) = cdsS (ds.take k) ++ [d.2.2] := by unfold cdsS; rw [List.take_succ, ed, List.map_append]; rfl
      rw [e2] at P
      rw [List.take_length]
      exact ⟨_, .fin, P⟩
theorem Pos.fin {hid : Nat} {ds : List Deed} {p : Int} {st : RState} {rest : List (List Nat)} (h : Pos hid ds p st rest) (e : rest = []) : st = ⟨p, .int (hid : Nat), false, hdsS ds, cdsS ds⟩ := by
  cases h with
  | s0 => cases e
  | s1 => cases e
  | @s2 k h =>
    by_cases c : k < ds.length
    · rw [List.drop_eq_getElem_cons c, List.flatMap_cons] at e
      unfold deedL at e
      cases e
    · rw [List.take_of_length_le (by omega)]
  | @s3 k j d ed h => simp at e
def sp_read_coded (_ : PySem.W.Frag) (D : Addr) : Sp := fun vs H Q _ => ∃ (hid : Nat) (ds : List Deed) (p : Int), vs = [.str (Sx (linesC (unitL hid ds p)))] ∧ GoodU hid ds p ∧ ∀ x H', Same H H' → CodV D H' x hid ds p → Q (.ref x) H'
section
variable {P : Program} {w : World} {K : PySem.W.Frag} {mg : Str → Option Value} {base : Heap}
theorem ok_read_coded {c_Coded : Addr} {c_Machine : Addr} {c_CodeReader : Addr} {c_REGISTERS : Addr} {c_CELLS : Addr} {c_SHAPES : Addr} (T : Tx K mg c_Coded c_Machine c_CodeReader c_REGISTERS c_CELLS c_SHAPES w) {f_text_rows : Addr} {fd_text_rows : FuncData} (C_text_rows : Cal P w K mg base "text_rows" 1 ["text"] (sp_text_rows K) s_text_rows f_text_rows fd_text_rows) {f_CodeReader___init__ : Addr} {fd_CodeReader___init__ : FuncData} (C_CodeReader___init__ : CalI P w K mg base c_CodeReader "__init__" 1 ["self"] (sp_CodeReader___init__ K c_CodeReader) s_CodeReader___init__ f_CodeReader___init__ fd_CodeReader___init__) {f_CodeReader_unit_told : Addr} {fd_CodeReader_unit_told : FuncData} (C_CodeReader_unit_told : CalM P w K mg base c_CodeReader "unit_told" 9 ["self"] (sp_CodeReader_unit_told K c_CodeReader c_Coded) s_CodeReader_unit_told f_CodeReader_unit_told fd_CodeReader_unit_told) {f_CodeReader_reads : Addr} {fd_CodeReader_reads : FuncData} (C_CodeReader_reads : CalM P w K mg base c_CodeReader "reads" 7 ["self", "row"] (sp_CodeReader_reads K c_CodeReader) s_CodeReader_reads f_CodeReader_reads fd_CodeReader_reads) {f_CodeReader_rests : Addr} {fd_CodeReader_rests : FuncData} (C_CodeReader_rests : CalM P w K mg base c_CodeReader "rests" 1 ["self"] (sp_CodeReader_rests K c_CodeReader) s_CodeReader_rests f_CodeReader_rests fd_CodeReader_rests) {f : Addr} {fd : FuncData} (F : Here K mg "read_coded" s_read_coded ["text"] f fd) : Cal P w K mg base "read_coded" 10 ["text"] (sp_read_coded K c_Coded) s_read_coded f fd := by
  refine F.cal sc_read_coded (fun vs H Q E h => ?_) (fun cdv A' outer s H vs Q E hr h => ?_)
  · obtain ⟨hid, ds, p, rfl, _⟩ := h
    rfl
  · obtain ⟨hid, ds, p, rfl, g, q⟩ := h
    have ul := unit_lines g
    have um := unit_many g
    have lc := lines_len (n := 500) fun a m => (ul a m).len
    refine ⟨_, (pss_cons (ps_asg (pe_call C_text_rows.ok (hr.mono (by decide)) (by rfl) C_text_rows.at_ C_text_rows.kp C_text_rows.b .nil pass0 (pa_cons (pv 0) pa_nil)) (castPG (K := K) (n := 2) (pg_tup rfl (pgs_cons (pg_name (i := 1) sc_read_coded.nd rfl (by first | exact .inl rfl | exact .inr rfl)) (pgs_cons (pg_name (i := 2) sc_read_coded.nd rfl (by first | exact .inl rfl | exact .inr rfl)) pgs_nil)))))
      (pss_cons (ps_set (i := 3) sc_read_coded.nd rfl (by first | exact .inl rfl | exact .inr rfl) (pe_make0 C_CodeReader___init__.mkk C_CodeReader___init__.ok (hr.mono (by decide)) (by rfl) T.g_CodeReader C_CodeReader___init__.b .nil pass0))
      (pss_cons (ps_for PassesOwn.never rfl (castPI (K := K) (wi := fun K => iEnum K _) (pi_enum (by rfl) T.m_enumerate (pa_cons (pv 1) pa_nil))) (castPG (K := K) (n := 2) (pg_tup rfl (pgs_cons (pg_name (i := 4) sc_read_coded.nd rfl (by first | exact .inl rfl | exact .inr rfl)) (pgs_cons (pg_name (i := 5) sc_read_coded.nd rfl (by first | exact .inl rfl | exact .inr rfl)) pgs_nil)))) (pss_one (ps_if (pt_not (pt_val (pe_meth (pv 3) T.cl_CodeReader C_CodeReader_reads.me C_CodeReader_reads.ok (hr.mono (by decide)) C_CodeReader_reads.b .nil pass0 (pa_cons (pv 5) pa_nil)))) (pss_one ps_never) pss_nil)))
      (pss_cons (ps_if (PW.pt (pw_or (pt_not (pt_val (pv 2))) (pw_or1 (pt_not (pt_val (pe_meth0 (pv 3) T.cl_CodeReader C_CodeReader_rests.me C_CodeReader_rests.ok (hr.mono (by decide)) C_CodeReader_rests.b .nil pass0)))))) (pss_one ps_never) pss_nil)
      (pss_one (ps_ret (pe_meth0 (pv 3) T.cl_CodeReader C_CodeReader_unit_told.me C_CodeReader_unit_told.ok (hr.mono (by decide)) C_CodeReader_unit_told.b .nil pass0))))))), ?_⟩
    walk_at "st"
    refine ⟨unitL hid ds p, rfl, fun a m => (ul a m).no, by omega, um, fun t l H1 s1 nl et el => ?_⟩
    show gTup K 2 (gCons (gName 1) (gCons (gName 2) gNil)) (.ref t) _ _ _
    walk_at "st"
    refine r_mkT ?_
    walk_at "st"
    intro x dx hx hdx nxd
    refine ⟨x, dx, rfl, upd_same, fun A B H2 k2 hA hB R => ⟨rfl, ?_⟩⟩
    have s2 : Same H1 H2 := fun b o e => k2 b o (hl_set (ne_of_none e hx) (hl_set (ne_of_none e hdx) e)) (ne_of_none e hx)
    have nA : H1 A = none := by
      cases hh : H1 A with
      | none => rfl
      | some o => rw [hl_set (ne_of_none hh hx) (hl_set (ne_of_none hh hdx) hh)] at hA; cases hA
    have nB : H1 B = none := by
      cases hh : H1 B with
      | none => rfl
      | some o => rw [hl_set (ne_of_none hh hx) (hl_set (ne_of_none hh hdx) hh)] at hB; cases hB
    clear k2 hA hB nxd
    have el : H1 l = some (.lst (wordsV (unitL hid ds p))) := el
    have el2 := s2 _ _ el
    have lw : (wordsV (unitL hid ds p)).length = (unitL hid ds p).length := by unfold wordsV; rw [List.length_map]
    walk_at "st"
    refine ⟨_, rfl, l, _, rfl, SqL.of el2, ?_⟩
    refine lp_by (walk_enum (K := K) (a := l) (xs := wordsV (unitL hid ds p))) (fun i σ' H' => ∃ x4 x5 ls st, σ' = [some (.str (Sx (linesC (unitL hid ds p)))), some (.ref l), some (.bl true), some (.ref x), x4, x5] ∧ Same H1 H' ∧ RdS c_CodeReader H' x A B ls st ∧ (∀ b ∈ ls, H1 b = none) ∧ Pos hid ds p st ((unitL hid ds p).drop i))
      ⟨none, none, [], _, rfl, s2, R, fun b m => (by cases m), .s0⟩ (fun i σ' H' _ z => by obtain ⟨_, _, _, _, _, z1, _⟩ := z; exact SqL.of (z1 _ _ el)) (fun i v σ' HX HX' hi z y => ?_) (fun σ' HX z => ?_)
    · obtain ⟨y4, y5, ls, st, rfl, sm, R1, nls, ps⟩ := z
      obtain ⟨tt, x1, y1, rfl, nt, rfl, e1, e2⟩ := y
      rw [lw] at hi
      have e2 : (wordsV (unitL hid ds p))[i]? = some y1 := e2
      unfold wordsV at e2
      rw [List.getElem?_map, List.getElem?_eq_getElem hi] at e2
      obtain rfl := Option.some.inj e1
      obtain rfl : V.str (Sx (unitL hid ds p)[i]) = y1 := Option.some.inj e2
      obtain ⟨st', stp, ps'⟩ := ps.step g (List.drop_eq_getElem_cons hi)
      have R2 := R1.same (Same.upd_new (x := .tup [.int (i : Nat), .str (Sx (unitL hid ds p)[i])]) nt)
      have sm2 := sm.trans (Same.upd_new (x := .tup [.int (i : Nat), .str (Sx (unitL hid ds p)[i])]) nt)
      have ett : upd HX tt (.tup [.int (i : Nat), .str (Sx (unitL hid ds p)[i])]) tt = some (.tup [.int (i : Nat), .str (Sx (unitL hid ds p)[i])]) := upd_same
      generalize upd HX tt (.tup [.int (i : Nat), .str (Sx (unitL hid ds p)[i])]) = HY at *
      generalize (unitL hid ds p)[i] = a at *
      refine ⟨tt, [.int (i : Nat), .str (Sx a)], rfl, .inl (.inl ett), rfl, _, _, rfl, _, _, rfl, rfl, ?_⟩
      walk_at "st"
      walk_at "if"
      have own : ∀ b o, H1 b = some o → b ∉ x :: A :: B :: ls := fun b o e m => by
        rcases List.mem_cons.mp m with z | m
        · rw [z, hx] at e; cases e
        · rcases List.mem_cons.mp m with z | m
          · rw [z, nA] at e; cases e
          · rcases List.mem_cons.mp m with z | m
            · rw [z, nB] at e; cases e
            · rw [nls b m] at e; cases e
      refine ⟨x, A, B, ls, st, st', a, rfl, R2, stp, fun ls' H3 k3 f3 R3 => ?_⟩
      walk_at "st"
      refine ⟨_, _, ls', st', rfl, fun b o e => k3 b o (sm2 _ _ e) (own b o e), R3, fun b m => ?_, ps'⟩
      rcases f3 b m with m | e
      · exact nls b m
      · cases hh : H1 b with
        | none => rfl
        | some o => rw [sm2 _ _ hh] at e; cases e
    · obtain ⟨y4, y5, ls, st, rfl, sm, R1, nls, ps⟩ := z
      rw [lw, List.drop_length] at ps
      obtain rfl := ps.fin rfl
      walk_at "st"
      walk_at "if"
      refine ⟨x, A, B, ls, _, hid, rfl, R1, rfl, rfl, ?_⟩
      walk_at "st"
      refine ⟨x, A, B, ls, hid, ds, p, rfl, R1, g, fun x9 H9 s9 cv => ?_⟩
      exact q x9 H9 ((s1.trans sm).trans s9) cv
end
local macro_rules | `(tactic| walk_at "ssz") => `(tactic| first | decide | exact str_small (by assumption) | (have : (1000000 : Nat) ≤ sizeLine := (by decide); omega))
local macro_rules | `(tactic| walk_at "st1") => `(tactic| first
  | with_reducible refine' r_nt ?_ | with_reducible refine' r_nf ?_
  | ((with_reducible refine r_lenS ?e1 ?_); (case e1 => walk_at "ssz"))
  | with_reducible refine r_inS ?_
  | with_reducible refine r_ninS ?_
  | ((with_reducible refine r_addS ?e1 ?_); (case e1 => walk_at "ssz"))
  | ((with_reducible refine' r_ixS ?e1 ?e2 ?_); (case e1 => walk_at "ssz"); (case e2 => first | assumption | rfl))
  | with_reducible refine r_istr ?_
  | with_reducible refine r_is ?_
  | with_reducible refine r_un ?_
  | with_reducible refine r_u ?_)
local macro_rules | `(tactic| walk_at "st1") => `(tactic| first
  | with_reducible refine r_tru ?_
  | ((with_reducible refine' r_truT ?e1 ?_); (case e1 => walk_at "sq"))
  | with_reducible refine r_isN ?_
  | with_reducible refine r_tyS ?_
  | with_reducible refine r_m1 ?_
  | with_reducible refine r_sx ?_
  | ((with_reducible refine r_strC ?e1 ?_); (case e1 => omega)))
local macro_rules | `(tactic| walk_at "st1") => `(tactic| first
  | with_reducible refine r_par ?_
  | with_reducible refine r_parx ?_
  | ((with_reducible refine' r_gtup ?e1 ?e2 ?_); (case e1 => walk_at "sq"); (case e2 => rfl))
  | with_reducible refine r_gcons ?_
  | with_reducible refine r_gnil ?_
  | with_reducible refine r_ient ?_
  | ((with_reducible refine' r_ent ?e1 ?_); (case e1 => walk_at "sq")))
local macro_rules | `(tactic| walk_at "st1") => `(tactic| first
  | with_reducible refine' r_nt ?_
  | with_reducible refine' r_nf ?_
  | with_reducible refine r_un ?_
  | with_reducible refine r_u ?_)
/-! ### the law writes a row itself -/
def ArgSm : Arg → Prop
  | .w _ => True
  | .n i => 0 ≤ i ∧ i ≤ 999
  | .ways l => l.length ≤ 6 ∧ ∀ x ∈ l, 0 ≤ x.2 ∧ x.2 ≤ 999
theorem arg_sm {hid c : Nat} {many p : Int} {a : Arg} (f : Fits hid many p NameS Ris c a) (hm : many ≤ 400) (hp : p ≤ 997) : ArgSm a := by
  cases f with
  | u h => trivial
  | n h => exact ⟨h.1, by omega⟩
  | t h => exact ⟨h.1, by omega⟩
  | m h => exact ⟨h.1, by omega⟩
  | d h => trivial
  | w h1 h2 h3 => exact ⟨h1.2, fun x m => ⟨(h2 x m).2.1, by have := (h2 x m).2.2; omega⟩⟩
theorem r_slY {K : PySem.W.Frag} {a : Addr} {x : V} {xs : List V} {H : Hp} {Q : VK} (h : H a = some (.tup (x :: xs))) (q : ∀ p H', Same H H' → H' p = some (.tup xs) → Q (.ref p) H') : rSlA K (.ref a) (some 1) none H Q := by
  have e1 : HT.sIx (x :: xs).length 0 (some 1) = 1 := by
    rw [List.length_cons]
    simp [HT.sIx]
  have e2 : HT.sIx (x :: xs).length (x :: xs).length none = xs.length + 1 := rfl
  refine ⟨a, _, rfl, SqT.of h, fun z => absurd (e1.symm.trans z.1) (by decide), fun _ p hp => q p _ (Same.upd_new hp) ?_⟩
  rw [upd_same]
  unfold cutV
  rw [e1, e2, List.drop_succ_cons, List.drop_zero]
  show some (HO.tup (xs.take (xs.length + 1 - 1))) = _
  rw [Nat.add_sub_cancel, List.take_length]
def sp_law_line (_ : PySem.W.Frag) : Sp := fun vs H Q _ => ∃ (v : V) (hid : Nat) (many p : Int) (x : Ins), vs = [v] ∧ InsV H v x ∧ GoodI hid many p x ∧ (many ≤ 400 ∧ p ≤ 997) ∧ ∀ H', Same H H' → Q (.str (Sx (insL x))) H'
section
variable {P : Program} {w : World} {K : PySem.W.Frag} {mg : Str → Option Value} {base : Heap}
theorem ok_law_line {c_Coded : Addr} {c_Machine : Addr} {c_CodeReader : Addr} {c_REGISTERS : Addr} {c_CELLS : Addr} {c_SHAPES : Addr} (T : Tx K mg c_Coded c_Machine c_CodeReader c_REGISTERS c_CELLS c_SHAPES w)  {f : Addr} {fd : FuncData} (F : Here K mg "_law_line" s_law_line ["row"] f fd) : Cal P w K mg base "_law_line" 1 ["row"] (sp_law_line K) s_law_line f fd := by
  refine F.cal sc_law_line (fun vs H Q E h => ?_) (fun cdv A outer s H vs Q E hr h => ?_)
  · obtain ⟨v, hid, many, p, x, rfl, _⟩ := h
    rfl
  · obtain ⟨v, hid, many, p, x, rfl, ⟨t, us, rfl, ht, al⟩, g, hmp, q⟩ := h
    refine ⟨_, (pss_cons (ps_set (i := 1) sc_law_line.nd rfl (by first | exact .inl rfl | exact .inr rfl) (pe_lst (pa_cons (pe_ix (ix_tupK (K := K)) (pv 0) pe_int (fun _ _ => rfl)) pa_nil)))
      (pss_cons (ps_for PassesOwn.never rfl (pi_tupK (K := K) (pe_slice (sl_tupAK (K := K)) (pv 0) (po_some pe_int) po_none)) (pg_name (i := 2) sc_law_line.nd rfl (by first | exact .inl rfl | exact .inr rfl)) (pss_one (ps_if (pt_val (pe_callB (cr_isiK (K := K)) (by rfl) T.m_isinstance (by decide +kernel) (pa_cons (pv 2) (pa_cons (pe_bltn (v := .ty "tuple") (by rfl) T.m_tuple (by decide +kernel) rfl) pa_nil)))) (pss_one (ps_for PassesOwn.never rfl (pi_tupK (K := K) (pv 2)) (castPG (K := K) (n := 2) (pg_tup rfl (pgs_cons (pg_name (i := 3) sc_law_line.nd rfl (by first | exact .inl rfl | exact .inr rfl)) (pgs_cons (pg_name (i := 4) sc_law_line.nd rfl (by first | exact .inl rfl | exact .inr rfl)) pgs_nil)))) (pss_one (ps_set (i := 1) sc_law_line.nd rfl (by first | exact .inl rfl | exact .inr rfl) (pe_op op_cat (pv 1) (pe_lst (pa_cons (pv 3) (pa_cons (pe_callTy cr_strV (by rfl) T.m_str (by decide +kernel) (pa_cons (pv 4) pa_nil)) pa_nil)))))))) (pss_one (ps_expr (castBM (K := K) (pe_bm PySem.F.plainAttrs_list PySem.F.slot_list_append PySem.F.type_list_append mt_append (pv 1) (pa_cons (pe_callTy cr_strV (by rfl) T.m_str (by decide +kernel) (pa_cons (pv 2) pa_nil)) pa_nil))))))))
      (pss_one (ps_ret (pe_op op_addS pe_str (castM1 (K := K) (pe_join pe_str (pv 1)))))))), ?_⟩
    have ix0 : atI (V.str x.1 :: us) 0 = some (.str x.1) := (show atI _ ((0 : Nat) : Int) = _ from atI_nat rfl)
    have hw := ins_words g hmp.1 hmp.2
    have hl := ins_len g hmp.1 hmp.2
    obtain ⟨l4, fa⟩ := good_args g
    walk_at "st"
    intro l hl0
    have s1 : Same H (upd H l (.lst [V.str x.1])) := Same.upd_new hl0
    have el : upd H l (.lst [V.str x.1]) l = some (.lst (wordsV [cs x.1])) := by rw [upd_same]; unfold wordsV; rw [List.map_cons, Sx_cs]; rfl
    generalize upd H l (.lst [V.str x.1]) = H1 at *
    have ht1 := s1 _ _ ht
    walk_at "st"
    refine r_slY ht1 fun p1 H2 s2 h2 => ?_
    have el2 := s2 _ _ el
    have S2 := s1.trans s2
    have insl : ∀ k, (cs x.1 :: (x.2.take k).flatMap argW).length ≤ 49 := fun k => by
      refine Nat.le_trans ?_ hl
      show ((x.2.take k).flatMap argW).length + 1 ≤ (x.2.flatMap argW).length + 1
      have e : x.2.flatMap argW = (x.2.take k).flatMap argW ++ (x.2.drop k).flatMap argW := by rw [← List.flatMap_append, List.take_append_drop]
      rw [e, List.length_append]; omega
    refine r_it (SqT.of h2) ?_
    refine lp_by (walk_tup (a := p1) (xs := us)) (fun i σ' H' => ∃ l x2 x3 x4, σ' = [some (.ref t), some (.ref l), x2, x3, x4] ∧ Same H H' ∧ H' p1 = some (.tup us) ∧ H' l = some (.lst (wordsV (cs x.1 :: (x.2.take i).flatMap argW))) ∧ H l = none)
      ⟨l, none, none, none, rfl, S2, h2, el2, hl0⟩ (fun i σ' H' _ z => by obtain ⟨_, _, _, _, _, _, z1, _⟩ := z; exact SqT.of z1) (fun i v σ' H3 H3' hi z y => ?_) (fun σ' H3 z => ?_)
    · obtain ⟨l3, x2, x3, x4, rfl, s3, hp3, el3, nl3⟩ := z
      obtain ⟨rfl, ex⟩ := y
      obtain ⟨a, ea, av⟩ := al.2 i v ex
      have av3 := av.same s3
      obtain ⟨c, fc⟩ := fa a (List.mem_of_getElem? ea)
      have sm := arg_sm fc hmp.1 hmp.2
      have tk : x.2.take (i + 1) = x.2.take i ++ [a] := by rw [List.take_succ, ea]; rfl
      have tf : cs x.1 :: (x.2.take (i + 1)).flatMap argW = (cs x.1 :: (x.2.take i).flatMap argW) ++ argW a := by
        rw [tk, List.flatMap_append, List.flatMap_cons, List.flatMap_nil, List.append_nil]; rfl
      have len3 : (wordsV (cs x.1 :: (x.2.take i).flatMap argW)).length < 100 := by
        unfold wordsV
        rw [List.length_map]
        have := insl i
        omega
      have np : p1 ≠ l3 := fun e => by rw [e, el3] at hp3; cases hp3
      have app : ∀ (w : List Nat), argW a = [w] → ∃ l y2 y3 y4, ([some (.ref t), some (.ref l3), some v, x3, x4] : L2.St) = [some (.ref t), some (.ref l), y2, y3, y4] ∧ Same H (upd H3' l3 (.lst (wordsV (cs x.1 :: (x.2.take i).flatMap argW) ++ [V.str (Sx w)]))) ∧ upd H3' l3 (.lst (wordsV (cs x.1 :: (x.2.take i).flatMap argW) ++ [V.str (Sx w)])) p1 = some (.tup us) ∧ upd H3' l3 (.lst (wordsV (cs x.1 :: (x.2.take i).flatMap argW) ++ [V.str (Sx w)])) l = some (.lst (wordsV (cs x.1 :: (x.2.take (i + 1)).flatMap argW))) ∧ H l = none := fun w ew =>
        ⟨l3, _, _, _, rfl, fun b o e => hl_set (ne_of_none e nl3) (s3 _ _ e), hl_set np hp3, by rw [upd_same, tf, ew]; unfold wordsV; rw [List.map_append]; rfl, nl3⟩
      walk_at "st"
      refine r_if ?_
      walk_at "st"
      cases a with
      | w z =>
        obtain rfl : v = .str z := av3
        refine r_isi (.ty _) (.base (.str _)) kt_str_tuple ?_
        walk_at "st"
        refine .inr ⟨_, rfl, ?_⟩
        have zl3 : (wordsV (cs x.1 :: (x.2.take i).flatMap argW)).length < sizeLine := Nat.lt_trans len3 (by decide)
        walk_at "st"
        have := app (cs z) rfl
        rw [Sx_cs] at this
        exact this
      | n k =>
        obtain rfl : v = .int k := av3
        refine r_isi (.ty _) (.base (.int _)) kt_int_tuple ?_
        walk_at "st"
        refine .inl ⟨_, rfl, log_small sm.1 (by have := sm.2; omega), ?_⟩
        rw [numC_of sm.1]
        have zl3 : (wordsV (cs x.1 :: (x.2.take i).flatMap argW)).length < sizeLine := Nat.lt_trans len3 (by decide)
        walk_at "st"
        exact app (numC k) rfl
      | ways wl =>
        obtain ⟨tw, uw, rfl, htw, alw⟩ := av3
        refine r_isi (.ty _) (.base (.tup htw)) kt_tuple_tuple ?_
        walk_at "st"
        refine lp_by (walk_tup (a := tw) (xs := uw)) (fun j σ' H' => ∃ l y3 y4, σ' = [some (.ref t), some (.ref l), some (.ref tw), y3, y4] ∧ Same H H' ∧ H' p1 = some (.tup us) ∧ H' l = some (.lst (wordsV ((cs x.1 :: (x.2.take i).flatMap argW) ++ (wl.take j).flatMap fun x => [cs x.1, numC x.2]))) ∧ H l = none ∧ H' tw = some (.tup uw) ∧ Al (WayI H') uw wl)
          ⟨l3, x3, x4, rfl, s3, hp3, by rw [List.take_zero, List.flatMap_nil, List.append_nil]; exact el3, nl3, htw, alw⟩ (fun j σ' H' _ z => by obtain ⟨_, _, _, _, _, _, _, _, z1, _⟩ := z; exact SqT.of z1) (fun j v' σ' H4 H4' hj z y => ?_) (fun σ' H4 z => ?_)
        · obtain ⟨l4, y3, y4, rfl, s4, hp4, el4, nl4, htw4, alw4⟩ := z
          obtain ⟨rfl, ex4⟩ := y
          obtain ⟨xw, ew, tx, rfl, htx⟩ := alw4.2 j v' ex4
          have hx9 := sm.2 xw (List.mem_of_getElem? ew)
          have e12 : ∀ l : List (Str × Int), (l.flatMap fun x => [cs x.1, numC x.2]).length = 2 * l.length := by
            intro l
            induction l with
            | nil => rfl
            | cons x l ih => rw [List.flatMap_cons, List.length_append, ih, List.length_cons]; show 2 + 2 * l.length = 2 * (l.length + 1); omega
          have len4 : (wordsV ((cs x.1 :: (x.2.take i).flatMap argW) ++ (wl.take j).flatMap fun x => [cs x.1, numC x.2])).length ≤ 200 := by
            unfold wordsV at len3 ⊢
            rw [List.length_map] at len3 ⊢
            rw [List.length_append, e12, List.length_take]
            have := sm.1
            omega
          refine ⟨tx, _, rfl, SqT.of htx, rfl, ?_⟩
          walk_at "st"
          refine .inl ⟨_, rfl, log_small hx9.1 (by have := hx9.2; omega), ?_⟩
          rw [numC_of hx9.1]
          walk_at "st"
          intro l5 hl5
          have s5 := Same.upd_new (x := .lst [V.str xw.1, V.str (Sx (numC xw.2))]) hl5
          have el5 : upd H4' l5 (.lst [V.str xw.1, V.str (Sx (numC xw.2))]) l5 = some (.lst [V.str xw.1, V.str (Sx (numC xw.2))]) := upd_same
          generalize upd H4' l5 (.lst [V.str xw.1, V.str (Sx (numC xw.2))]) = H5 at *
          refine r_catL (s5 _ _ el4) el5 (by show _ + 2 ≤ 1000000; omega) fun l6 hl6 => ?_
          walk_at "st"
          have s6 := s5.trans (Same.upd_new (x := .lst (wordsV ((cs x.1 :: (x.2.take i).flatMap argW) ++ (wl.take j).flatMap fun x => [cs x.1, numC x.2]) ++ [V.str xw.1, V.str (Sx (numC xw.2))])) hl6)
          refine ⟨l6, _, _, rfl, s4.trans s6, s6 _ _ hp4, ?_, ?_, s6 _ _ htw4, alw4.imp fun u y h => by obtain ⟨t9, e9, h9⟩ := h; exact ⟨t9, e9, s6 _ _ h9⟩⟩
          · rw [upd_same, List.take_succ, ew, List.flatMap_append, ← List.append_assoc]
            have e9 : ((some xw).toList.flatMap fun x => [cs x.1, numC x.2]) = [cs xw.1, numC xw.2] := by simp
            rw [e9]
            unfold wordsV
            simp only [List.map_append, List.map_cons, List.map_nil, Sx_cs]
          · cases e : H l6 with
            | none => rfl
            | some o => rw [s5 _ _ (s4 _ _ e)] at hl6; cases hl6
        · obtain ⟨l4, y3, y4, rfl, s4, hp4, el4, nl4, htw4, alw4⟩ := z
          rw [alw.1, List.take_length] at el4
          refine ⟨l4, _, _, _, rfl, s4, hp4, ?_, nl4⟩
          rw [el4, tf]; rfl
    · obtain ⟨l3, x2, x3, x4, rfl, s3, hp3, el3, nl3⟩ := z
      rw [al.1, List.take_length] at el3
      have el3 : H3 l3 = some (.lst (wordsV (insW x))) := el3
      walk_at "st"
      refine r_joinS (ys := (insW x).map Sx) (SqL.of (by rw [el3, List.map_map]; rfl)) ?_ ?_
      · have := sum_words (insW x) fun w m => (hw w m).2.1
        rw [List.length_map]
        show _ + (insW x).length * 1 ≤ _
        omega
      rw [join_words]
      have jl := join_len (insW x) fun w m => (hw w m).2.1
      refine r_addS (by rw [Sx_len]; exact Nat.le_trans (show 2 + (joinC (insW x)).length ≤ 1000 by omega) (by decide)) ?_
      rw [show Str.ofString "  " = Sx [32, 32] from rfl, Sx_app]
      exact q _ s3
end
local macro_rules | `(tactic| walk_at "ssz") => `(tactic| first | decide | exact str_small (by assumption) | (have : (1000000 : Nat) ≤ sizeLine := (by decide); omega))
local macro_rules | `(tactic| walk_at "st1") => `(tactic| first
  | with_reducible refine' r_nt ?_ | with_reducible refine' r_nf ?_
  | ((with_reducible refine r_lenS ?e1 ?_); (case e1 => walk_at "ssz"))
  | with_reducible refine r_inS ?_
  | with_reducible refine r_ninS ?_
  | ((with_reducible refine r_addS ?e1 ?_); (case e1 => walk_at "ssz"))
  | ((with_reducible refine' r_ixS ?e1 ?e2 ?_); (case e1 => walk_at "ssz"); (case e2 => first | assumption | rfl))
  | with_reducible refine r_istr ?_
  | with_reducible refine r_is ?_
  | with_reducible refine r_un ?_
  | with_reducible refine r_u ?_)
local macro_rules | `(tactic| walk_at "st1") => `(tactic| first
  | with_reducible refine r_tru ?_
  | ((with_reducible refine' r_truT ?e1 ?_); (case e1 => walk_at "sq"))
  | with_reducible refine r_isN ?_
  | with_reducible refine r_tyS ?_
  | with_reducible refine r_m1 ?_
  | with_reducible refine r_sx ?_
  | ((with_reducible refine r_strC ?e1 ?_); (case e1 => omega)))
local macro_rules | `(tactic| walk_at "st1") => `(tactic| first
  | with_reducible refine r_par ?_
  | with_reducible refine r_parx ?_
  | ((with_reducible refine' r_gtup ?e1 ?e2 ?_); (case e1 => walk_at "sq"); (case e2 => rfl))
  | with_reducible refine r_gcons ?_
  | with_reducible refine r_gnil ?_
  | with_reducible refine r_ient ?_
  | ((with_reducible refine' r_ent ?e1 ?_); (case e1 => walk_at "sq")))
local macro_rules | `(tactic| walk_at "st1") => `(tactic| first
  | with_reducible refine' r_nt ?_
  | with_reducible refine' r_nf ?_
  | with_reducible refine r_un ?_
  | with_reducible refine r_u ?_)
/-! ### the law writes a unit itself -/
local macro_rules | `(tactic| walk_at "st1") => `(tactic| with_reducible refine r_fmt ?_)
def sp_law_written (_ : PySem.W.Frag) : Sp := fun vs H Q _ => ∃ (v : V) (hid : Nat) (ds : List Deed) (p : Int), vs = [v] ∧ PartsV H v hid ds p ∧ GoodU hid ds p ∧ ∀ l H', Same H H' → H' l = some (.lst (wordsV (unitL hid ds p))) → Q (.ref l) H'
section
variable {P : Program} {w : World} {K : PySem.W.Frag} {mg : Str → Option Value} {base : Heap}
theorem ok_law_written {c_Coded : Addr} {c_Machine : Addr} {c_CodeReader : Addr} {c_REGISTERS : Addr} {c_CELLS : Addr} {c_SHAPES : Addr} (T : Tx K mg c_Coded c_Machine c_CodeReader c_REGISTERS c_CELLS c_SHAPES w) {f_law_line : Addr} {fd_law_line : FuncData} (C_law_line : Cal P w K mg base "_law_line" 1 ["row"] (sp_law_line K) s_law_line f_law_line fd_law_line) {f : Addr} {fd : FuncData} (F : Here K mg "_law_written" s_law_written ["parts"] f fd) : Cal P w K mg base "_law_written" 2 ["parts"] (sp_law_written K) s_law_written f fd := by
  refine F.cal sc_law_written (fun vs H Q E h => ?_) (fun cdv A outer s H vs Q E hr h => ?_)
  · obtain ⟨v, hid, ds, p, rfl, _⟩ := h
    rfl
  · obtain ⟨v, hid, ds, p, rfl, ⟨t, dv, rfl, ht, td, us, rfl, htd, al⟩, g, q⟩ := h
    refine ⟨_, (pss_cons (ps_asg (pv 0) (castPG (K := K) (n := 3) (pg_tup rfl (pgs_cons (pg_name (i := 1) sc_law_written.nd rfl (by first | exact .inl rfl | exact .inr rfl)) (pgs_cons (pg_name (i := 2) sc_law_written.nd rfl (by first | exact .inl rfl | exact .inr rfl)) (pgs_cons (pg_name (i := 3) sc_law_written.nd rfl (by first | exact .inl rfl | exact .inr rfl)) pgs_nil))))))
      (pss_cons (ps_set (i := 4) sc_law_written.nd rfl (by first | exact .inl rfl | exact .inr rfl) (pe_lst (pa_cons (pe_joined (.cons pe_str (.cons (pe_fmt (pv 3)) .nil))) (pa_cons (pe_joined (.cons pe_str (.cons (pe_fmt (pv 1)) .nil))) pa_nil))))
      (pss_cons (ps_for PassesOwn.never rfl (pi_tupK (K := K) (pv 2)) (castPG (K := K) (n := 3) (pg_tup rfl (pgs_cons (pg_name (i := 5) sc_law_written.nd rfl (by first | exact .inl rfl | exact .inr rfl)) (pgs_cons (pg_name (i := 6) sc_law_written.nd rfl (by first | exact .inl rfl | exact .inr rfl)) (pgs_cons (pg_name (i := 7) sc_law_written.nd rfl (by first | exact .inl rfl | exact .inr rfl)) pgs_nil))))) (pss_cons (ps_expr (castBM (K := K) (pe_bm PySem.F.plainAttrs_list PySem.F.slot_list_append PySem.F.type_list_append mt_append (pv 4) (pa_cons (pe_joined (.cons pe_str (.cons (pe_fmt (pv 5)) (.cons pe_str (.cons (pe_fmt (pv 6)) .nil))))) pa_nil))))
      (pss_one (ps_set (i := 4) sc_law_written.nd rfl (by first | exact .inl rfl | exact .inr rfl) (pe_op op_cat (pe_op op_cat (pv 4) (pe_lc rfl sc_law_written.nd (pi_tupK (K := K) (pv 7)) (blkOk_by (own := [("row", 8)]) (N := ["parts", "cells", "pages", "p", "rows", "name", "many", "code", "row"]) (sc := (defScope s_law_written)) (by decide +kernel)) (fun _ _ _ _ _ => (pg_name (i := 8) sc_law_written.nd rfl (by first | exact .inl rfl | exact .inr rfl))) (fun _ _ _ _ _ => pts_nil) (fun _ _ _ _ _ => (pe_call C_law_line.ok (hr.mono (by decide)) (by rfl) C_law_line.at_ C_law_line.kp C_law_line.b .nil pass0 (pa_cons (pv 8) pa_nil))))) (pe_lst (pa_cons pe_str pa_nil)))))))
      (pss_one (ps_ret (pv 4)))))), ?_⟩
    have hp : 0 ≤ p ∧ p ≤ 999 := ⟨by have := g.prime.1; omega, by have := g.prime.2.1; omega⟩
    have hh : 0 ≤ ((hid : Nat) : Int) ∧ ((hid : Nat) : Int) ≤ 999 := by have := g.lid; omega
    have n1 := numC_sm hp
    have n2 := numC_sm hh
    have gl := g.len
    walk_at "st"
    refine r_js (a := []) ?_
    walk_at "st"
    refine r_jx (b := cs "prime ") (by show 6 ≤ 1000; decide) (r_js ?_)
    walk_at "st"
    refine r_fmI hp (r_jx (lenA (n := 6) (by decide) n1) (r_jn ?_))
    walk_at "st"
    refine r_js (a := []) ?_
    walk_at "st"
    refine r_jx (b := cs "cells ") (by show 6 ≤ 1000; decide) (r_js ?_)
    walk_at "st"
    refine r_fmI hh (r_jx (lenA (n := 6) (by decide) n2) (r_jn ?_))
    walk_at "st"
    intro l hl
    rw [show ([] ++ cs "prime " ++ numC p) = joinC [cs "prime", numC p] from rfl, show ([] ++ cs "cells " ++ numC (hid : Nat)) = joinC [cs "cells", numC (hid : Nat)] from rfl]
    have s1 : Same H (upd H l (.lst [V.str (Sx (joinC [cs "prime", numC p])), V.str (Sx (joinC [cs "cells", numC (hid : Nat)]))])) := Same.upd_new hl
    have el1 : upd H l (.lst [V.str (Sx (joinC [cs "prime", numC p])), V.str (Sx (joinC [cs "cells", numC (hid : Nat)]))]) l = some (.lst (wordsV [joinC [cs "prime", numC p], joinC [cs "cells", numC (hid : Nat)]])) := upd_same
    generalize upd H l (.lst [V.str (Sx (joinC [cs "prime", numC p])), V.str (Sx (joinC [cs "cells", numC (hid : Nat)]))]) = H1 at *
    have htd1 := s1 _ _ htd
    walk_at "st"
    refine lp_by (walk_tup (a := td) (xs := us)) (fun i σ' H' => ∃ l x5 x6 x7, σ' = [some (.ref t), some (.int (hid : Nat)), some (.ref td), some (.int p), some (.ref l), x5, x6, x7, none] ∧ Same H H' ∧ H l = none ∧ H' l = some (.lst (wordsV ([joinC [cs "prime", numC p], joinC [cs "cells", numC (hid : Nat)]] ++ (ds.take i).flatMap deedL))) ∧ ((ds.take i).flatMap deedL).length ≤ 402 * i)
      ⟨l, none, none, none, rfl, s1, hl, el1, Nat.zero_le _⟩ (fun i σ' H' _ z => ?_) (fun i v σ' H2 H2' hi z y => ?_) (fun σ' H2 z => ?_)
    · obtain ⟨_, _, _, _, _, k2, _⟩ := z
      exact SqT.of (k2 _ _ htd)
    · obtain ⟨l2, x5, x6, x7, rfl, s2, nl2, el2, lf⟩ := z
      obtain ⟨rfl, ex⟩ := y
      obtain ⟨d, ed, t1, c, rfl, ht1, tc, cu, rfl, hc, ac⟩ := al.2 i v ex
      have gd := g.good d (List.mem_of_getElem? ed)
      have gdl := gd.len
      have gm := gd.many
      have gn := gd.name
      have ht2 := s2 _ _ ht1
      have i4 : i < 4 := by have := al.1; omega
      have hm9 : 0 ≤ d.2.1 ∧ d.2.1 ≤ 999 := by omega
      have nm := numC_sm hm9
      have nn : (cs d.1).length ≤ 8 := by rw [cs_len]; exact gn.2.1
      have zn : d.1.length ≤ 1000 := Nat.le_trans gn.2.1 (by decide)
      refine ⟨t1, _, rfl, SqT.of ht2, rfl, ?_⟩
      walk_at "st"
      refine r_js (a := []) ?_
      walk_at "st"
      refine r_jx (b := cs "deed ") (by decide +kernel) (r_js ?_)
      walk_at "st"
      refine r_fmS zn ?_
      rw [show (V.str d.1) = V.str (Sx (cs d.1)) by rw [Sx_cs]]
      refine r_jx (lenA (n := 5) (by decide +kernel) nn) (r_js ?_)
      walk_at "st"
      refine r_jx (b := [32]) (lenA (n := 13) (m := 1) (lenA (n := 5) (by decide +kernel) nn) (by decide)) (r_js ?_)
      walk_at "st"
      refine r_fmI hm9 (r_jx (lenA (n := 14) (lenA (n := 13) (m := 1) (lenA (n := 5) (by decide +kernel) nn) (by decide)) nm) (r_jn ?_))
      have ehd : ([] ++ cs "deed " ++ cs d.1 ++ [32] ++ numC d.2.1) = joinC (headW d) := by
        show _ = cs "deed" ++ ([32] ++ (cs d.1 ++ ([32] ++ numC d.2.1)))
        rw [List.nil_append, List.append_assoc, List.append_assoc]; rfl
      rw [ehd]
      have lw : (wordsV ([joinC [cs "prime", numC p], joinC [cs "cells", numC (hid : Nat)]] ++ (ds.take i).flatMap deedL)).length ≤ 402 * i + 2 := by
        unfold wordsV
        rw [List.length_map, List.length_append]
        show 2 + _ ≤ _
        omega
      have zl2 : (wordsV ([joinC [cs "prime", numC p], joinC [cs "cells", numC (hid : Nat)]] ++ (ds.take i).flatMap deedL)).length < sizeLine := Nat.lt_of_lt_of_le (show _ < 10000 by omega) (by decide)
      walk_at "st"
      have kt3 := KeepT.lst (o := .lst (wordsV ([joinC [cs "prime", numC p], joinC [cs "cells", numC (hid : Nat)]] ++ (ds.take i).flatMap deedL) ++ [V.str (Sx (joinC (headW d)))])) el2
      have hc3 := kt3 _ _ (s2 _ _ hc)
      have alc3 := ac.imp fun u a h => (InsV.same h s2).tup kt3
      have s3 : Same H (upd H2' l2 (.lst (wordsV ([joinC [cs "prime", numC p], joinC [cs "cells", numC (hid : Nat)]] ++ (ds.take i).flatMap deedL) ++ [V.str (Sx (joinC (headW d)))]))) := fun b o e => hl_set (ne_of_none e nl2) (s2 _ _ e)
      have el3 : upd H2' l2 (.lst (wordsV ([joinC [cs "prime", numC p], joinC [cs "cells", numC (hid : Nat)]] ++ (ds.take i).flatMap deedL) ++ [V.str (Sx (joinC (headW d)))])) l2 = some (.lst (wordsV ([joinC [cs "prime", numC p], joinC [cs "cells", numC (hid : Nat)]] ++ (ds.take i).flatMap deedL) ++ [V.str (Sx (joinC (headW d)))])) := upd_same
      generalize upd H2' l2 (.lst (wordsV ([joinC [cs "prime", numC p], joinC [cs "cells", numC (hid : Nat)]] ++ (ds.take i).flatMap deedL) ++ [V.str (Sx (joinC (headW d)))])) = H3 at *
      refine r_it (SqT.of hc3) ?_
      intro D hD
      refine lc_map (walk_tup (a := tc) (xs := cu)) (by rw [ac.1]; omega) hD (fun j y _ => ∃ x, d.2.2[j]? = some x ∧ y = V.str (Sx (insL x))) (fun _ _ _ _ h _ => h) (fun _ _ _ _ _ h _ => h) (fun H' k => SqT.of (k _ _ hc3)) (fun j H1 x H2 y => by rw [y.1]; exact Same.refl _)
        (fun j v H4 H5 Y No hj s4 y hY => ?_) (fun ys H4 ely s4 eD hys => ?_)
      · obtain ⟨rfl, exj⟩ := y
        refine ⟨rfl, ?_⟩
        obtain ⟨xi, exi, iv⟩ := alc3.2 j v exj
        have gi := gd.ins xi (List.mem_of_getElem? exi)
        have iv4 := iv.same s4
        have ml : ((d.2.2.length : Nat) : Int) ≤ 400 := by omega
        walk_at "st"
        exact ⟨v, hid, (d.2.2.length : Nat), p, xi, rfl, iv4, gi, ⟨ml, g.prime.2.1⟩, fun H9 s9 => hY _ _ s9 ⟨xi, exi, rfl⟩⟩
      have ey : ys = wordsV (d.2.2.map insL) := by
        unfold wordsV
        rw [List.map_map]
        apply List.ext_getElem?
        intro j
        rw [List.getElem?_map]
        cases e2 : ys[j]? with
        | none =>
          rw [List.getElem?_eq_none_iff, ely, ac.1] at e2
          rw [List.getElem?_eq_none_iff.mpr e2]; rfl
        | some y =>
          obtain ⟨z, ez, rfl⟩ := hys j y e2
          rw [ez]; rfl
      subst ey
      have el4 := s4 _ _ el3
      have ly : (wordsV (d.2.2.map insL)).length ≤ 400 := by unfold wordsV; rw [List.length_map, List.length_map]; exact gdl
      refine r_catL el4 eD (by rw [List.length_append]; show _ + 1 + _ ≤ 1000000; omega) fun l5 hl5 => ?_
      have s5 := Same.upd_new (x := .lst (wordsV ([joinC [cs "prime", numC p], joinC [cs "cells", numC (hid : Nat)]] ++ (ds.take i).flatMap deedL) ++ [V.str (Sx (joinC (headW d)))] ++ wordsV (d.2.2.map insL))) hl5
      have el5 : upd H4 l5 (.lst (wordsV ([joinC [cs "prime", numC p], joinC [cs "cells", numC (hid : Nat)]] ++ (ds.take i).flatMap deedL) ++ [V.str (Sx (joinC (headW d)))] ++ wordsV (d.2.2.map insL))) l5 = some (.lst (wordsV ([joinC [cs "prime", numC p], joinC [cs "cells", numC (hid : Nat)]] ++ (ds.take i).flatMap deedL) ++ [V.str (Sx (joinC (headW d)))] ++ wordsV (d.2.2.map insL))) := upd_same
      generalize upd H4 l5 (.lst (wordsV ([joinC [cs "prime", numC p], joinC [cs "cells", numC (hid : Nat)]] ++ (ds.take i).flatMap deedL) ++ [V.str (Sx (joinC (headW d)))] ++ wordsV (d.2.2.map insL))) = H5 at *
      walk_at "st"
      intro l6 hl6
      have s6 := Same.upd_new (x := .lst [V.str "end"]) hl6
      have el6 : upd H5 l6 (.lst [V.str "end"]) l6 = some (.lst [V.str "end"]) := upd_same
      generalize upd H5 l6 (.lst [V.str "end"]) = H6 at *
      refine r_catL (s6 _ _ el5) el6 (by rw [List.length_append, List.length_append]; show _ + 1 + _ + 1 ≤ 1000000; omega) fun l7 hl7 => ?_
      walk_at "st"
      refine ⟨l7, _, _, _, rfl, (((s3.trans s4).trans s5).trans s6).trans (Same.upd_new hl7), ?_, ?_, ?_⟩
      · cases e : H l7 with
        | none => rfl
        | some o => rw [s6 _ _ (s5 _ _ (s4 _ _ (s3 _ _ e)))] at hl7; cases hl7
      · rw [upd_same, List.take_succ, ed]
        unfold wordsV
        congr 2
        have e9 : (ds.take i ++ (some d).toList).flatMap deedL = (ds.take i).flatMap deedL ++ (joinC (headW d) :: (d.2.2.map insL ++ [cs "end"])) := by
          rw [List.flatMap_append]
          show _ ++ (deedL d ++ []) = _
          rw [List.append_nil]; rfl
        rw [e9]
        simp only [List.map_append, List.map_cons, List.map_nil, List.append_assoc, List.cons_append, List.nil_append]
        rfl
      · rw [List.take_succ, ed, List.flatMap_append, List.length_append]
        show _ + (deedL d ++ []).length ≤ _
        rw [List.append_nil]
        have : (deedL d).length = d.2.2.length + 1 + 1 := by
          show (d.2.2.map insL ++ [cs "end"]).length + 1 = _
          rw [List.length_append, List.length_map]; rfl
        omega
    · obtain ⟨l2, x5, x6, x7, rfl, s2, nl2, el2, lf⟩ := z
      rw [al.1, List.take_length] at el2
      walk_at "st"
      exact q l2 H2 s2 el2
end
local macro_rules | `(tactic| walk_at "ssz") => `(tactic| first | decide | exact str_small (by assumption) | (have : (1000000 : Nat) ≤ sizeLine := (by decide); omega))
local macro_rules | `(tactic| walk_at "st1") => `(tactic| first
  | with_reducible refine' r_nt ?_ | with_reducible refine' r_nf ?_
  | ((with_reducible refine r_lenS ?e1 ?_); (case e1 => walk_at "ssz"))
  | with_reducible refine r_inS ?_
  | with_reducible refine r_ninS ?_
  | ((with_reducible refine r_addS ?e1 ?_); (case e1 => walk_at "ssz"))
  | ((with_reducible refine' r_ixS ?e1 ?e2 ?_); (case e1 => walk_at "ssz"); (case e2 => first | assumption | rfl))
  | with_reducible refine r_istr ?_
  | with_reducible refine r_is ?_
  | with_reducible refine r_un ?_
  | with_reducible refine r_u ?_)
local macro_rules | `(tactic| walk_at "st1") => `(tactic| first
  | with_reducible refine r_tru ?_
  | ((with_reducible refine' r_truT ?e1 ?_); (case e1 => walk_at "sq"))
  | with_reducible refine r_isN ?_
  | with_reducible refine r_tyS ?_
  | with_reducible refine r_m1 ?_
  | with_reducible refine r_sx ?_
  | ((with_reducible refine r_strC ?e1 ?_); (case e1 => omega)))
local macro_rules | `(tactic| walk_at "st1") => `(tactic| first
  | with_reducible refine r_par ?_
  | with_reducible refine r_parx ?_
  | ((with_reducible refine' r_gtup ?e1 ?e2 ?_); (case e1 => walk_at "sq"); (case e2 => rfl))
  | with_reducible refine r_gcons ?_
  | with_reducible refine r_gnil ?_
  | with_reducible refine r_ient ?_
  | ((with_reducible refine' r_ent ?e1 ?_); (case e1 => walk_at "sq")))
local macro_rules | `(tactic| walk_at "st1") => `(tactic| first
  | with_reducible refine' r_nt ?_
  | with_reducible refine' r_nf ?_
  | with_reducible refine r_un ?_
  | with_reducible refine r_u ?_)
local macro_rules | `(tactic| walk_at "st1") => `(tactic| first
  | with_reducible refine r_fld ?_
  | with_reducible refine r_sfld ?_
  | ((with_reducible refine' r_fldr ?e1 ?e2 ?e3 ?e4 ?_); (case e1 => walk_at "hl"); (case e2 => assumption); (case e3 => assumption); (case e4 => assumption)))
/-! ### the law -/
local macro_rules | `(tactic| walk_at "st1") => `(tactic| first
  | with_reducible refine r_fmt ?_
  | with_reducible refine r_mth ?_
  | ((with_reducible refine' r_mthC ?e0 ?e1 ?e2 ?e3 ?e4 ?_); (case e0 => assumption); (case e1 => decide); (case e2 => decide); (case e3 => decide); (case e4 => decide)))
abbrev U := Nat × List Deed × Int
def PartV (H : Hp) (v : V) (x : U) : Prop := PartsV H v x.1 x.2.1 x.2.2 ∧ GoodU x.1 x.2.1 x.2.2
def UnitV (C : Addr) (H : Hp) (v : V) (x : U) : Prop := ∃ a, v = .ref a ∧ CodV C H a x.1 x.2.1 x.2.2
theorem PartV.tup {H H' : Hp} {v : V} {x : U} (h : PartV H v x) (k : KeepT H H') : PartV H' v x := ⟨h.1.tup k, h.2⟩
/-- all that is no list stays -/
def KeepN (H H' : Hp) : Prop := ∀ b o, H b = some o → (∀ xs, o ≠ .lst xs) → H' b = some o
theorem KeepN.kp {s c : Addr} {H H' : Hp} (k : Kp [s, c] H H') (t : St s c H) : KeepN H H' := fun a o h n => k _ _ h fun z => by
  obtain ⟨_, cs, j, r, h2⟩ := t
  rcases List.mem_cons.mp z with e1 | z
  · rw [e1, h2.hs] at h; exact n _ (Option.some.inj h).symm
  · rw [List.mem_singleton.mp z, h2.hc] at h; exact n _ (Option.some.inj h).symm
theorem KeepN.lst {H : Hp} {l : Addr} {xs : List V} {o : HO} (e : H l = some (.lst xs)) : KeepN H (upd H l o) := fun a u h n => hl_set (fun z => by rw [z, e] at h; exact n _ (Option.some.inj h).symm) h
theorem KeepN.same {H H' : Hp} (k : Same H H') : KeepN H H' := fun _ _ h _ => k _ _ h
theorem KeepN.trans {H H1 H2 : Hp} (a : KeepN H H1) (b : KeepN H1 H2) : KeepN H H2 := fun x o h n => b _ _ (a _ _ h n) n
theorem KeepN.tup {H H' : Hp} (k : KeepN H H') : KeepT H H' := fun _ _ h => k _ _ h fun _ e => nomatch e
theorem UnitV.keep {C : Addr} {H H' : Hp} {v : V} {x : U} (h : UnitV C H v x) (k : KeepN H H') : UnitV C H' v x := by
  obtain ⟨a, e, dx, dv, av, hx, hd, ha, g⟩ := h
  exact ⟨a, e, dx, dv, av, k _ _ hx (fun _ e => nomatch e), hd.tup k.tup, ha.tup k.tup, g⟩
theorem r_eqC {K : PySem.W.Frag} {C : Addr} {H : Hp} {E : XK} {Q : VK} {x : Addr} {u : U} {b0 : Bool} {b : Addr} (cv : CodV C H x u.1 u.2.1 u.2.2) (cv2 : CodV C H b u.1 u.2.1 u.2.2) (q : Q (.bl (b0 == true)) H) : rEqO C (sp_Coded___eq__ K C) E b0 (.ref x) (.ref b) H Q := by
  obtain ⟨dx, _, _, hx, _⟩ := id cv
  obtain ⟨dx2, _, _, hx2, _⟩ := id cv2
  exact ⟨x, dx, _, _, rfl, hx, .ins hx2, x, _, _, _, .ref b, rfl, cv, .inr ⟨b, _, _, _, rfl, cv2, _, rfl, by rw [decide_eq_true ⟨rfl, rfl, rfl⟩]; exact q⟩⟩
def sp_law (K : PySem.W.Frag) : Sp := fun vs H Q _ => ∃ (a : Addr) (ns : List Int), vs = [.ref a] ∧ SqL K H a (ns.map .int) ∧ ns.length ≤ 63 ∧ ∀ H', Q (.bl true) H'
section
variable {P : Program} {w : World} {K : PySem.W.Frag} {mg : Str → Option Value} {base : Heap}
theorem ok_law {c_Coded : Addr} {c_Machine : Addr} {c_CodeReader : Addr} {c_REGISTERS : Addr} {c_CELLS : Addr} {c_SHAPES : Addr} (T : Tx K mg c_Coded c_Machine c_CodeReader c_REGISTERS c_CELLS c_SHAPES w) {f_law_begin : Addr} {fd_law_begin : FuncData} (C_law_begin : Cal P w K mg base "_law_begin" 1 ["script"] (sp_law_begin K) s_law_begin f_law_begin fd_law_begin) {f_law_parts : Addr} {fd_law_parts : FuncData} (C_law_parts : Cal P w K mg base "_law_parts" 5 ["state", "longest"] (sp_law_parts K) s_law_parts f_law_parts fd_law_parts) {f_Coded___init__ : Addr} {fd_Coded___init__ : FuncData} (C_Coded___init__ : CalD P w K mg base c_Coded "__init__" "Coded.__init__" 7 ["self", "hidden", "deeds", "prime"] [("prime", V.int 97)] (sp_Coded___init__ K c_Coded) s_Coded___init__ f_Coded___init__ fd_Coded___init__) {f_read_coded : Addr} {fd_read_coded : FuncData} (C_read_coded : Cal P w K mg base "read_coded" 10 ["text"] (sp_read_coded K c_Coded) s_read_coded f_read_coded fd_read_coded) {f_Coded___eq__ : Addr} {fd_Coded___eq__ : FuncData} (C_Coded___eq__ : CalM P w K mg base c_Coded "__eq__" 1 ["self", "other"] (sp_Coded___eq__ K c_Coded) s_Coded___eq__ f_Coded___eq__ fd_Coded___eq__) {f_coded_text : Addr} {fd_coded_text : FuncData} (C_coded_text : Cal P w K mg base "coded_text" 2 ["unit"] (sp_coded_text K c_Coded) s_coded_text f_coded_text fd_coded_text) {f_Coded_hidden : Addr} {fd_Coded_hidden : FuncData} (C_Coded_hidden : CalM P w K mg base c_Coded "hidden" 1 ["self"] (sp_Coded_hidden K c_Coded) s_Coded_hidden f_Coded_hidden fd_Coded_hidden) {f_Coded_deeds : Addr} {fd_Coded_deeds : FuncData} (C_Coded_deeds : CalM P w K mg base c_Coded "deeds" 1 ["self"] (sp_Coded_deeds K c_Coded) s_Coded_deeds f_Coded_deeds fd_Coded_deeds) {f_Coded_prime : Addr} {fd_Coded_prime : FuncData} (C_Coded_prime : CalM P w K mg base c_Coded "prime" 1 ["self"] (sp_Coded_prime K c_Coded) s_Coded_prime f_Coded_prime fd_Coded_prime) {f_law_draw : Addr} {fd_law_draw : FuncData} (C_law_draw : Cal P w K mg base "_law_draw" 1 ["state", "many"] (sp_law_draw K) s_law_draw f_law_draw fd_law_draw) {f_law_written : Addr} {fd_law_written : FuncData} (C_law_written : Cal P w K mg base "_law_written" 2 ["parts"] (sp_law_written K) s_law_written f_law_written fd_law_written) {f : Addr} {fd : FuncData} (F : Here K mg "law" s_law ["script"] f fd) : Cal P w K mg base "law" 11 ["script"] (sp_law K) s_law f fd := by
  refine F.cal sc_law (fun vs H Q E h => ?_) (fun cdv A outer s' H vs Q E hr h => ?_)
  · obtain ⟨a, ns, rfl, _⟩ := h
    rfl
  · obtain ⟨a, ns, rfl, hS, hlen, q⟩ := h
    refine ⟨_, (pss_cons (ps_set (i := 1) sc_law.nd rfl (by first | exact .inl rfl | exact .inr rfl) (pe_call C_law_begin.ok (hr.mono (by decide)) (by rfl) C_law_begin.at_ C_law_begin.kp C_law_begin.b .nil pass0 (pa_cons (pv 0) pa_nil)))
      (pss_cons (ps_for PassesOwn.never rfl (pi_range1 (by rfl) T.m_range (pa_cons pe_int pa_nil)) (pg_name (i := 2) sc_law.nd rfl (by first | exact .inl rfl | exact .inr rfl)) (pss_cons (ps_setLc (i := 3) rfl sc_law.nd rfl rfl (sw_true rfl rfl rfl (by decide +kernel)) (pi_range1 (by rfl) T.m_range (pa_cons pe_int pa_nil)) (blkOk_by (own := [("k", 4)]) (N := ["script", "state", "turn", "some", "k", "made", "parts", "row", "one", "got"]) (sc := (defScope s_law)) (by decide +kernel)) (fun _ _ _ _ _ => (pg_name (i := 4) sc_law.nd rfl (by first | exact .inl rfl | exact .inr rfl))) (fun _ _ _ _ _ => pts_nil) (fun _ _ _ _ _ => (pe_call C_law_parts.ok (hr.mono (by decide)) (by rfl) C_law_parts.at_ C_law_parts.kp C_law_parts.b .nil pass0 (pa_cons (pv 1) (pa_cons (pe_ix (ix_listK (K := K)) (pe_lst (pa_cons pe_int (pa_cons pe_int (pa_cons pe_int (pa_cons pe_int pa_nil))))) (pe_op op_fdivW (pe_call C_law_draw.ok (hr.mono (by decide)) (by rfl) C_law_draw.at_ C_law_draw.kp C_law_draw.b .nil pass0 (pa_cons (pv 1) (pa_cons pe_int pa_nil))) pe_int) (fun _ _ => rfl)) pa_nil)))))
      (pss_cons (ps_setLc (i := 5) rfl sc_law.nd rfl rfl (sw_true rfl rfl rfl (by decide +kernel)) (pi_listK (K := K) (pv 3)) (blkOk_by (own := [("parts", 6)]) (N := ["script", "state", "turn", "some", "k", "made", "parts", "row", "one", "got"]) (sc := (defScope s_law)) (by decide +kernel)) (fun _ _ _ _ _ => (pg_name (i := 6) sc_law.nd rfl (by first | exact .inl rfl | exact .inr rfl))) (fun _ _ _ _ _ => pts_nil) (fun _ _ _ _ _ => (pe_makeK C_Coded___init__.mkk C_Coded___init__.ok (hr.mono (by decide)) (by rfl) T.g_Coded (cod_k1 C_Coded___init__.fn) pass0 (pa_cons (pe_ix (ix_tupK (K := K)) (pv 6) pe_int (fun _ _ => rfl)) (pa_cons (pe_ix (ix_tupK (K := K)) (pv 6) pe_int (fun _ _ => rfl)) pa_nil)) (pk_cons (pe_ix (ix_tupK (K := K)) (pv 6) pe_int (fun _ _ => rfl)) pk_nil))))
      (pss_one (ps_for PassesOwn.never rfl (pi_listK (K := K) (pe_lst (pa_cons pe_int (pa_cons pe_int (pa_cons pe_int pa_nil))))) (pg_name (i := 4) sc_law.nd rfl (by first | exact .inl rfl | exact .inr rfl)) (pss_cons (ps_set (i := 7) sc_law.nd rfl (by first | exact .inl rfl | exact .inr rfl) (castM1 (K := K) (pe_join pe_str (pe_lc rfl sc_law.nd (pi_listK (K := K) (pe_call C_law_written.ok (hr.mono (by decide)) (by rfl) C_law_written.at_ C_law_written.kp C_law_written.b .nil pass0 (pa_cons (pe_ix (ix_listK (K := K)) (pv 3) (pv 4) (fun _ _ => rfl)) pa_nil))) (blkOk_by (own := [("one", 8)]) (N := ["script", "state", "turn", "some", "k", "made", "parts", "row", "one", "got"]) (sc := (defScope s_law)) (by decide +kernel)) (fun _ _ _ _ _ => (pg_name (i := 8) sc_law.nd rfl (by first | exact .inl rfl | exact .inr rfl))) (fun _ _ _ _ _ => pts_nil) (fun _ _ _ _ _ => (pe_op op_addS (pv 8) pe_str))))))
      (pss_cons (ps_if (PW.pt (pw_or (pt_cmpR op_ne (pe_call C_coded_text.ok (hr.mono (by decide)) (by rfl) C_coded_text.at_ C_coded_text.kp C_coded_text.b .nil pass0 (pa_cons (pe_ix (ix_listK (K := K)) (pv 5) (pv 4) (fun _ _ => rfl)) pa_nil)) (pv 7) (nomark _)) (pw_or1 (pt_cmpR op_ne (pe_callK0 C_coded_text.ok (hr.mono (by decide)) (by rfl) C_coded_text.at_ C_coded_text.kp (kb_perm (us0 := 0) (ws0 := 1) (is := [0]) (by simp) (fun us ws h1 h2 => kb_coded_text_0 C_coded_text.fn us ws h1 h2)) pass0 (pk_cons (pe_ix (ix_listK (K := K)) (pv 5) (pv 4) (fun _ _ => rfl)) pk_nil)) (pv 7) (nomark _))))) (pss_one (ps_ret pe_bl)) pss_nil)
      (pss_cons (ps_set (i := 9) sc_law.nd rfl (by first | exact .inl rfl | exact .inr rfl) (pe_call C_read_coded.ok (hr.mono (by decide)) (by rfl) C_read_coded.at_ C_read_coded.kp C_read_coded.b .nil pass0 (pa_cons (pv 7) pa_nil)))
      (pss_cons (ps_if (PW.pt (pw_or (pt_not (pt_val (pe_callB (cr_isiK (K := K)) (by rfl) T.m_isinstance (by decide +kernel) (pa_cons (pv 9) (pa_cons (pe_glob (v := .ref c_Coded) (by rfl) T.g_Coded rfl) pa_nil))))) (pw_or (pt_cmpR (op_neOwn C_Coded___eq__.me T.ne_Coded T.mo_Coded C_Coded___eq__.ok (hr.mono (by decide)) C_Coded___eq__.b pass0) (pv 9) (pe_ix (ix_listK (K := K)) (pv 5) (pv 4) (fun _ _ => rfl)) (nomark _)) (pw_or1 (pt_cmpR (op_neOwn C_Coded___eq__.me T.ne_Coded T.mo_Coded C_Coded___eq__.ok (hr.mono (by decide)) C_Coded___eq__.b pass0) (pe_callK0 C_read_coded.ok (hr.mono (by decide)) (by rfl) C_read_coded.at_ C_read_coded.kp (kb_perm (us0 := 0) (ws0 := 1) (is := [0]) (by simp) (fun us ws h1 h2 => kb_read_coded_0 C_read_coded.fn us ws h1 h2)) pass0 (pk_cons (pv 7) pk_nil)) (pe_ix (ix_listK (K := K)) (pv 5) (pv 4) (fun _ _ => rfl)) (nomark _)))))) (pss_one (ps_ret pe_bl)) pss_nil)
      (pss_one (ps_if (pt_cmpR (op_neDK (K := K) (hu_of64 hr)) (pe_lst (pa_cons (pe_meth0 (pv 9) T.cl_Coded C_Coded_hidden.me C_Coded_hidden.ok (hr.mono (by decide)) C_Coded_hidden.b .nil pass0) (pa_cons (pe_meth0 (pv 9) T.cl_Coded C_Coded_deeds.me C_Coded_deeds.ok (hr.mono (by decide)) C_Coded_deeds.b .nil pass0) (pa_cons (pe_meth0 (pv 9) T.cl_Coded C_Coded_prime.me C_Coded_prime.ok (hr.mono (by decide)) C_Coded_prime.b .nil pass0) pa_nil)))) (pe_callTy (cr_listOfK (K := K)) (by rfl) T.m_list (by decide +kernel) (pa_cons (pe_ix (ix_listK (K := K)) (pv 3) (pv 4) (fun _ _ => rfl)) pa_nil)) (nomark _)) (pss_one (ps_ret pe_bl)) pss_nil)))))))))))
      (pss_one (ps_ret pe_bl)))), ?_⟩
    walk_at "st"
    refine ⟨a, ns, rfl, hS, hlen, fun s c H1 s1 st1 => ?_⟩
    walk_at "st"
    refine lp_by (walk_range (lo := 0) (n := 4)) (fun i σ' H' => ∃ x2 x3 x4 x5 x7 x9, σ' = [some (.ref a), some (.ref s), x2, x3, x4, x5, none, x7, none, x9] ∧ St s c H')
      ⟨_, _, _, _, _, _, rfl, st1⟩ (fun _ _ _ _ _ => trivial) (fun i x σ' H2 H2' hi z y => ?_) (fun σ' H2 z => ?_)
    rotate_left
    · obtain ⟨x2, x3, x4, x5, x7, x9, rfl, st2⟩ := z
      walk_at "st"
      exact q _
    obtain ⟨x2, x3, x4, x5, x7, x9, rfl, st2⟩ := z
    obtain ⟨rfl, rfl⟩ := y
    walk_at "st"
    intro D hD
    have oD := st2.out hD
    refine lc_by (walk_range (lo := 0) (n := 2)) (fun j H' => Kp [s, c] H2' H' ∧ St s c H' ∧ ∃ (us : List V) (T : List U), H' D = some (.lst us) ∧ Al (PartV H') us T ∧ us.length = j)
      ⟨Kp.new hD, st2.new hD, [], [], upd_same, .nil, rfl⟩ (fun _ _ _ _ => trivial) (fun j x' H3 H3' hj g y => ?_) (fun H3 g => ?_)
    · obtain ⟨k3, st3, us, T3, eD, al, lus⟩ := g
      obtain ⟨rfl, rfl⟩ := y
      refine ⟨rfl, ?_⟩
      walk_at "st"
      intro l1 hl1
      have ol1 := st3.out hl1
      have k31 := k3.trans (Kp.new (S := [s, c]) (x := .lst [.int 12, .int 12, .int 12, .int 400]) hl1)
      have st31 := st3.new (x := .lst [.int 12, .int 12, .int 12, .int 400]) hl1
      have el1 : upd H3' l1 (.lst [.int 12, .int 12, .int 12, .int 400]) l1 = some (.lst [.int 12, .int 12, .int 12, .int 400]) := upd_same
      have eD1 := hl_new (u := .lst [.int 12, .int 12, .int 12, .int 400]) eD hl1
      have al1 := al.imp fun u x h => h.tup (keepT_of (Same.upd_new (x := .lst [.int 12, .int 12, .int 12, .int 400]) hl1))
      generalize upd H3' l1 (.lst [.int 12, .int 12, .int 12, .int 400]) = H31 at *
      walk_at "st"
      refine ⟨s, c, _, rfl, st31, by omega, fun d H32 k32 st32 hd => ?_⟩
      have el2 := k32 _ _ el1 ol1
      have eD2 := k32 _ _ eD1 oD
      obtain ⟨L, eL, mL⟩ := atI_in (xs := [V.int 12, V.int 12, V.int 12, V.int 400]) (i := d / 5) (by omega) (by show d / 5 < 4; omega)
      obtain ⟨Li, rfl, hL⟩ : ∃ Li : Int, L = .int Li ∧ 0 ≤ Li ∧ Li ≤ 400 := by
        simp only [List.mem_cons, List.not_mem_nil, or_false] at mL
        rcases mL with e | e | e | e <;> exact ⟨_, e, by omega⟩
      walk_at "st"
      refine ⟨s, c, Li, rfl, st32, hL, fun v hid ds p H4 k4 st4 pv gu fw => ?_⟩
      have eD4 := k4 _ _ eD2 oD
      have kn := ((KeepN.kp k32 st31).trans (KeepN.kp k4 st32)).trans (KeepN.lst (o := .lst (us ++ [v])) eD4)
      refine ⟨us, eD4, by rw [lus]; exact Nat.lt_of_lt_of_le (show j < 1000 by omega) (by decide), ((k31.trans k32).trans k4).own hD, st4.set oD, us ++ [v], T3 ++ [(hid, ds, p)], upd_same, ?_, by rw [List.length_append, lus]; rfl⟩
      exact (al1.imp fun u x h => h.tup kn.tup).snoc ⟨pv.tup (KeepN.lst (o := .lst (us ++ [v])) eD4).tup, gu⟩
    obtain ⟨k3, st3, us, T3, eD, al, lus⟩ := g
    clear k3 hD st2
    obtain ⟨v0, v1, rfl⟩ : ∃ v0 v1, us = [v0, v1] := by
      match us, lus with
      | [v0, v1], _ => exact ⟨v0, v1, rfl⟩
    obtain ⟨y0, y1, rfl⟩ : ∃ y0 y1, T3 = [y0, y1] := by
      match T3, al.1 with
      | [y0, y1], _ => exact ⟨y0, y1, rfl⟩
    walk_at "st"
    intro D2 hD2
    have oD2 := st3.out hD2
    refine lc_by (walk_list (a := D) (xs := [v0, v1])) (fun j H' => Same H3 H' ∧ ∃ us : List V, H' D2 = some (.lst us) ∧ Al (UnitV c_Coded H') us ([y0, y1].take j) ∧ us.length = j)
      ⟨Same.upd_new hD2, [], upd_same, .nil, rfl⟩ (fun j H' _ p => SqL.of (p.1 _ _ eD)) (fun j x' H6 H6' hj g y => ?_) (fun H6 g => ?_)
    · obtain ⟨s6, us, eD2, alu, lus⟩ := g
      obtain ⟨rfl, ex⟩ := y
      obtain ⟨yj, ej, pv⟩ := al.2 j x' ex
      refine ⟨rfl, ?_⟩
      obtain ⟨⟨t, dv, rfl, ht, hdv⟩, gu⟩ := pv.tup (keepT_of s6)
      have i0 : atI [V.int (yj.1 : Nat), dv, .int yj.2.2] 0 = some (.int (yj.1 : Nat)) := (show atI _ ((0 : Nat) : Int) = _ from atI_nat rfl)
      have i1 : atI [V.int (yj.1 : Nat), dv, .int yj.2.2] 1 = some dv := (show atI _ ((1 : Nat) : Int) = _ from atI_nat rfl)
      have i2 : atI [V.int (yj.1 : Nat), dv, .int yj.2.2] 2 = some (.int yj.2.2) := (show atI _ ((2 : Nat) : Int) = _ from atI_nat rfl)
      walk_at "st"
      refine r_mkK ?_
      walk_at "st"
      refine ⟨rfl, rfl, fun x dx hx hdx ne => ?_⟩
      have s7 := (Same.upd_new (x := HO.own x) hdx).trans (Same.upd_new (x := .ins c_Coded dx []) (show upd H6' dx (.own x) x = none by rw [upd_ne ne.symm]; exact hx))
      refine ⟨x, dx, yj.1, dv, yj.2.1, yj.2.2, rfl, upd_same, hdv.tup (keepT_of s7), gu, fun H8 k cv => ⟨rfl, ?_⟩⟩
      have s8 : Same H6' H8 := fun b o e => k _ _ (s7 _ _ e) (ne_of_none e hx)
      have eD28 := s8 _ _ eD2
      have kn := (KeepN.same s8).trans (KeepN.lst (o := .lst (us ++ [.ref x])) eD28)
      refine ⟨us, eD28, by rw [lus]; exact Nat.lt_of_lt_of_le (show j < 1000 by have : j < 2 := hj; omega) (by decide), fun b o e => hl_set (ne_of_none e hD2) (s8 _ _ (s6 _ _ e)), us ++ [.ref x], upd_same, ?_, by rw [List.length_append, lus]; rfl⟩
      rw [List.take_succ, ej]
      exact (alu.imp fun u x h => h.keep kn).snoc (UnitV.keep ⟨x, rfl, cv⟩ (KeepN.lst (o := .lst (us ++ [.ref x])) eD28))
    obtain ⟨s6, us, eD2, alu, lus⟩ := g
    have alu : Al (UnitV c_Coded H6) us [y0, y1] := alu
    have st6 := st3.same s6
    have eD6 := s6 _ _ eD
    have al6 := al.imp fun u x h => h.tup (keepT_of s6)
    clear s6 al eD hD2 st3
    walk_at "st"
    intro lk hlk
    have st7 := st6.new (x := .lst [.int 0, .int 1, .int 0]) hlk
    have s7 := Same.upd_new (x := .lst [.int 0, .int 1, .int 0]) hlk
    have elk : upd H6 lk (.lst [.int 0, .int 1, .int 0]) lk = some (.lst [.int 0, .int 1, .int 0]) := upd_same
    have eD7 := s7 _ _ eD6
    have eD27 := s7 _ _ eD2
    have al7 := al6.imp fun u x h => h.tup (keepT_of s7)
    have alu7 := alu.imp fun u x h => UnitV.keep h (KeepN.same s7)
    generalize upd H6 lk (.lst [.int 0, .int 1, .int 0]) = H7 at *
    clear s7 st6 eD6 eD2 al6 alu hlk
    walk_at "st"
    refine lp_by (walk_list (a := lk) (xs := [.int 0, .int 1, .int 0])) (fun j σ' H' => ∃ x4 x7 x9, σ' = [some (.ref a), some (.ref s), some (.int (0 + (i : Int))), some (.ref D), x4, some (.ref D2), none, x7, none, x9] ∧ Same H7 H')
      ⟨x4, x7, x9, rfl, Same.refl _⟩ (fun j σ' H' _ z => by obtain ⟨_, _, _, _, sm⟩ := z; exact SqL.of (sm _ _ elk)) (fun j x σ' H8 H8' hj z y => ?_) (fun σ' H8 z => ?_)
    rotate_left
    · obtain ⟨x4, x7, x9, rfl, sm⟩ := z
      exact ⟨_, _, _, _, _, _, rfl, st7.same sm⟩
    obtain ⟨x4, x7, x9, rfl, sm⟩ := z
    obtain ⟨rfl, ex⟩ := y
    obtain ⟨m, hm, rfl⟩ : ∃ m : Nat, m < 2 ∧ x = .int (m : Nat) := by
      have mx := List.mem_of_getElem? ex
      simp only [List.mem_cons, List.not_mem_nil, or_false] at mx
      rcases mx with e | e | e
      · exact ⟨0, by omega, e⟩
      · exact ⟨1, by omega, e⟩
      · exact ⟨0, by omega, e⟩
    have ey : [y0, y1][m]? = some ([y0, y1][m]'hm) := List.getElem?_eq_getElem _
    generalize [y0, y1][m]'hm = ym at *
    obtain ⟨vm, evm, pvm⟩ := al7.at ey
    obtain ⟨um, eum, xm, rfl, cvm⟩ := alu7.at ey
    have i1 : atI [v0, v1] (m : Nat) = some vm := atI_nat evm
    have i2 : atI us (m : Nat) = some (.ref xm) := atI_nat eum
    have eD8 := sm _ _ eD7
    have eD28 := sm _ _ eD27
    have pvm8 := pvm.tup (keepT_of sm)
    have g : GoodU ym.1 ym.2.1 ym.2.2 := pvm.2
    have um := unit_many g
    have ul := unit_lines g
    walk_at "st"
    refine ⟨vm, ym.1, ym.2.1, ym.2.2, rfl, pvm8.1, pvm8.2, fun l H9 s9 el => ?_⟩
    walk_at "st"
    intro D3 hD3
    refine lc_map (walk_list (a := l) (xs := wordsV (unitL ym.1 ym.2.1 ym.2.2))) (by unfold wordsV; rw [List.length_map]; omega) hD3 (fun j y _ => ∃ a, (unitL ym.1 ym.2.1 ym.2.2)[j]? = some a ∧ y = V.str (Sx (a ++ [10]))) (fun _ _ _ _ h _ => h) (fun _ _ _ _ _ h _ => h) (fun H' k => SqL.of (k _ _ el)) (fun j H1 x H2 y => by rw [y.1]; exact Same.refl _)
      (fun j v H4 H5 Y No hj s4 y hY => ?_) (fun ys H4 ely s4 eD hys => ?_)
    · obtain ⟨rfl, exj⟩ := y
      refine ⟨rfl, ?_⟩
      unfold wordsV at exj
      rw [List.getElem?_map] at exj
      obtain ⟨a, ea, rfl⟩ : ∃ a, (unitL ym.1 ym.2.1 ym.2.2)[j]? = some a ∧ v = V.str (Sx a) := by
        cases e : (unitL ym.1 ym.2.1 ym.2.2)[j]? with
        | none => rw [e] at exj; cases exj
        | some a => rw [e] at exj; exact ⟨a, rfl, (Option.some.inj exj).symm⟩
      have la := (ul a (List.mem_of_getElem? ea)).len
      walk_at "st"
      refine r_addS (by rw [Sx_len]; exact Nat.le_trans (show a.length + 1 ≤ 1000 by omega) (by decide)) ?_
      rw [show Str.ofString "\n" = Sx [10] from rfl, Sx_app]
      exact hY _ _ (Same.refl _) ⟨a, ea, rfl⟩
    have ey : ys = ((unitL ym.1 ym.2.1 ym.2.2).map fun a => Sx (a ++ [10])).map V.str := by
      rw [List.map_map]
      apply List.ext_getElem?
      intro j
      rw [List.getElem?_map]
      cases e2 : ys[j]? with
      | none =>
        rw [List.getElem?_eq_none_iff, ely] at e2
        unfold wordsV at e2
        rw [List.length_map] at e2
        rw [List.getElem?_eq_none_iff.mpr e2]; rfl
      | some y =>
        obtain ⟨z, ez, rfl⟩ := hys j y e2
        rw [ez]; rfl
    subst ey
    walk_at "st"
    refine r_joinS (ys := (unitL ym.1 ym.2.1 ym.2.2).map fun a => Sx (a ++ [10])) (SqL.of eD) ?_ ?_
    · have hs : ∀ L : List (List Nat), (∀ a ∈ L, LineOk a) → ((L.map fun a => Sx (a ++ [10])).map (·.length)).sum ≤ 501 * L.length := by
        intro L
        induction L with
        | nil => intro _; exact Nat.le_refl _
        | cons a L ih =>
          intro h
          have h1 := (h a List.mem_cons_self).len
          have h2 := ih fun b m => h b (List.mem_cons_of_mem _ m)
          rw [List.map_cons, List.map_cons, List.sum_cons, Sx_len, List.length_append]
          show a.length + 1 + _ ≤ 501 * (L.length + 1)
          omega
      have := hs _ ul
      show _ + _ * 0 ≤ _
      omega
    have ej : Txt.join (Str.ofString "") ((unitL ym.1 ym.2.1 ym.2.2).map fun a => Sx (a ++ [10])) = Sx (linesC (unitL ym.1 ym.2.1 ym.2.2)) := by
      rw [show Str.ofString "" = SX.S [] from rfl, show ((unitL ym.1 ym.2.1 ym.2.2).map fun a => Sx (a ++ [10])) = ((unitL ym.1 ym.2.1 ym.2.2).map (· ++ [10])).map SX.S by rw [List.map_map]; rfl, SX.join_S, join_flat]
      rw [← List.flatMap_def]; rfl
    rw [ej]
    have sA := s9.trans s4
    have eD84 := sA _ _ eD8
    have eD284 := sA _ _ eD28
    have cvA := cvm.same (sm.trans sA)
    clear eD8 eD28 al7 alu7 pvm evm eum cvm ey
    walk_at "st"
    walk_at "if"
    refine ⟨xm, _, _, _, rfl, cvA, fun H5 s5 => ?_⟩
    walk_at "st"
    rw [if_neg (by simp)]
    walk_at "st"
    refine r_perm rfl rfl ?_
    refine ⟨xm, _, _, _, rfl, cvA.same s5, fun H6' s6 => ?_⟩
    walk_at "st"
    rw [if_neg (by simp)]
    walk_at "st"
    refine ⟨ym.1, ym.2.1, ym.2.2, rfl, g, fun xg H10 s10 cvg => ?_⟩
    have cvm10 := cvA.same ((s5.trans s6).trans s10)
    have eD10 := s10 _ _ (s6 _ _ (s5 _ _ eD84))
    have eD210 := s10 _ _ (s6 _ _ (s5 _ _ eD284))
    obtain ⟨dxg, _, _, hbg, _⟩ := id cvg
    walk_at "st"
    walk_at "if"
    refine ⟨_, _, _, _, true, rfl, .own _, .base (.ins hbg T.cl_Coded T.oc_Coded T.gd_object T.td_object T.mo_Coded), kit_same, ?_⟩
    walk_at "st"
    refine r_eqC (u := ym) cvg cvm10 ⟨false, rfl, ?_⟩
    walk_at "st"
    refine r_perm rfl rfl ?_
    refine ⟨ym.1, ym.2.1, ym.2.2, rfl, g, fun xh H11 s11 cvh => ?_⟩
    have cvm11 := cvm10.same s11
    have eD11 := s11 _ _ eD10
    have eD211 := s11 _ _ eD210
    have cvg11 := cvg.same s11
    walk_at "st"
    refine r_eqC (u := ym) cvh cvm11 ⟨false, rfl, ?_⟩
    walk_at "st"
    walk_at "if"
    refine ⟨xg, _, _, _, rfl, cvg11, ?_⟩
    walk_at "st"
    refine ⟨xg, _, _, _, rfl, cvg11, fun gd hgd => ?_⟩
    walk_at "st"
    refine ⟨xg, _, _, _, rfl, cvg11, ?_⟩
    walk_at "st"
    intro l2 hl2
    have s12 := Same.upd_new (x := .lst [.int (ym.1 : Nat), gd, .int ym.2.2]) hl2
    have el2 : upd H11 l2 (.lst [.int (ym.1 : Nat), gd, .int ym.2.2]) l2 = some (.lst [.int (ym.1 : Nat), gd, .int ym.2.2]) := upd_same
    generalize upd H11 l2 (.lst [.int (ym.1 : Nat), gd, .int ym.2.2]) = H12 at *
    have eD12 := s12 _ _ eD11
    have S12 := (((sA.trans s5).trans s6).trans s10).trans (s11.trans s12)
    obtain ⟨⟨t, dv, rfl, ht, hdv⟩, _⟩ := pvm8.tup (keepT_of S12)
    walk_at "st"
    intro l4 hl4
    have s13 := Same.upd_new (x := .lst [.int (ym.1 : Nat), dv, .int ym.2.2]) hl4
    have sh : (PyData.list [.int (ym.1 : Nat), dDs ym.2.1, .int ym.2.2]).canLay0 = true ∧ (PyData.list [.int (ym.1 : Nat), dDs ym.2.1, .int ym.2.2]).depth ≤ 7 := by
      have h : ∀ d ∈ [PyData.int (ym.1 : Nat), dDs ym.2.1, .int ym.2.2], d.canLay0 = true ∧ d.depth ≤ 6 := fun d m => by
        simp only [List.mem_cons, List.not_mem_nil, or_false] at m
        rcases m with e | e | e
        · rw [e]; exact lay_up (lay_int _) (by omega)
        · rw [e]; exact lay_ds g.good
        · rw [e]; exact lay_up (lay_int _) (by omega)
      rw [PyData.canLay0, PyData.depth]
      have := depth_all fun d m => (h d m).2
      exact ⟨canLay_all fun d m => (h d m).1, by omega⟩
    have shp := shaped_of sh (by decide)
    have ev : PyData.eqv (.list [.int (ym.1 : Nat), dDs ym.2.1, .int ym.2.2]) (.list [.int (ym.1 : Nat), dDs ym.2.1, .int ym.2.2]) = true := by
      rw [PyData.eqv, PyData.eqvAll, eqv_int, PyData.eqvAll, eqv_ds, PyData.eqvAll, eqv_int, PyData.eqvAll]
      simp
    refine ⟨_, _, .lst (SqL.of (s13 _ _ el2)) (.cons (.int _) (.cons (dp_ds (hgd.tup (keepT_of (s12.trans s13)))) (.cons (.int _) .nil))), .lst (SqL.of upd_same) (.cons (.int _) (.cons (dp_ds (hdv.tup (keepT_of s13))) (.cons (.int _) .nil))), shp, shp, ?_⟩
    rw [ev]
    walk_at "st"
    exact ⟨_, _, _, rfl, (sm.trans S12).trans s13⟩
end
/-! ### the tuples and the dict that the top has written -/
theorem ktup_mk {K : PySem.W.Frag} {a : Addr} {xs : List V} {od : Option Addr} {its : Array Value} {n : Nat} {sl : Array (Option Value)} (h1 : K.lookup a = some ⟨.type "tuple", od, .seq its n, sl⟩) (h4 : its.size ≤ sizeLine) (h5 : Vals xs its.toList) : KTup K a xs := ⟨_, its, n, h1, rfl, rfl, h4, h5⟩
theorem shp_mk {K : PySem.W.Frag} {w : World} {d : Addr} {es : Array DictEntry} {n : Nat} {t1 t2 t3 t4 t5 t6 t7 t8 t9 t10 t11 t12 t13 : Tok} (h1 : K.lookup d = some ⟨.type "dict", none, .dict es n, #[]⟩) (h2 : PySem.W.KeysLit w.params es.toList) (h3 : (d == sysModules) = false)
    (e1 : PySem.W.nsIn K d "set" = some (some (.str "un" t1))) (e2 : PySem.W.nsIn K d "copy" = some (some (.str "uu" t2))) (e3 : PySem.W.nsIn K d "plus" = some (some (.str "uu" t3))) (e4 : PySem.W.nsIn K d "times" = some (some (.str "un" t4))) (e5 : PySem.W.nsIn K d "push" = some (some (.str "u" t5)))
    (e6 : PySem.W.nsIn K d "pop" = some (some (.str "u" t6))) (e7 : PySem.W.nsIn K d "go" = some (some (.str "t" t7))) (e8 : PySem.W.nsIn K d "pick" = some (some (.str "w" t8))) (e9 : PySem.W.nsIn K d "take" = some (some (.str "u" t9))) (e10 : PySem.W.nsIn K d "out" = some (some (.str "u" t10)))
    (e11 : PySem.W.nsIn K d "ask" = some (some (.str "ddmt" t11))) (e12 : PySem.W.nsIn K d "ret" = some (some (.str "" t12))) (e13 : PySem.W.nsIn K d "fail" = some (some (.str "d" t13))) : ShpK K w d := by
  refine ⟨⟨es, n, h1, h2, h3⟩, fun p m => ?_⟩
  simp only [shapesS, List.mem_cons, List.not_mem_nil, or_false] at m
  rcases m with rfl | rfl | rfl | rfl | rfl | rfl | rfl | rfl | rfl | rfl | rfl | rfl | rfl
  · exact ⟨_, e1⟩
  · exact ⟨_, e2⟩
  · exact ⟨_, e3⟩
  · exact ⟨_, e4⟩
  · exact ⟨_, e5⟩
  · exact ⟨_, e6⟩
  · exact ⟨_, e7⟩
  · exact ⟨_, e8⟩
  · exact ⟨_, e9⟩
  · exact ⟨_, e10⟩
  · exact ⟨_, e11⟩
  · exact ⟨_, e12⟩
  · exact ⟨_, e13⟩
/-! ### what the top has written; the law -/
theorem all_mk {l : PySem.W.OpenLaw} {w : World} {K : PySem.W.Frag} {h : Heap} {mg : Str → Option Value} {fa : Addr} (X : K.In h) (G : h.Ns mainGlobals mg) (hfa : mg "law" = some (.ref fa))
    {c_SHAPES : Addr}
    {c_CELLS : Addr}
    {c_REGISTERS : Addr}
    {c_CodeReader : Addr}
    {c_Machine : Addr}
    {c_Coded : Addr}
    {od1 an1 : Option Addr} {sl1 : Array (Option Value)} {oc1 kV1 dc1 pm1 cd1 ct1 : Value} {f1 : Addr}
    {od2 an2 : Option Addr} {sl2 : Array (Option Value)} {oc2 kV2 dc2 pm2 cd2 ct2 : Value} {f2 : Addr}
    {od3 an3 : Option Addr} {sl3 : Array (Option Value)} {oc3 kV3 dc3 pm3 cd3 ct3 : Value} {f3 : Addr}
    {od4 an4 : Option Addr} {sl4 : Array (Option Value)} {oc4 kV4 dc4 pm4 cd4 ct4 : Value} {f4 : Addr}
    {od5 an5 : Option Addr} {sl5 : Array (Option Value)} {oc5 kV5 dc5 pm5 cd5 ct5 : Value} {f5 : Addr}
    {od6 an6 : Option Addr} {sl6 : Array (Option Value)} {oc6 kV6 dc6 pm6 cd6 ct6 : Value} {f6 : Addr}
    {od7 an7 : Option Addr} {sl7 : Array (Option Value)} {oc7 kV7 dc7 pm7 cd7 ct7 : Value} {f7 : Addr}
    {od8 an8 : Option Addr} {sl8 : Array (Option Value)} {oc8 kV8 dc8 pm8 cd8 ct8 : Value} {f8 : Addr}
    {od9 an9 : Option Addr} {sl9 : Array (Option Value)} {oc9 kV9 dc9 pm9 cd9 ct9 : Value} {f9 : Addr}
    {od10 an10 : Option Addr} {sl10 : Array (Option Value)} {oc10 kV10 dc10 pm10 cd10 ct10 : Value} {f10 : Addr}
    {od11 an11 : Option Addr} {sl11 : Array (Option Value)} {oc11 kV11 dc11 pm11 cd11 ct11 : Value} {f11 : Addr}
    {od12 an12 : Option Addr} {sl12 : Array (Option Value)} {oc12 dc12 pm12 cd12 ct12 : Value} {f12 : Addr}
    {od13 an13 : Option Addr} {sl13 : Array (Option Value)} {oc13 kV13 dc13 pm13 cd13 ct13 : Value} {f13 : Addr}
    {od14 an14 : Option Addr} {sl14 : Array (Option Value)} {oc14 kV14 dc14 pm14 cd14 ct14 : Value} {f14 : Addr}
    {od15 an15 : Option Addr} {sl15 : Array (Option Value)} {oc15 kV15 dc15 pm15 cd15 ct15 : Value} {f15 : Addr}
    {od16 an16 : Option Addr} {sl16 : Array (Option Value)} {oc16 kV16 dc16 pm16 cd16 ct16 : Value} {f16 : Addr}
    {od17 an17 : Option Addr} {sl17 : Array (Option Value)} {oc17 kV17 dc17 pm17 cd17 ct17 : Value} {f17 : Addr}
    {od18 an18 : Option Addr} {sl18 : Array (Option Value)} {oc18 kV18 dc18 pm18 cd18 ct18 : Value} {f18 : Addr}
    {od19 an19 : Option Addr} {sl19 : Array (Option Value)} {oc19 kV19 dc19 pm19 cd19 ct19 : Value} {f19 : Addr}
    {od20 an20 : Option Addr} {sl20 : Array (Option Value)} {oc20 kV20 dc20 pm20 cd20 ct20 : Value} {f20 : Addr}
    {od21 an21 : Option Addr} {sl21 : Array (Option Value)} {oc21 kV21 dc21 pm21 cd21 ct21 : Value} {f21 : Addr}
    {od22 an22 : Option Addr} {sl22 : Array (Option Value)} {oc22 kV22 dc22 pm22 cd22 ct22 : Value} {f22 : Addr}
    {od23 an23 : Option Addr} {sl23 : Array (Option Value)} {oc23 kV23 dc23 pm23 cd23 ct23 : Value} {f23 : Addr}
    {od24 an24 : Option Addr} {sl24 : Array (Option Value)} {oc24 kV24 dc24 pm24 cd24 ct24 : Value} {f24 : Addr}
    {od25 an25 : Option Addr} {sl25 : Array (Option Value)} {oc25 kV25 dc25 pm25 cd25 ct25 : Value} {f25 : Addr}
    {od26 an26 : Option Addr} {sl26 : Array (Option Value)} {oc26 kV26 dc26 pm26 cd26 ct26 : Value} {f26 : Addr}
    {od27 an27 : Option Addr} {sl27 : Array (Option Value)} {oc27 kV27 dc27 pm27 cd27 ct27 : Value} {f27 : Addr}
    {od28 an28 : Option Addr} {sl28 : Array (Option Value)} {oc28 kV28 dc28 pm28 cd28 ct28 : Value} {f28 : Addr}
    {od29 an29 : Option Addr} {sl29 : Array (Option Value)} {oc29 kV29 dc29 pm29 cd29 ct29 : Value} {f29 : Addr}
    {od30 an30 : Option Addr} {sl30 : Array (Option Value)} {oc30 kV30 dc30 pm30 cd30 ct30 : Value} {f30 : Addr}
    {od31 an31 : Option Addr} {sl31 : Array (Option Value)} {oc31 kV31 dc31 pm31 cd31 ct31 : Value} {f31 : Addr}
    {od32 an32 : Option Addr} {sl32 : Array (Option Value)} {oc32 kV32 dc32 pm32 cd32 ct32 : Value} {f32 : Addr}
    {od33 an33 : Option Addr} {sl33 : Array (Option Value)} {oc33 kV33 dc33 pm33 cd33 ct33 : Value} {f33 : Addr}
    {od34 an34 : Option Addr} {sl34 : Array (Option Value)} {oc34 kV34 dc34 pm34 cd34 ct34 : Value} {f34 : Addr}
    {od35 an35 : Option Addr} {sl35 : Array (Option Value)} {oc35 kV35 dc35 pm35 cd35 ct35 : Value} {f35 : Addr}
    {od36 an36 : Option Addr} {sl36 : Array (Option Value)} {oc36 kV36 dc36 pm36 cd36 ct36 : Value} {f36 : Addr}
    {od37 an37 : Option Addr} {sl37 : Array (Option Value)} {oc37 kV37 dc37 pm37 cd37 ct37 : Value} {f37 : Addr}
    {od38 an38 : Option Addr} {sl38 : Array (Option Value)} {oc38 kV38 dc38 pm38 cd38 ct38 : Value} {f38 : Addr}
    {od39 an39 : Option Addr} {sl39 : Array (Option Value)} {oc39 kV39 dc39 pm39 cd39 ct39 : Value} {f39 : Addr}
    {od40 an40 : Option Addr} {sl40 : Array (Option Value)} {oc40 kV40 dc40 pm40 cd40 ct40 : Value} {f40 : Addr}
    {od41 an41 : Option Addr} {sl41 : Array (Option Value)} {oc41 kV41 dc41 pm41 cd41 ct41 : Value} {f41 : Addr}
    {od42 an42 : Option Addr} {sl42 : Array (Option Value)} {oc42 kV42 dc42 pm42 cd42 ct42 : Value} {f42 : Addr}
    {od43 an43 : Option Addr} {sl43 : Array (Option Value)} {oc43 kV43 dc43 pm43 cd43 ct43 : Value} {f43 : Addr}
    {od44 an44 : Option Addr} {sl44 : Array (Option Value)} {oc44 kV44 dc44 pm44 cd44 ct44 : Value} {f44 : Addr}
    {od45 an45 : Option Addr} {sl45 : Array (Option Value)} {oc45 kV45 dc45 pm45 cd45 ct45 : Value} {f45 : Addr}
    {od46 an46 : Option Addr} {sl46 : Array (Option Value)} {oc46 kV46 dc46 pm46 cd46 ct46 : Value} {f46 : Addr}
    {od47 an47 : Option Addr} {sl47 : Array (Option Value)} {oc47 kV47 dc47 pm47 cd47 ct47 : Value} {f47 : Addr}
    {od48 an48 : Option Addr} {sl48 : Array (Option Value)} {oc48 kV48 dc48 pm48 cd48 ct48 : Value} {f48 : Addr}
    {od49 an49 : Option Addr} {sl49 : Array (Option Value)} {oc49 kV49 dc49 pm49 cd49 ct49 : Value} {f49 : Addr}
    (a1 : PySem.W.nsIn K mainGlobals "is_whole" = some (some (.ref f1))) (l1 : K.lookup f1 = some ⟨oc1, od1, .func (PySem.W.fnOf "is_whole" "is_whole" (defArgs s_is_whole) (defBody s_is_whole) (defScope s_is_whole) .none kV1 dc1 pm1 an1 cd1 ct1), sl1⟩) (c1 : PySem.W.codeIn K cd1 "is_whole" = true) (k1 : PySem.W.keepIn K (.ref f1) = true)
    (a2 : PySem.W.nsIn K mainGlobals "is_prime" = some (some (.ref f2))) (l2 : K.lookup f2 = some ⟨oc2, od2, .func (PySem.W.fnOf "is_prime" "is_prime" (defArgs s_is_prime) (defBody s_is_prime) (defScope s_is_prime) .none kV2 dc2 pm2 an2 cd2 ct2), sl2⟩) (c2 : PySem.W.codeIn K cd2 "is_prime" = true) (k2 : PySem.W.keepIn K (.ref f2) = true)
    (a3 : PySem.W.nsIn K mainGlobals "is_number" = some (some (.ref f3))) (l3 : K.lookup f3 = some ⟨oc3, od3, .func (PySem.W.fnOf "is_number" "is_number" (defArgs s_is_number) (defBody s_is_number) (defScope s_is_number) .none kV3 dc3 pm3 an3 cd3 ct3), sl3⟩) (c3 : PySem.W.codeIn K cd3 "is_number" = true) (k3 : PySem.W.keepIn K (.ref f3) = true)
    (a4 : PySem.W.nsIn K mainGlobals "is_name" = some (some (.ref f4))) (l4 : K.lookup f4 = some ⟨oc4, od4, .func (PySem.W.fnOf "is_name" "is_name" (defArgs s_is_name) (defBody s_is_name) (defScope s_is_name) .none kV4 dc4 pm4 an4 cd4 ct4), sl4⟩) (c4 : PySem.W.codeIn K cd4 "is_name" = true) (k4 : PySem.W.keepIn K (.ref f4) = true)
    (a5 : PySem.W.nsIn K mainGlobals "has_only" = some (some (.ref f5))) (l5 : K.lookup f5 = some ⟨oc5, od5, .func (PySem.W.fnOf "has_only" "has_only" (defArgs s_has_only) (defBody s_has_only) (defScope s_has_only) .none kV5 dc5 pm5 an5 cd5 ct5), sl5⟩) (c5 : PySem.W.codeIn K cd5 "has_only" = true) (k5 : PySem.W.keepIn K (.ref f5) = true)
    (a6 : PySem.W.nsIn K mainGlobals "read_figures" = some (some (.ref f6))) (l6 : K.lookup f6 = some ⟨oc6, od6, .func (PySem.W.fnOf "read_figures" "read_figures" (defArgs s_read_figures) (defBody s_read_figures) (defScope s_read_figures) .none kV6 dc6 pm6 an6 cd6 ct6), sl6⟩) (c6 : PySem.W.codeIn K cd6 "read_figures" = true) (k6 : PySem.W.keepIn K (.ref f6) = true)
    (a7 : PySem.W.nsIn K mainGlobals "is_tuple" = some (some (.ref f7))) (l7 : K.lookup f7 = some ⟨oc7, od7, .func (PySem.W.fnOf "is_tuple" "is_tuple" (defArgs s_is_tuple) (defBody s_is_tuple) (defScope s_is_tuple) .none kV7 dc7 pm7 an7 cd7 ct7), sl7⟩) (c7 : PySem.W.codeIn K cd7 "is_tuple" = true) (k7 : PySem.W.keepIn K (.ref f7) = true)
    (a8 : PySem.W.nsIn K mainGlobals "are_unlike" = some (some (.ref f8))) (l8 : K.lookup f8 = some ⟨oc8, od8, .func (PySem.W.fnOf "are_unlike" "are_unlike" (defArgs s_are_unlike) (defBody s_are_unlike) (defScope s_are_unlike) .none kV8 dc8 pm8 an8 cd8 ct8), sl8⟩) (c8 : PySem.W.codeIn K cd8 "are_unlike" = true) (k8 : PySem.W.keepIn K (.ref f8) = true)
    (a9 : PySem.W.nsIn K mainGlobals "do_rise" = some (some (.ref f9))) (l9 : K.lookup f9 = some ⟨oc9, od9, .func (PySem.W.fnOf "do_rise" "do_rise" (defArgs s_do_rise) (defBody s_do_rise) (defScope s_do_rise) .none kV9 dc9 pm9 an9 cd9 ct9), sl9⟩) (c9 : PySem.W.codeIn K cd9 "do_rise" = true) (k9 : PySem.W.keepIn K (.ref f9) = true)
    (a10 : PySem.W.nsIn K mainGlobals "are_ways" = some (some (.ref f10))) (l10 : K.lookup f10 = some ⟨oc10, od10, .func (PySem.W.fnOf "are_ways" "are_ways" (defArgs s_are_ways) (defBody s_are_ways) (defScope s_are_ways) .none kV10 dc10 pm10 an10 cd10 ct10), sl10⟩) (c10 : PySem.W.codeIn K cd10 "are_ways" = true) (k10 : PySem.W.keepIn K (.ref f10) = true)
    (a11 : PySem.W.nsIn K mainGlobals "leads_round" = some (some (.ref f11))) (l11 : K.lookup f11 = some ⟨oc11, od11, .func (PySem.W.fnOf "leads_round" "leads_round" (defArgs s_leads_round) (defBody s_leads_round) (defScope s_leads_round) .none kV11 dc11 pm11 an11 cd11 ct11), sl11⟩) (c11 : PySem.W.codeIn K cd11 "leads_round" = true) (k11 : PySem.W.keepIn K (.ref f11) = true)
    {D12 : Addr} (a12 : PySem.W.findIn K (.ref c_Coded) "__init__" = some (some (.ref f12))) (i12 : PySem.W.isFn K (.ref f12) = true) (l12 : K.lookup f12 = some ⟨oc12, od12, .func (PySem.W.fnOf "__init__" "Coded.__init__" (defArgs s_Coded___init__) (defBody s_Coded___init__) (defScope s_Coded___init__) .none (.ref D12) dc12 pm12 an12 cd12 ct12), sl12⟩) (c12 : PySem.W.codeIn K cd12 "Coded.__init__" = true) (k12 : PySem.W.keepIn K (.ref f12) = true) {dt12 : Tok} (d12 : PySem.W.nsIn K D12 "prime" = some (some (.int 97 dt12)))
    (a13 : PySem.W.findIn K (.ref c_Coded) "hidden" = some (some (.ref f13))) (i13 : PySem.W.isFn K (.ref f13) = true) (l13 : K.lookup f13 = some ⟨oc13, od13, .func (PySem.W.fnOf "hidden" "Coded.hidden" (defArgs s_Coded_hidden) (defBody s_Coded_hidden) (defScope s_Coded_hidden) .none kV13 dc13 pm13 an13 cd13 ct13), sl13⟩) (c13 : PySem.W.codeIn K cd13 "Coded.hidden" = true) (k13 : PySem.W.keepIn K (.ref f13) = true)
    (a14 : PySem.W.findIn K (.ref c_Coded) "deeds" = some (some (.ref f14))) (i14 : PySem.W.isFn K (.ref f14) = true) (l14 : K.lookup f14 = some ⟨oc14, od14, .func (PySem.W.fnOf "deeds" "Coded.deeds" (defArgs s_Coded_deeds) (defBody s_Coded_deeds) (defScope s_Coded_deeds) .none kV14 dc14 pm14 an14 cd14 ct14), sl14⟩) (c14 : PySem.W.codeIn K cd14 "Coded.deeds" = true) (k14 : PySem.W.keepIn K (.ref f14) = true)
    (a15 : PySem.W.findIn K (.ref c_Coded) "prime" = some (some (.ref f15))) (i15 : PySem.W.isFn K (.ref f15) = true) (l15 : K.lookup f15 = some ⟨oc15, od15, .func (PySem.W.fnOf "prime" "Coded.prime" (defArgs s_Coded_prime) (defBody s_Coded_prime) (defScope s_Coded_prime) .none kV15 dc15 pm15 an15 cd15 ct15), sl15⟩) (c15 : PySem.W.codeIn K cd15 "Coded.prime" = true) (k15 : PySem.W.keepIn K (.ref f15) = true)
    (a16 : PySem.W.findIn K (.ref c_Coded) "__eq__" = some (some (.ref f16))) (i16 : PySem.W.isFn K (.ref f16) = true) (l16 : K.lookup f16 = some ⟨oc16, od16, .func (PySem.W.fnOf "__eq__" "Coded.__eq__" (defArgs s_Coded___eq__) (defBody s_Coded___eq__) (defScope s_Coded___eq__) .none kV16 dc16 pm16 an16 cd16 ct16), sl16⟩) (c16 : PySem.W.codeIn K cd16 "Coded.__eq__" = true) (k16 : PySem.W.keepIn K (.ref f16) = true)
    (a17 : PySem.W.findIn K (.ref c_Machine) "__init__" = some (some (.ref f17))) (i17 : PySem.W.isFn K (.ref f17) = true) (l17 : K.lookup f17 = some ⟨oc17, od17, .func (PySem.W.fnOf "__init__" "Machine.__init__" (defArgs s_Machine___init__) (defBody s_Machine___init__) (defScope s_Machine___init__) .none kV17 dc17 pm17 an17 cd17 ct17), sl17⟩) (c17 : PySem.W.codeIn K cd17 "Machine.__init__" = true) (k17 : PySem.W.keepIn K (.ref f17) = true)
    (a18 : PySem.W.findIn K (.ref c_Machine) "fits" = some (some (.ref f18))) (i18 : PySem.W.isFn K (.ref f18) = true) (l18 : K.lookup f18 = some ⟨oc18, od18, .func (PySem.W.fnOf "fits" "Machine.fits" (defArgs s_Machine_fits) (defBody s_Machine_fits) (defScope s_Machine_fits) .none kV18 dc18 pm18 an18 cd18 ct18), sl18⟩) (c18 : PySem.W.codeIn K cd18 "Machine.fits" = true) (k18 : PySem.W.keepIn K (.ref f18) = true)
    (a19 : PySem.W.nsIn K mainGlobals "is_deed" = some (some (.ref f19))) (l19 : K.lookup f19 = some ⟨oc19, od19, .func (PySem.W.fnOf "is_deed" "is_deed" (defArgs s_is_deed) (defBody s_is_deed) (defScope s_is_deed) .none kV19 dc19 pm19 an19 cd19 ct19), sl19⟩) (c19 : PySem.W.codeIn K cd19 "is_deed" = true) (k19 : PySem.W.keepIn K (.ref f19) = true)
    (a20 : PySem.W.nsIn K mainGlobals "is_instruction" = some (some (.ref f20))) (l20 : K.lookup f20 = some ⟨oc20, od20, .func (PySem.W.fnOf "is_instruction" "is_instruction" (defArgs s_is_instruction) (defBody s_is_instruction) (defScope s_is_instruction) .none kV20 dc20 pm20 an20 cd20 ct20), sl20⟩) (c20 : PySem.W.codeIn K cd20 "is_instruction" = true) (k20 : PySem.W.keepIn K (.ref f20) = true)
    (a21 : PySem.W.nsIn K mainGlobals "idle_goals" = some (some (.ref f21))) (l21 : K.lookup f21 = some ⟨oc21, od21, .func (PySem.W.fnOf "idle_goals" "idle_goals" (defArgs s_idle_goals) (defBody s_idle_goals) (defScope s_idle_goals) .none kV21 dc21 pm21 an21 cd21 ct21), sl21⟩) (c21 : PySem.W.codeIn K cd21 "idle_goals" = true) (k21 : PySem.W.keepIn K (.ref f21) = true)
    (a22 : PySem.W.nsIn K mainGlobals "asks_in" = some (some (.ref f22))) (l22 : K.lookup f22 = some ⟨oc22, od22, .func (PySem.W.fnOf "asks_in" "asks_in" (defArgs s_asks_in) (defBody s_asks_in) (defScope s_asks_in) .none kV22 dc22 pm22 an22 cd22 ct22), sl22⟩) (c22 : PySem.W.codeIn K cd22 "asks_in" = true) (k22 : PySem.W.keepIn K (.ref f22) = true)
    (a23 : PySem.W.nsIn K mainGlobals "words_row" = some (some (.ref f23))) (l23 : K.lookup f23 = some ⟨oc23, od23, .func (PySem.W.fnOf "words_row" "words_row" (defArgs s_words_row) (defBody s_words_row) (defScope s_words_row) .none kV23 dc23 pm23 an23 cd23 ct23), sl23⟩) (c23 : PySem.W.codeIn K cd23 "words_row" = true) (k23 : PySem.W.keepIn K (.ref f23) = true)
    (a24 : PySem.W.nsIn K mainGlobals "text_rows" = some (some (.ref f24))) (l24 : K.lookup f24 = some ⟨oc24, od24, .func (PySem.W.fnOf "text_rows" "text_rows" (defArgs s_text_rows) (defBody s_text_rows) (defScope s_text_rows) .none kV24 dc24 pm24 an24 cd24 ct24), sl24⟩) (c24 : PySem.W.codeIn K cd24 "text_rows" = true) (k24 : PySem.W.keepIn K (.ref f24) = true)
    (a25 : PySem.W.nsIn K mainGlobals "parted_row" = some (some (.ref f25))) (l25 : K.lookup f25 = some ⟨oc25, od25, .func (PySem.W.fnOf "parted_row" "parted_row" (defArgs s_parted_row) (defBody s_parted_row) (defScope s_parted_row) .none kV25 dc25 pm25 an25 cd25 ct25), sl25⟩) (c25 : PySem.W.codeIn K cd25 "parted_row" = true) (k25 : PySem.W.keepIn K (.ref f25) = true)
    (a26 : PySem.W.nsIn K mainGlobals "prime_told" = some (some (.ref f26))) (l26 : K.lookup f26 = some ⟨oc26, od26, .func (PySem.W.fnOf "prime_told" "prime_told" (defArgs s_prime_told) (defBody s_prime_told) (defScope s_prime_told) .none kV26 dc26 pm26 an26 cd26 ct26), sl26⟩) (c26 : PySem.W.codeIn K cd26 "prime_told" = true) (k26 : PySem.W.keepIn K (.ref f26) = true)
    (a27 : PySem.W.nsIn K mainGlobals "coded_text" = some (some (.ref f27))) (l27 : K.lookup f27 = some ⟨oc27, od27, .func (PySem.W.fnOf "coded_text" "coded_text" (defArgs s_coded_text) (defBody s_coded_text) (defScope s_coded_text) .none kV27 dc27 pm27 an27 cd27 ct27), sl27⟩) (c27 : PySem.W.codeIn K cd27 "coded_text" = true) (k27 : PySem.W.keepIn K (.ref f27) = true)
    (a28 : PySem.W.nsIn K mainGlobals "words_of" = some (some (.ref f28))) (l28 : K.lookup f28 = some ⟨oc28, od28, .func (PySem.W.fnOf "words_of" "words_of" (defArgs s_words_of) (defBody s_words_of) (defScope s_words_of) .none kV28 dc28 pm28 an28 cd28 ct28), sl28⟩) (c28 : PySem.W.codeIn K cd28 "words_of" = true) (k28 : PySem.W.keepIn K (.ref f28) = true)
    (a29 : PySem.W.nsIn K mainGlobals "thing_told" = some (some (.ref f29))) (l29 : K.lookup f29 = some ⟨oc29, od29, .func (PySem.W.fnOf "thing_told" "thing_told" (defArgs s_thing_told) (defBody s_thing_told) (defScope s_thing_told) .none kV29 dc29 pm29 an29 cd29 ct29), sl29⟩) (c29 : PySem.W.codeIn K cd29 "thing_told" = true) (k29 : PySem.W.keepIn K (.ref f29) = true)
    (a30 : PySem.W.nsIn K mainGlobals "things_told" = some (some (.ref f30))) (l30 : K.lookup f30 = some ⟨oc30, od30, .func (PySem.W.fnOf "things_told" "things_told" (defArgs s_things_told) (defBody s_things_told) (defScope s_things_told) .none kV30 dc30 pm30 an30 cd30 ct30), sl30⟩) (c30 : PySem.W.codeIn K cd30 "things_told" = true) (k30 : PySem.W.keepIn K (.ref f30) = true)
    (a31 : PySem.W.nsIn K mainGlobals "instruction_told" = some (some (.ref f31))) (l31 : K.lookup f31 = some ⟨oc31, od31, .func (PySem.W.fnOf "instruction_told" "instruction_told" (defArgs s_instruction_told) (defBody s_instruction_told) (defScope s_instruction_told) .none kV31 dc31 pm31 an31 cd31 ct31), sl31⟩) (c31 : PySem.W.codeIn K cd31 "instruction_told" = true) (k31 : PySem.W.keepIn K (.ref f31) = true)
    (a32 : PySem.W.findIn K (.ref c_CodeReader) "__init__" = some (some (.ref f32))) (i32 : PySem.W.isFn K (.ref f32) = true) (l32 : K.lookup f32 = some ⟨oc32, od32, .func (PySem.W.fnOf "__init__" "CodeReader.__init__" (defArgs s_CodeReader___init__) (defBody s_CodeReader___init__) (defScope s_CodeReader___init__) .none kV32 dc32 pm32 an32 cd32 ct32), sl32⟩) (c32 : PySem.W.codeIn K cd32 "CodeReader.__init__" = true) (k32 : PySem.W.keepIn K (.ref f32) = true)
    (a33 : PySem.W.findIn K (.ref c_CodeReader) "rests" = some (some (.ref f33))) (i33 : PySem.W.isFn K (.ref f33) = true) (l33 : K.lookup f33 = some ⟨oc33, od33, .func (PySem.W.fnOf "rests" "CodeReader.rests" (defArgs s_CodeReader_rests) (defBody s_CodeReader_rests) (defScope s_CodeReader_rests) .none kV33 dc33 pm33 an33 cd33 ct33), sl33⟩) (c33 : PySem.W.codeIn K cd33 "CodeReader.rests" = true) (k33 : PySem.W.keepIn K (.ref f33) = true)
    (a34 : PySem.W.findIn K (.ref c_CodeReader) "unit_told" = some (some (.ref f34))) (i34 : PySem.W.isFn K (.ref f34) = true) (l34 : K.lookup f34 = some ⟨oc34, od34, .func (PySem.W.fnOf "unit_told" "CodeReader.unit_told" (defArgs s_CodeReader_unit_told) (defBody s_CodeReader_unit_told) (defScope s_CodeReader_unit_told) .none kV34 dc34 pm34 an34 cd34 ct34), sl34⟩) (c34 : PySem.W.codeIn K cd34 "CodeReader.unit_told" = true) (k34 : PySem.W.keepIn K (.ref f34) = true)
    (a35 : PySem.W.findIn K (.ref c_CodeReader) "reads" = some (some (.ref f35))) (i35 : PySem.W.isFn K (.ref f35) = true) (l35 : K.lookup f35 = some ⟨oc35, od35, .func (PySem.W.fnOf "reads" "CodeReader.reads" (defArgs s_CodeReader_reads) (defBody s_CodeReader_reads) (defScope s_CodeReader_reads) .none kV35 dc35 pm35 an35 cd35 ct35), sl35⟩) (c35 : PySem.W.codeIn K cd35 "CodeReader.reads" = true) (k35 : PySem.W.keepIn K (.ref f35) = true)
    (a36 : PySem.W.findIn K (.ref c_CodeReader) "reads_instruction" = some (some (.ref f36))) (i36 : PySem.W.isFn K (.ref f36) = true) (l36 : K.lookup f36 = some ⟨oc36, od36, .func (PySem.W.fnOf "reads_instruction" "CodeReader.reads_instruction" (defArgs s_CodeReader_reads_instruction) (defBody s_CodeReader_reads_instruction) (defScope s_CodeReader_reads_instruction) .none kV36 dc36 pm36 an36 cd36 ct36), sl36⟩) (c36 : PySem.W.codeIn K cd36 "CodeReader.reads_instruction" = true) (k36 : PySem.W.keepIn K (.ref f36) = true)
    (a37 : PySem.W.findIn K (.ref c_CodeReader) "reads_outer" = some (some (.ref f37))) (i37 : PySem.W.isFn K (.ref f37) = true) (l37 : K.lookup f37 = some ⟨oc37, od37, .func (PySem.W.fnOf "reads_outer" "CodeReader.reads_outer" (defArgs s_CodeReader_reads_outer) (defBody s_CodeReader_reads_outer) (defScope s_CodeReader_reads_outer) .none kV37 dc37 pm37 an37 cd37 ct37), sl37⟩) (c37 : PySem.W.codeIn K cd37 "CodeReader.reads_outer" = true) (k37 : PySem.W.keepIn K (.ref f37) = true)
    (a38 : PySem.W.nsIn K mainGlobals "read_coded" = some (some (.ref f38))) (l38 : K.lookup f38 = some ⟨oc38, od38, .func (PySem.W.fnOf "read_coded" "read_coded" (defArgs s_read_coded) (defBody s_read_coded) (defScope s_read_coded) .none kV38 dc38 pm38 an38 cd38 ct38), sl38⟩) (c38 : PySem.W.codeIn K cd38 "read_coded" = true) (k38 : PySem.W.keepIn K (.ref f38) = true)
    (a39 : PySem.W.nsIn K mainGlobals "_law_begin" = some (some (.ref f39))) (l39 : K.lookup f39 = some ⟨oc39, od39, .func (PySem.W.fnOf "_law_begin" "_law_begin" (defArgs s_law_begin) (defBody s_law_begin) (defScope s_law_begin) .none kV39 dc39 pm39 an39 cd39 ct39), sl39⟩) (c39 : PySem.W.codeIn K cd39 "_law_begin" = true) (k39 : PySem.W.keepIn K (.ref f39) = true)
    (a40 : PySem.W.nsIn K mainGlobals "_law_draw" = some (some (.ref f40))) (l40 : K.lookup f40 = some ⟨oc40, od40, .func (PySem.W.fnOf "_law_draw" "_law_draw" (defArgs s_law_draw) (defBody s_law_draw) (defScope s_law_draw) .none kV40 dc40 pm40 an40 cd40 ct40), sl40⟩) (c40 : PySem.W.codeIn K cd40 "_law_draw" = true) (k40 : PySem.W.keepIn K (.ref f40) = true)
    (a41 : PySem.W.nsIn K mainGlobals "_law_pick" = some (some (.ref f41))) (l41 : K.lookup f41 = some ⟨oc41, od41, .func (PySem.W.fnOf "_law_pick" "_law_pick" (defArgs s_law_pick) (defBody s_law_pick) (defScope s_law_pick) .none kV41 dc41 pm41 an41 cd41 ct41), sl41⟩) (c41 : PySem.W.codeIn K cd41 "_law_pick" = true) (k41 : PySem.W.keepIn K (.ref f41) = true)
    (a42 : PySem.W.nsIn K mainGlobals "_law_words" = some (some (.ref f42))) (l42 : K.lookup f42 = some ⟨oc42, od42, .func (PySem.W.fnOf "_law_words" "_law_words" (defArgs s_law_words) (defBody s_law_words) (defScope s_law_words) .none kV42 dc42 pm42 an42 cd42 ct42), sl42⟩) (c42 : PySem.W.codeIn K cd42 "_law_words" = true) (k42 : PySem.W.keepIn K (.ref f42) = true)
    (a43 : PySem.W.nsIn K mainGlobals "_law_spots" = some (some (.ref f43))) (l43 : K.lookup f43 = some ⟨oc43, od43, .func (PySem.W.fnOf "_law_spots" "_law_spots" (defArgs s_law_spots) (defBody s_law_spots) (defScope s_law_spots) .none kV43 dc43 pm43 an43 cd43 ct43), sl43⟩) (c43 : PySem.W.codeIn K cd43 "_law_spots" = true) (k43 : PySem.W.keepIn K (.ref f43) = true)
    (a44 : PySem.W.nsIn K mainGlobals "_law_number" = some (some (.ref f44))) (l44 : K.lookup f44 = some ⟨oc44, od44, .func (PySem.W.fnOf "_law_number" "_law_number" (defArgs s_law_number) (defBody s_law_number) (defScope s_law_number) .none kV44 dc44 pm44 an44 cd44 ct44), sl44⟩) (c44 : PySem.W.codeIn K cd44 "_law_number" = true) (k44 : PySem.W.keepIn K (.ref f44) = true)
    (a45 : PySem.W.nsIn K mainGlobals "_law_instruction" = some (some (.ref f45))) (l45 : K.lookup f45 = some ⟨oc45, od45, .func (PySem.W.fnOf "_law_instruction" "_law_instruction" (defArgs s_law_instruction) (defBody s_law_instruction) (defScope s_law_instruction) .none kV45 dc45 pm45 an45 cd45 ct45), sl45⟩) (c45 : PySem.W.codeIn K cd45 "_law_instruction" = true) (k45 : PySem.W.keepIn K (.ref f45) = true)
    (a46 : PySem.W.nsIn K mainGlobals "_law_parts" = some (some (.ref f46))) (l46 : K.lookup f46 = some ⟨oc46, od46, .func (PySem.W.fnOf "_law_parts" "_law_parts" (defArgs s_law_parts) (defBody s_law_parts) (defScope s_law_parts) .none kV46 dc46 pm46 an46 cd46 ct46), sl46⟩) (c46 : PySem.W.codeIn K cd46 "_law_parts" = true) (k46 : PySem.W.keepIn K (.ref f46) = true)
    (a47 : PySem.W.nsIn K mainGlobals "_law_line" = some (some (.ref f47))) (l47 : K.lookup f47 = some ⟨oc47, od47, .func (PySem.W.fnOf "_law_line" "_law_line" (defArgs s_law_line) (defBody s_law_line) (defScope s_law_line) .none kV47 dc47 pm47 an47 cd47 ct47), sl47⟩) (c47 : PySem.W.codeIn K cd47 "_law_line" = true) (k47 : PySem.W.keepIn K (.ref f47) = true)
    (a48 : PySem.W.nsIn K mainGlobals "_law_written" = some (some (.ref f48))) (l48 : K.lookup f48 = some ⟨oc48, od48, .func (PySem.W.fnOf "_law_written" "_law_written" (defArgs s_law_written) (defBody s_law_written) (defScope s_law_written) .none kV48 dc48 pm48 an48 cd48 ct48), sl48⟩) (c48 : PySem.W.codeIn K cd48 "_law_written" = true) (k48 : PySem.W.keepIn K (.ref f48) = true)
    (a49 : PySem.W.nsIn K mainGlobals "law" = some (some (.ref f49))) (l49 : K.lookup f49 = some ⟨oc49, od49, .func (PySem.W.fnOf "law" "law" (defArgs s_law) (defBody s_law) (defScope s_law) .none kV49 dc49 pm49 an49 cd49 ct49), sl49⟩) (c49 : PySem.W.codeIn K cd49 "law" = true) (k49 : PySem.W.keepIn K (.ref f49) = true)
    (x_Coded : PySem.W.nsIn K mainGlobals "Coded" = some (some (.ref c_Coded))) (pg_Coded : PySem.W.plainGet K c_Coded Str.empty = true) (hd_Coded : PySem.W.hasDictIn K c_Coded = true) (po_Coded : PySem.W.plainOver K c_Coded = true) (sa_Coded : PySem.W.findIn K (.ref c_Coded) "__setattr__" = some (some (.builtin "object.__setattr__"))) (mk_Coded : PySem.W.makesIn K c_Coded = true) (kc_Coded : PySem.W.keepIn K (.ref c_Coded) = true) (na__hidden : PySem.W.findIn K (.ref c_Coded) "_hidden" = some none) (na__deeds : PySem.W.findIn K (.ref c_Coded) "_deeds" = some none) (na__prime : PySem.W.findIn K (.ref c_Coded) "_prime" = some none) (na__asks : PySem.W.findIn K (.ref c_Coded) "_asks" = some none)
    (x_Machine : PySem.W.nsIn K mainGlobals "Machine" = some (some (.ref c_Machine))) (pg_Machine : PySem.W.plainGet K c_Machine Str.empty = true) (hd_Machine : PySem.W.hasDictIn K c_Machine = true) (po_Machine : PySem.W.plainOver K c_Machine = true) (sa_Machine : PySem.W.findIn K (.ref c_Machine) "__setattr__" = some (some (.builtin "object.__setattr__"))) (mk_Machine : PySem.W.makesIn K c_Machine = true) (kc_Machine : PySem.W.keepIn K (.ref c_Machine) = true) (na_known : PySem.W.findIn K (.ref c_Machine) "known" = some none) (na_many : PySem.W.findIn K (.ref c_Machine) "many" = some none) (na_p : PySem.W.findIn K (.ref c_Machine) "p" = some none)
    (x_CodeReader : PySem.W.nsIn K mainGlobals "CodeReader" = some (some (.ref c_CodeReader))) (pg_CodeReader : PySem.W.plainGet K c_CodeReader Str.empty = true) (hd_CodeReader : PySem.W.hasDictIn K c_CodeReader = true) (po_CodeReader : PySem.W.plainOver K c_CodeReader = true) (sa_CodeReader : PySem.W.findIn K (.ref c_CodeReader) "__setattr__" = some (some (.builtin "object.__setattr__"))) (mk_CodeReader : PySem.W.makesIn K c_CodeReader = true) (kc_CodeReader : PySem.W.keepIn K (.ref c_CodeReader) = true) (na_CodeReader_p : PySem.W.findIn K (.ref c_CodeReader) "p" = some none) (na_cells : PySem.W.findIn K (.ref c_CodeReader) "cells" = some none) (na_heads : PySem.W.findIn K (.ref c_CodeReader) "heads" = some none) (na_codes : PySem.W.findIn K (.ref c_CodeReader) "codes" = some none) (na_within : PySem.W.findIn K (.ref c_CodeReader) "within" = some none)
    (x_REGISTERS : PySem.W.nsIn K mainGlobals "REGISTERS" = some (some (.ref c_REGISTERS)))
    (x_CELLS : PySem.W.nsIn K mainGlobals "CELLS" = some (some (.ref c_CELLS)))
    (x_SHAPES : PySem.W.nsIn K mainGlobals "SHAPES" = some (some (.ref c_SHAPES)))
    (fct_rg_REGISTERS : KTup K c_REGISTERS (regsL.map V.str))
    (fct_ce_CELLS : KTup K c_CELLS (cellsL.map V.str))
    (fct_sh_SHAPES : ShpK K w c_SHAPES)
    (fct_oc_Coded : PySem.W.findIn K (.ref c_Coded) "__class__" = some (some (.builtin "object.__class__")))
    (fct_gd_object : PySem.W.specialIn K (.builtin "object.__class__") "__get__" = some (some (.builtin "getset_descriptor.__get__")))
    (fct_td_object : PySem.W.takesIn K (.builtin "object.__class__") = some true)
    (fct_mo_Coded : PySem.W.mroIn K c_Coded (.type "object") = some true)
    (fct_ne_Coded : PySem.W.findIn K (.ref c_Coded) "__ne__" = some (some (.builtin "object.__ne__")))
    (fct_ic_Coded : PySem.W.isClsIn K c_Coded = true)
    (fct_tc_Coded : PySem.W.typeIn K (.ref c_Coded) = some (.type "type"))
    (z_abs : PySem.W.nsIn K mainGlobals "abs" = some none)
    (z_all : PySem.W.nsIn K mainGlobals "all" = some none)
    (z_bool : PySem.W.nsIn K mainGlobals "bool" = some none)
    (z_enumerate : PySem.W.nsIn K mainGlobals "enumerate" = some none)
    (z_int : PySem.W.nsIn K mainGlobals "int" = some none)
    (z_isinstance : PySem.W.nsIn K mainGlobals "isinstance" = some none)
    (z_len : PySem.W.nsIn K mainGlobals "len" = some none)
    (z_list : PySem.W.nsIn K mainGlobals "list" = some none)
    (z_range : PySem.W.nsIn K mainGlobals "range" = some none)
    (z_set : PySem.W.nsIn K mainGlobals "set" = some none)
    (z_sorted : PySem.W.nsIn K mainGlobals "sorted" = some none)
    (z_str : PySem.W.nsIn K mainGlobals "str" = some none)
    (z_tuple : PySem.W.nsIn K mainGlobals "tuple" = some none)
    (z_zip : PySem.W.nsIn K mainGlobals "zip" = some none)
    {t_FIGURES : Tok} (y_FIGURES : PySem.W.nsIn K mainGlobals "FIGURES" = some (some (.str "0123456789" t_FIGURES)))
    {t_HIGHEST_PRIME : Tok} (y_HIGHEST_PRIME : PySem.W.nsIn K mainGlobals "HIGHEST_PRIME" = some (some (.int 997 t_HIGHEST_PRIME)))
    {t_LETTERS : Tok} (y_LETTERS : PySem.W.nsIn K mainGlobals "LETTERS" = some (some (.str "abcdefghijklmnopqrstuvwxyz" t_LETTERS)))
    {t_LONGEST_NAME : Tok} (y_LONGEST_NAME : PySem.W.nsIn K mainGlobals "LONGEST_NAME" = some (some (.int 8 t_LONGEST_NAME)))
    {t_MOST_CODE : Tok} (y_MOST_CODE : PySem.W.nsIn K mainGlobals "MOST_CODE" = some (some (.int 400 t_MOST_CODE)))
    {t_MOST_DEEDS : Tok} (y_MOST_DEEDS : PySem.W.nsIn K mainGlobals "MOST_DEEDS" = some (some (.int 4 t_MOST_DEEDS)))
    {t_MOST_FIGURES : Tok} (y_MOST_FIGURES : PySem.W.nsIn K mainGlobals "MOST_FIGURES" = some (some (.int 3 t_MOST_FIGURES)))
    {t_MOST_NUMBERS : Tok} (y_MOST_NUMBERS : PySem.W.nsIn K mainGlobals "MOST_NUMBERS" = some (some (.int 3 t_MOST_NUMBERS)))
    {t_MOST_WAYS : Tok} (y_MOST_WAYS : PySem.W.nsIn K mainGlobals "MOST_WAYS" = some (some (.int 6 t_MOST_WAYS)))
    {t_PRIME : Tok} (y_PRIME : PySem.W.nsIn K mainGlobals "PRIME" = some (some (.int 97 t_PRIME)))
    {t_PRIME_FIGURES : Tok} (y_PRIME_FIGURES : PySem.W.nsIn K mainGlobals "PRIME_FIGURES" = some (some (.int 3 t_PRIME_FIGURES))) :
    ∃ fd : FuncData, (∀ (s : Shared) (v : Value), BindsTo s fd ⟨[v], []⟩ [("script", v)]) ∧ ∀ base : Heap, K.In base → base.Ns mainGlobals mg → FnOk l.prog w K mg base CX0 11 fa fd ["script"] (sp_law K) := by
  have e := hfa.symm.trans (PySem.W.mg_of X G a49)
  cases e
  have G1 := fun_mk (st := s_is_whole) l1 c1 k1
  have F1 : Here K mg "is_whole" s_is_whole ["thing"] f1 _ := ⟨G1, PySem.W.mg_of X G a1, G1.binds (ps := ["thing"]) fun _ _ _ _ _ _ us hl => match us, hl with | [_], _ => rfl⟩
  have G2 := fun_mk (st := s_is_prime) l2 c2 k2
  have F2 : Here K mg "is_prime" s_is_prime ["thing"] f2 _ := ⟨G2, PySem.W.mg_of X G a2, G2.binds (ps := ["thing"]) fun _ _ _ _ _ _ us hl => match us, hl with | [_], _ => rfl⟩
  have G3 := fun_mk (st := s_is_number) l3 c3 k3
  have F3 : Here K mg "is_number" s_is_number ["thing", "p"] f3 _ := ⟨G3, PySem.W.mg_of X G a3, G3.binds (ps := ["thing", "p"]) fun _ _ _ _ _ _ us hl => match us, hl with | [_, _], _ => rfl⟩
  have G4 := fun_mk (st := s_is_name) l4 c4 k4
  have F4 : Here K mg "is_name" s_is_name ["thing"] f4 _ := ⟨G4, PySem.W.mg_of X G a4, G4.binds (ps := ["thing"]) fun _ _ _ _ _ _ us hl => match us, hl with | [_], _ => rfl⟩
  have G5 := fun_mk (st := s_has_only) l5 c5 k5
  have F5 : Here K mg "has_only" s_has_only ["text", "signs"] f5 _ := ⟨G5, PySem.W.mg_of X G a5, G5.binds (ps := ["text", "signs"]) fun _ _ _ _ _ _ us hl => match us, hl with | [_, _], _ => rfl⟩
  have G6 := fun_mk (st := s_read_figures) l6 c6 k6
  have F6 : Here K mg "read_figures" s_read_figures ["text", "most"] f6 _ := ⟨G6, PySem.W.mg_of X G a6, G6.binds (ps := ["text", "most"]) fun _ _ _ _ _ _ us hl => match us, hl with | [_, _], _ => rfl⟩
  have G7 := fun_mk (st := s_is_tuple) l7 c7 k7
  have F7 : Here K mg "is_tuple" s_is_tuple ["thing", "least", "most"] f7 _ := ⟨G7, PySem.W.mg_of X G a7, G7.binds (ps := ["thing", "least", "most"]) fun _ _ _ _ _ _ us hl => match us, hl with | [_, _, _], _ => rfl⟩
  have G8 := fun_mk (st := s_are_unlike) l8 c8 k8
  have F8 : Here K mg "are_unlike" s_are_unlike ["things"] f8 _ := ⟨G8, PySem.W.mg_of X G a8, G8.binds (ps := ["things"]) fun _ _ _ _ _ _ us hl => match us, hl with | [_], _ => rfl⟩
  have G9 := fun_mk (st := s_do_rise) l9 c9 k9
  have F9 : Here K mg "do_rise" s_do_rise ["things"] f9 _ := ⟨G9, PySem.W.mg_of X G a9, G9.binds (ps := ["things"]) fun _ _ _ _ _ _ us hl => match us, hl with | [_], _ => rfl⟩
  have G10 := fun_mk (st := s_are_ways) l10 c10 k10
  have F10 : Here K mg "are_ways" s_are_ways ["thing", "most", "size"] f10 _ := ⟨G10, PySem.W.mg_of X G a10, G10.binds (ps := ["thing", "most", "size"]) fun _ _ _ _ _ _ us hl => match us, hl with | [_, _, _], _ => rfl⟩
  have G11 := fun_mk (st := s_leads_round) l11 c11 k11
  have F11 : Here K mg "leads_round" s_leads_round ["goals"] f11 _ := ⟨G11, PySem.W.mg_of X G a11, G11.binds (ps := ["goals"]) fun _ _ _ _ _ _ us hl => match us, hl with | [_], _ => rfl⟩
  have G12 : FunD K "__init__" "Coded.__init__" (defArgs s_Coded___init__) (defBody s_Coded___init__) (defScope s_Coded___init__) [] [("prime", V.int 97)] f12 _ := ⟨⟨oc12, od12, .none, .ref D12, dc12, pm12, an12, cd12, ct12, sl12, rfl, l12, c12, .inl ⟨rfl, rfl⟩, .inr ⟨D12, rfl, fun q m => by rw [List.mem_singleton.mp m]; exact ⟨_, d12, _, rfl⟩⟩⟩, k12⟩
  have F12 : HereD K c_Coded "__init__" "Coded.__init__" [("prime", V.int 97)] s_Coded___init__ ["self", "hidden", "deeds", "prime"] f12 _ := ⟨G12, ⟨mk_Coded, a12, i12, kc_Coded⟩⟩
  have G13 := fun_mk (st := s_Coded_hidden) l13 c13 k13
  have F13 : HereM K c_Coded "hidden" "Coded.hidden" s_Coded_hidden ["self"] f13 _ := ⟨G13, ⟨a13, i13, k13⟩, G13.binds (ps := ["self"]) fun _ _ _ _ _ _ us hl => match us, hl with | [_], _ => rfl⟩
  have G14 := fun_mk (st := s_Coded_deeds) l14 c14 k14
  have F14 : HereM K c_Coded "deeds" "Coded.deeds" s_Coded_deeds ["self"] f14 _ := ⟨G14, ⟨a14, i14, k14⟩, G14.binds (ps := ["self"]) fun _ _ _ _ _ _ us hl => match us, hl with | [_], _ => rfl⟩
  have G15 := fun_mk (st := s_Coded_prime) l15 c15 k15
  have F15 : HereM K c_Coded "prime" "Coded.prime" s_Coded_prime ["self"] f15 _ := ⟨G15, ⟨a15, i15, k15⟩, G15.binds (ps := ["self"]) fun _ _ _ _ _ _ us hl => match us, hl with | [_], _ => rfl⟩
  have G16 := fun_mk (st := s_Coded___eq__) l16 c16 k16
  have F16 : HereM K c_Coded "__eq__" "Coded.__eq__" s_Coded___eq__ ["self", "other"] f16 _ := ⟨G16, ⟨a16, i16, k16⟩, G16.binds (ps := ["self", "other"]) fun _ _ _ _ _ _ us hl => match us, hl with | [_, _], _ => rfl⟩
  have G17 := fun_mk (st := s_Machine___init__) l17 c17 k17
  have F17 : HereI K c_Machine "__init__" "Machine.__init__" s_Machine___init__ ["self", "hidden", "many", "p"] f17 _ := ⟨G17, ⟨mk_Machine, a17, i17, kc_Machine⟩, G17.binds (ps := ["self", "hidden", "many", "p"]) fun _ _ _ _ _ _ us hl => match us, hl with | [_, _, _, _], _ => rfl⟩
  have G18 := fun_mk (st := s_Machine_fits) l18 c18 k18
  have F18 : HereM K c_Machine "fits" "Machine.fits" s_Machine_fits ["self", "sign", "thing"] f18 _ := ⟨G18, ⟨a18, i18, k18⟩, G18.binds (ps := ["self", "sign", "thing"]) fun _ _ _ _ _ _ us hl => match us, hl with | [_, _, _], _ => rfl⟩
  have G19 := fun_mk (st := s_is_deed) l19 c19 k19
  have F19 : Here K mg "is_deed" s_is_deed ["thing", "hidden", "p"] f19 _ := ⟨G19, PySem.W.mg_of X G a19, G19.binds (ps := ["thing", "hidden", "p"]) fun _ _ _ _ _ _ us hl => match us, hl with | [_, _, _], _ => rfl⟩
  have G20 := fun_mk (st := s_is_instruction) l20 c20 k20
  have F20 : Here K mg "is_instruction" s_is_instruction ["thing", "machine"] f20 _ := ⟨G20, PySem.W.mg_of X G a20, G20.binds (ps := ["thing", "machine"]) fun _ _ _ _ _ _ us hl => match us, hl with | [_, _], _ => rfl⟩
  have G21 := fun_mk (st := s_idle_goals) l21 c21 k21
  have F21 : Here K mg "idle_goals" s_idle_goals ["code", "at"] f21 _ := ⟨G21, PySem.W.mg_of X G a21, G21.binds (ps := ["code", "at"]) fun _ _ _ _ _ _ us hl => match us, hl with | [_, _], _ => rfl⟩
  have G22 := fun_mk (st := s_asks_in) l22 c22 k22
  have F22 : Here K mg "asks_in" s_asks_in ["deeds"] f22 _ := ⟨G22, PySem.W.mg_of X G a22, G22.binds (ps := ["deeds"]) fun _ _ _ _ _ _ us hl => match us, hl with | [_], _ => rfl⟩
  have G23 := fun_mk (st := s_words_row) l23 c23 k23
  have F23 : Here K mg "words_row" s_words_row ["words", "depth"] f23 _ := ⟨G23, PySem.W.mg_of X G a23, G23.binds (ps := ["words", "depth"]) fun _ _ _ _ _ _ us hl => match us, hl with | [_, _], _ => rfl⟩
  have G24 := fun_mk (st := s_text_rows) l24 c24 k24
  have F24 : Here K mg "text_rows" s_text_rows ["text"] f24 _ := ⟨G24, PySem.W.mg_of X G a24, G24.binds (ps := ["text"]) fun _ _ _ _ _ _ us hl => match us, hl with | [_], _ => rfl⟩
  have G25 := fun_mk (st := s_parted_row) l25 c25 k25
  have F25 : Here K mg "parted_row" s_parted_row ["row"] f25 _ := ⟨G25, PySem.W.mg_of X G a25, G25.binds (ps := ["row"]) fun _ _ _ _ _ _ us hl => match us, hl with | [_], _ => rfl⟩
  have G26 := fun_mk (st := s_prime_told) l26 c26 k26
  have F26 : Here K mg "prime_told" s_prime_told ["words"] f26 _ := ⟨G26, PySem.W.mg_of X G a26, G26.binds (ps := ["words"]) fun _ _ _ _ _ _ us hl => match us, hl with | [_], _ => rfl⟩
  have G27 := fun_mk (st := s_coded_text) l27 c27 k27
  have F27 : Here K mg "coded_text" s_coded_text ["unit"] f27 _ := ⟨G27, PySem.W.mg_of X G a27, G27.binds (ps := ["unit"]) fun _ _ _ _ _ _ us hl => match us, hl with | [_], _ => rfl⟩
  have G28 := fun_mk (st := s_words_of) l28 c28 k28
  have F28 : Here K mg "words_of" s_words_of ["step"] f28 _ := ⟨G28, PySem.W.mg_of X G a28, G28.binds (ps := ["step"]) fun _ _ _ _ _ _ us hl => match us, hl with | [_], _ => rfl⟩
  have G29 := fun_mk (st := s_thing_told) l29 c29 k29
  have F29 : Here K mg "thing_told" s_thing_told ["word", "sign", "p"] f29 _ := ⟨G29, PySem.W.mg_of X G a29, G29.binds (ps := ["word", "sign", "p"]) fun _ _ _ _ _ _ us hl => match us, hl with | [_, _, _], _ => rfl⟩
  have G30 := fun_mk (st := s_things_told) l30 c30 k30
  have F30 : Here K mg "things_told" s_things_told ["words", "shape", "p"] f30 _ := ⟨G30, PySem.W.mg_of X G a30, G30.binds (ps := ["words", "shape", "p"]) fun _ _ _ _ _ _ us hl => match us, hl with | [_, _, _], _ => rfl⟩
  have G31 := fun_mk (st := s_instruction_told) l31 c31 k31
  have F31 : Here K mg "instruction_told" s_instruction_told ["words", "p"] f31 _ := ⟨G31, PySem.W.mg_of X G a31, G31.binds (ps := ["words", "p"]) fun _ _ _ _ _ _ us hl => match us, hl with | [_, _], _ => rfl⟩
  have G32 := fun_mk (st := s_CodeReader___init__) l32 c32 k32
  have F32 : HereI K c_CodeReader "__init__" "CodeReader.__init__" s_CodeReader___init__ ["self"] f32 _ := ⟨G32, ⟨mk_CodeReader, a32, i32, kc_CodeReader⟩, G32.binds (ps := ["self"]) fun _ _ _ _ _ _ us hl => match us, hl with | [_], _ => rfl⟩
  have G33 := fun_mk (st := s_CodeReader_rests) l33 c33 k33
  have F33 : HereM K c_CodeReader "rests" "CodeReader.rests" s_CodeReader_rests ["self"] f33 _ := ⟨G33, ⟨a33, i33, k33⟩, G33.binds (ps := ["self"]) fun _ _ _ _ _ _ us hl => match us, hl with | [_], _ => rfl⟩
  have G34 := fun_mk (st := s_CodeReader_unit_told) l34 c34 k34
  have F34 : HereM K c_CodeReader "unit_told" "CodeReader.unit_told" s_CodeReader_unit_told ["self"] f34 _ := ⟨G34, ⟨a34, i34, k34⟩, G34.binds (ps := ["self"]) fun _ _ _ _ _ _ us hl => match us, hl with | [_], _ => rfl⟩
  have G35 := fun_mk (st := s_CodeReader_reads) l35 c35 k35
  have F35 : HereM K c_CodeReader "reads" "CodeReader.reads" s_CodeReader_reads ["self", "row"] f35 _ := ⟨G35, ⟨a35, i35, k35⟩, G35.binds (ps := ["self", "row"]) fun _ _ _ _ _ _ us hl => match us, hl with | [_, _], _ => rfl⟩
  have G36 := fun_mk (st := s_CodeReader_reads_instruction) l36 c36 k36
  have F36 : HereM K c_CodeReader "reads_instruction" "CodeReader.reads_instruction" s_CodeReader_reads_instruction ["self", "words"] f36 _ := ⟨G36, ⟨a36, i36, k36⟩, G36.binds (ps := ["self", "words"]) fun _ _ _ _ _ _ us hl => match us, hl with | [_, _], _ => rfl⟩
  have G37 := fun_mk (st := s_CodeReader_reads_outer) l37 c37 k37
  have F37 : HereM K c_CodeReader "reads_outer" "CodeReader.reads_outer" s_CodeReader_reads_outer ["self", "words"] f37 _ := ⟨G37, ⟨a37, i37, k37⟩, G37.binds (ps := ["self", "words"]) fun _ _ _ _ _ _ us hl => match us, hl with | [_, _], _ => rfl⟩
  have G38 := fun_mk (st := s_read_coded) l38 c38 k38
  have F38 : Here K mg "read_coded" s_read_coded ["text"] f38 _ := ⟨G38, PySem.W.mg_of X G a38, G38.binds (ps := ["text"]) fun _ _ _ _ _ _ us hl => match us, hl with | [_], _ => rfl⟩
  have G39 := fun_mk (st := s_law_begin) l39 c39 k39
  have F39 : Here K mg "_law_begin" s_law_begin ["script"] f39 _ := ⟨G39, PySem.W.mg_of X G a39, G39.binds (ps := ["script"]) fun _ _ _ _ _ _ us hl => match us, hl with | [_], _ => rfl⟩
  have G40 := fun_mk (st := s_law_draw) l40 c40 k40
  have F40 : Here K mg "_law_draw" s_law_draw ["state", "many"] f40 _ := ⟨G40, PySem.W.mg_of X G a40, G40.binds (ps := ["state", "many"]) fun _ _ _ _ _ _ us hl => match us, hl with | [_, _], _ => rfl⟩
  have G41 := fun_mk (st := s_law_pick) l41 c41 k41
  have F41 : Here K mg "_law_pick" s_law_pick ["state", "some"] f41 _ := ⟨G41, PySem.W.mg_of X G a41, G41.binds (ps := ["state", "some"]) fun _ _ _ _ _ _ us hl => match us, hl with | [_, _], _ => rfl⟩
  have G42 := fun_mk (st := s_law_words) l42 c42 k42
  have F42 : Here K mg "_law_words" s_law_words ["state", "many"] f42 _ := ⟨G42, PySem.W.mg_of X G a42, G42.binds (ps := ["state", "many"]) fun _ _ _ _ _ _ us hl => match us, hl with | [_, _], _ => rfl⟩
  have G43 := fun_mk (st := s_law_spots) l43 c43 k43
  have F43 : Here K mg "_law_spots" s_law_spots ["cells"] f43 _ := ⟨G43, PySem.W.mg_of X G a43, G43.binds (ps := ["cells"]) fun _ _ _ _ _ _ us hl => match us, hl with | [_], _ => rfl⟩
  have G44 := fun_mk (st := s_law_number) l44 c44 k44
  have F44 : Here K mg "_law_number" s_law_number ["state", "p"] f44 _ := ⟨G44, PySem.W.mg_of X G a44, G44.binds (ps := ["state", "p"]) fun _ _ _ _ _ _ us hl => match us, hl with | [_, _], _ => rfl⟩
  have G45 := fun_mk (st := s_law_instruction) l45 c45 k45
  have F45 : Here K mg "_law_instruction" s_law_instruction ["state", "kit", "at", "size"] f45 _ := ⟨G45, PySem.W.mg_of X G a45, G45.binds (ps := ["state", "kit", "at", "size"]) fun _ _ _ _ _ _ us hl => match us, hl with | [_, _, _, _], _ => rfl⟩
  have G46 := fun_mk (st := s_law_parts) l46 c46 k46
  have F46 : Here K mg "_law_parts" s_law_parts ["state", "longest"] f46 _ := ⟨G46, PySem.W.mg_of X G a46, G46.binds (ps := ["state", "longest"]) fun _ _ _ _ _ _ us hl => match us, hl with | [_, _], _ => rfl⟩
  have G47 := fun_mk (st := s_law_line) l47 c47 k47
  have F47 : Here K mg "_law_line" s_law_line ["row"] f47 _ := ⟨G47, PySem.W.mg_of X G a47, G47.binds (ps := ["row"]) fun _ _ _ _ _ _ us hl => match us, hl with | [_], _ => rfl⟩
  have G48 := fun_mk (st := s_law_written) l48 c48 k48
  have F48 : Here K mg "_law_written" s_law_written ["parts"] f48 _ := ⟨G48, PySem.W.mg_of X G a48, G48.binds (ps := ["parts"]) fun _ _ _ _ _ _ us hl => match us, hl with | [_], _ => rfl⟩
  have G49 := fun_mk (st := s_law) l49 c49 k49
  have F49 : Here K mg "law" s_law ["script"] fa _ := ⟨G49, PySem.W.mg_of X G a49, G49.binds (ps := ["script"]) fun _ _ _ _ _ _ us hl => match us, hl with | [_], _ => rfl⟩
  have T : Tx K mg c_Coded c_Machine c_CodeReader c_REGISTERS c_CELLS c_SHAPES w := ⟨⟨_, PySem.W.mg_of X G y_FIGURES⟩, ⟨_, PySem.W.mg_of X G y_HIGHEST_PRIME⟩, ⟨_, PySem.W.mg_of X G y_LETTERS⟩, ⟨_, PySem.W.mg_of X G y_LONGEST_NAME⟩, ⟨_, PySem.W.mg_of X G y_MOST_CODE⟩, ⟨_, PySem.W.mg_of X G y_MOST_DEEDS⟩, ⟨_, PySem.W.mg_of X G y_MOST_FIGURES⟩, ⟨_, PySem.W.mg_of X G y_MOST_NUMBERS⟩, ⟨_, PySem.W.mg_of X G y_MOST_WAYS⟩, ⟨_, PySem.W.mg_of X G y_PRIME⟩, ⟨_, PySem.W.mg_of X G y_PRIME_FIGURES⟩, PySem.W.mg_none_of X G z_abs, PySem.W.mg_none_of X G z_all, PySem.W.mg_none_of X G z_bool, PySem.W.mg_none_of X G z_enumerate, PySem.W.mg_none_of X G z_int, PySem.W.mg_none_of X G z_isinstance, PySem.W.mg_none_of X G z_len, PySem.W.mg_none_of X G z_list, PySem.W.mg_none_of X G z_range, PySem.W.mg_none_of X G z_set, PySem.W.mg_none_of X G z_sorted, PySem.W.mg_none_of X G z_str, PySem.W.mg_none_of X G z_tuple, PySem.W.mg_none_of X G z_zip, PySem.W.mg_of X G x_Coded, ⟨pg_Coded, hd_Coded, po_Coded, sa_Coded⟩, na__hidden, na__deeds, na__prime, na__asks, PySem.W.mg_of X G x_Machine, ⟨pg_Machine, hd_Machine, po_Machine, sa_Machine⟩, na_known, na_many, na_p, PySem.W.mg_of X G x_CodeReader, ⟨pg_CodeReader, hd_CodeReader, po_CodeReader, sa_CodeReader⟩, na_CodeReader_p, na_cells, na_heads, na_codes, na_within, PySem.W.mg_of X G x_REGISTERS, PySem.W.mg_of X G x_CELLS, PySem.W.mg_of X G x_SHAPES, fct_rg_REGISTERS, fct_ce_CELLS, fct_sh_SHAPES, fct_oc_Coded, fct_gd_object, fct_td_object, fct_mo_Coded, fct_ne_Coded, fct_ic_Coded, fct_tc_Coded⟩
  refine ⟨PySem.W.fnOf "law" "law" (defArgs s_law) (defBody s_law) (defScope s_law) .none kV49 dc49 pm49 an49 cd49 ct49, fun s v => .of_eq rfl, fun base _ _ => ?_⟩
  have C_law_begin := ok_law_begin (P := l.prog) (w := w) (base := base) T  F39
  have C_law_draw := ok_law_draw (P := l.prog) (w := w) (base := base) T  F40
  have C_law_pick := ok_law_pick (P := l.prog) (w := w) (base := base) T C_law_draw F41
  have C_law_words := ok_law_words (P := l.prog) (w := w) (base := base) T C_law_pick C_law_draw F42
  have C_law_spots := ok_law_spots (P := l.prog) (w := w) (base := base) T  F43
  have C_law_number := ok_law_number (P := l.prog) (w := w) (base := base) T C_law_pick C_law_draw F44
  have C_law_instruction := ok_law_instruction (P := l.prog) (w := w) (base := base) T C_law_draw C_law_pick C_law_number C_law_words F45
  have C_law_parts := ok_law_parts (P := l.prog) (w := w) (base := base) T C_law_words C_law_pick C_law_draw C_law_spots C_law_instruction F46
  have C_asks_in := ok_asks_in (P := l.prog) (w := w) (base := base) T  F22
  have C_is_whole := ok_is_whole (P := l.prog) (w := w) (base := base) T  F1
  have C_is_prime := ok_is_prime (P := l.prog) (w := w) (base := base) T C_is_whole F2
  have C_are_unlike := ok_are_unlike (P := l.prog) (w := w) (base := base) T  F8
  have C_is_tuple := ok_is_tuple (P := l.prog) (w := w) (base := base) T  F7
  have C_Machine___init__ := ok_Machine___init__ (P := l.prog) (w := w) (base := base) T  F17
  have C_leads_round := ok_leads_round (P := l.prog) (w := w) (base := base) T  F11
  have C_has_only := ok_has_only (P := l.prog) (w := w) (base := base) T  F5
  have C_is_name := ok_is_name (P := l.prog) (w := w) (base := base) T C_has_only F4
  have C_is_number := ok_is_number (P := l.prog) (w := w) (base := base) T C_is_whole F3
  have C_do_rise := ok_do_rise (P := l.prog) (w := w) (base := base) T  F9
  have C_are_ways := ok_are_ways (P := l.prog) (w := w) (base := base) T C_do_rise C_is_tuple C_is_name F10
  have C_Machine_fits := ok_Machine_fits (P := l.prog) (w := w) (base := base) T C_is_number C_is_name C_are_ways F18
  have C_is_instruction := ok_is_instruction (P := l.prog) (w := w) (base := base) T C_is_tuple C_Machine_fits F20
  have C_idle_goals := ok_idle_goals (P := l.prog) (w := w) (base := base) T  F21
  have C_is_deed := ok_is_deed (P := l.prog) (w := w) (base := base) T C_Machine___init__ C_is_tuple C_leads_round C_is_name C_is_number C_is_instruction C_idle_goals F19
  have C_Coded___init__ := ok_Coded___init__ (P := l.prog) (w := w) (base := base) T C_asks_in C_is_prime C_are_unlike C_is_whole C_is_tuple C_is_deed F12
  have C_text_rows := ok_text_rows (P := l.prog) (w := w) (base := base) T  F24
  have C_CodeReader___init__ := ok_CodeReader___init__ (P := l.prog) (w := w) (base := base) T  F32
  have C_CodeReader_unit_told := ok_CodeReader_unit_told (P := l.prog) (w := w) (base := base) T C_Coded___init__ F34
  have C_parted_row := ok_parted_row (P := l.prog) (w := w) (base := base) T  F25
  have C_read_figures := ok_read_figures (P := l.prog) (w := w) (base := base) T C_has_only F6
  have C_thing_told := ok_thing_told (P := l.prog) (w := w) (base := base) T C_read_figures C_is_name C_is_number F29
  have C_things_told := ok_things_told (P := l.prog) (w := w) (base := base) T C_thing_told F30
  have C_prime_told := ok_prime_told (P := l.prog) (w := w) (base := base) T C_read_figures C_is_prime F26
  have C_CodeReader_reads_outer := ok_CodeReader_reads_outer (P := l.prog) (w := w) (base := base) T C_things_told C_prime_told F37
  have C_instruction_told := ok_instruction_told (P := l.prog) (w := w) (base := base) T C_things_told F31
  have C_CodeReader_reads_instruction := ok_CodeReader_reads_instruction (P := l.prog) (w := w) (base := base) T C_instruction_told F36
  have C_CodeReader_reads := ok_CodeReader_reads (P := l.prog) (w := w) (base := base) T C_parted_row C_CodeReader_reads_outer C_CodeReader_reads_instruction F35
  have C_CodeReader_rests := ok_CodeReader_rests (P := l.prog) (w := w) (base := base) T  F33
  have C_read_coded := ok_read_coded (P := l.prog) (w := w) (base := base) T C_text_rows C_CodeReader___init__ C_CodeReader_unit_told C_CodeReader_reads C_CodeReader_rests F38
  have C_Coded___eq__ := ok_Coded___eq__ (P := l.prog) (w := w) (base := base) T  F16
  have C_Coded_deeds := ok_Coded_deeds (P := l.prog) (w := w) (base := base) T  F14
  have C_Coded_prime := ok_Coded_prime (P := l.prog) (w := w) (base := base) T  F15
  have C_Coded_hidden := ok_Coded_hidden (P := l.prog) (w := w) (base := base) T  F13
  have C_words_row := ok_words_row (P := l.prog) (w := w) (base := base) T  F23
  have C_words_of := ok_words_of (P := l.prog) (w := w) (base := base) T  F28
  have C_coded_text := ok_coded_text (P := l.prog) (w := w) (base := base) T C_Coded_deeds C_Coded_prime C_Coded_hidden C_words_row C_words_of F27
  have C_law_line := ok_law_line (P := l.prog) (w := w) (base := base) T  F47
  have C_law_written := ok_law_written (P := l.prog) (w := w) (base := base) T C_law_line F48
  have C_law := ok_law (P := l.prog) (w := w) (base := base) T C_law_begin C_law_parts C_Coded___init__ C_read_coded C_Coded___eq__ C_coded_text C_Coded_hidden C_Coded_deeds C_Coded_prime C_law_draw C_law_written F49
  exact C_law.ok
end Z
open PySem PySem.W PyProof.Rows
set_option maxHeartbeats 0 in
theorem PySem.Challenge.cw_onetrace_k29_codes_written_holds : PySem.Challenge.rw_onetrace_k29_codes_written.Holds := by
  w_on; o_law; k_head; (case hw => w_witness2)
  k_fill
  refine L2.walk_of (l := PySem.Challenge.rw_onetrace_k29_codes_written) (n := 63) (k := 11) (x := "script") (CX := fun _ => L2.CX0) (sp := fun w => Z.sp_law _) rfl (by decide) rfl ⟨rfl, by decide, by decide⟩ (fun w h Y => PySem.W.kIn_of Y) ?F (fun _ _ a ns hl _ hS => ⟨a, ns, rfl, hS, hl, fun _ => rfl⟩) (fun _ _ _ _ _ h => h)
  case F =>
    intro w mg fa h KX G hmg
    refine' Z.all_mk KX G hmg ?a1 ?l1 ?c1 ?k1 ?a2 ?l2 ?c2 ?k2 ?a3 ?l3 ?c3 ?k3 ?a4 ?l4 ?c4 ?k4 ?a5 ?l5 ?c5 ?k5 ?a6 ?l6 ?c6 ?k6 ?a7 ?l7 ?c7 ?k7 ?a8 ?l8 ?c8 ?k8 ?a9 ?l9 ?c9 ?k9 ?a10 ?l10 ?c10 ?k10 ?a11 ?l11 ?c11 ?k11 ?a12 ?i12 ?l12 ?c12 ?k12 ?d12 ?a13 ?i13 ?l13 ?c13 ?k13 ?a14 ?i14 ?l14 ?c14 ?k14 ?a15 ?i15 ?l15 ?c15 ?k15 ?a16 ?i16 ?l16 ?c16 ?k16 ?a17 ?i17 ?l17 ?c17 ?k17 ?a18 ?i18 ?l18 ?c18 ?k18 ?a19 ?l19 ?c19 ?k19 ?a20 ?l20 ?c20 ?k20 ?a21 ?l21 ?c21 ?k21 ?a22 ?l22 ?c22 ?k22 ?a23 ?l23 ?c23 ?k23 ?a24 ?l24 ?c24 ?k24 ?a25 ?l25 ?c25 ?k25 ?a26 ?l26 ?c26 ?k26 ?a27 ?l27 ?c27 ?k27 ?a28 ?l28 ?c28 ?k28 ?a29 ?l29 ?c29 ?k29 ?a30 ?l30 ?c30 ?k30 ?a31 ?l31 ?c31 ?k31 ?a32 ?i32 ?l32 ?c32 ?k32 ?a33 ?i33 ?l33 ?c33 ?k33 ?a34 ?i34 ?l34 ?c34 ?k34 ?a35 ?i35 ?l35 ?c35 ?k35 ?a36 ?i36 ?l36 ?c36 ?k36 ?a37 ?i37 ?l37 ?c37 ?k37 ?a38 ?l38 ?c38 ?k38 ?a39 ?l39 ?c39 ?k39 ?a40 ?l40 ?c40 ?k40 ?a41 ?l41 ?c41 ?k41 ?a42 ?l42 ?c42 ?k42 ?a43 ?l43 ?c43 ?k43 ?a44 ?l44 ?c44 ?k44 ?a45 ?l45 ?c45 ?k45 ?a46 ?l46 ?c46 ?k46 ?a47 ?l47 ?c47 ?k47 ?a48 ?l48 ?c48 ?k48 ?a49 ?l49 ?c49 ?k49 ?x_Coded ?pg_Coded ?hd_Coded ?po_Coded ?sa_Coded ?mk_Coded ?kc_Coded ?na__hidden ?na__deeds ?na__prime ?na__asks ?x_Machine ?pg_Machine ?hd_Machine ?po_Machine ?sa_Machine ?mk_Machine ?kc_Machine ?na_known ?na_many ?na_p ?x_CodeReader ?pg_CodeReader ?hd_CodeReader ?po_CodeReader ?sa_CodeReader ?mk_CodeReader ?kc_CodeReader ?na_CodeReader_p ?na_cells ?na_heads ?na_codes ?na_within ?x_REGISTERS ?x_CELLS ?x_SHAPES ?fct_rg_REGISTERS ?fct_ce_CELLS ?fct_sh_SHAPES ?fct_oc_Coded ?fct_gd_object ?fct_td_object ?fct_mo_Coded ?fct_ne_Coded ?fct_ic_Coded ?fct_tc_Coded ?z_abs ?z_all ?z_bool ?z_enumerate ?z_int ?z_isinstance ?z_len ?z_list ?z_range ?z_set ?z_sorted ?z_str ?z_tuple ?z_zip ?y_FIGURES ?y_HIGHEST_PRIME ?y_LETTERS ?y_LONGEST_NAME ?y_MOST_CODE ?y_MOST_DEEDS ?y_MOST_FIGURES ?y_MOST_NUMBERS ?y_MOST_WAYS ?y_PRIME ?y_PRIME_FIGURES
    (case x_Coded => k_is)
    (case x_Machine => k_is)
    (case x_CodeReader => k_is)
    (case x_REGISTERS => k_is)
    (case x_CELLS => k_is)
    (case x_SHAPES => k_is)
    (case a1 => k_is)
    (case l1 => k_is)
    (case c1 => k_is)
    (case k1 => k_is)
    (case a2 => k_is)
    (case l2 => k_is)
    (case c2 => k_is)
    (case k2 => k_is)
    (case a3 => k_is)
    (case l3 => k_is)
    (case c3 => k_is)
    (case k3 => k_is)
    (case a4 => k_is)
    (case l4 => k_is)
    (case c4 => k_is)
    (case k4 => k_is)
    (case a5 => k_is)
    (case l5 => k_is)
    (case c5 => k_is)
    (case k5 => k_is)
    (case a6 => k_is)
    (case l6 => k_is)
    (case c6 => k_is)
    (case k6 => k_is)
    (case a7 => k_is)
    (case l7 => k_is)
    (case c7 => k_is)
    (case k7 => k_is)
    (case a8 => k_is)
    (case l8 => k_is)
    (case c8 => k_is)
    (case k8 => k_is)
    (case a9 => k_is)
    (case l9 => k_is)
    (case c9 => k_is)
    (case k9 => k_is)
    (case a10 => k_is)
    (case l10 => k_is)
    (case c10 => k_is)
    (case k10 => k_is)
    (case a11 => k_is)
    (case l11 => k_is)
    (case c11 => k_is)
    (case k11 => k_is)
    (case a12 => k_is)
    (case i12 => k_is)
    (case l12 => k_is)
    (case c12 => k_is)
    (case k12 => k_is)
    (case d12 => k_is)
    (case a13 => k_is)
    (case i13 => k_is)
    (case l13 => k_is)
    (case c13 => k_is)
    (case k13 => k_is)
    (case a14 => k_is)
    (case i14 => k_is)
    (case l14 => k_is)
    (case c14 => k_is)
    (case k14 => k_is)
    (case a15 => k_is)
    (case i15 => k_is)
    (case l15 => k_is)
    (case c15 => k_is)
    (case k15 => k_is)
    (case a16 => k_is)
    (case i16 => k_is)
    (case l16 => k_is)
    (case c16 => k_is)
    (case k16 => k_is)
    (case a17 => k_is)
    (case i17 => k_is)
    (case l17 => k_is)
    (case c17 => k_is)
    (case k17 => k_is)
    (case a18 => k_is)
    (case i18 => k_is)
    (case l18 => k_is)
    (case c18 => k_is)
    (case k18 => k_is)
    (case a19 => k_is)
    (case l19 => k_is)
    (case c19 => k_is)
    (case k19 => k_is)
    (case a20 => k_is)
    (case l20 => k_is)
    (case c20 => k_is)
    (case k20 => k_is)
    (case a21 => k_is)
    (case l21 => k_is)
    (case c21 => k_is)
    (case k21 => k_is)
    (case a22 => k_is)
    (case l22 => k_is)
    (case c22 => k_is)
    (case k22 => k_is)
    (case a23 => k_is)
    (case l23 => k_is)
    (case c23 => k_is)
    (case k23 => k_is)
    (case a24 => k_is)
    (case l24 => k_is)
    (case c24 => k_is)
    (case k24 => k_is)
    (case a25 => k_is)
    (case l25 => k_is)
    (case c25 => k_is)
    (case k25 => k_is)
    (case a26 => k_is)
    (case l26 => k_is)
    (case c26 => k_is)
    (case k26 => k_is)
    (case a27 => k_is)
    (case l27 => k_is)
    (case c27 => k_is)
    (case k27 => k_is)
    (case a28 => k_is)
    (case l28 => k_is)
    (case c28 => k_is)
    (case k28 => k_is)
    (case a29 => k_is)
    (case l29 => k_is)
    (case c29 => k_is)
    (case k29 => k_is)
    (case a30 => k_is)
    (case l30 => k_is)
    (case c30 => k_is)
    (case k30 => k_is)
    (case a31 => k_is)
    (case l31 => k_is)
    (case c31 => k_is)
    (case k31 => k_is)
    (case a32 => k_is)
    (case i32 => k_is)
    (case l32 => k_is)
    (case c32 => k_is)
    (case k32 => k_is)
    (case a33 => k_is)
    (case i33 => k_is)
    (case l33 => k_is)
    (case c33 => k_is)
    (case k33 => k_is)
    (case a34 => k_is)
    (case i34 => k_is)
    (case l34 => k_is)
    (case c34 => k_is)
    (case k34 => k_is)
    (case a35 => k_is)
    (case i35 => k_is)
    (case l35 => k_is)
    (case c35 => k_is)
    (case k35 => k_is)
    (case a36 => k_is)
    (case i36 => k_is)
    (case l36 => k_is)
    (case c36 => k_is)
    (case k36 => k_is)
    (case a37 => k_is)
    (case i37 => k_is)
    (case l37 => k_is)
    (case c37 => k_is)
    (case k37 => k_is)
    (case a38 => k_is)
    (case l38 => k_is)
    (case c38 => k_is)
    (case k38 => k_is)
    (case a39 => k_is)
    (case l39 => k_is)
    (case c39 => k_is)
    (case k39 => k_is)
    (case a40 => k_is)
    (case l40 => k_is)
    (case c40 => k_is)
    (case k40 => k_is)
    (case a41 => k_is)
    (case l41 => k_is)
    (case c41 => k_is)
    (case k41 => k_is)
    (case a42 => k_is)
    (case l42 => k_is)
    (case c42 => k_is)
    (case k42 => k_is)
    (case a43 => k_is)
    (case l43 => k_is)
    (case c43 => k_is)
    (case k43 => k_is)
    (case a44 => k_is)
    (case l44 => k_is)
    (case c44 => k_is)
    (case k44 => k_is)
    (case a45 => k_is)
    (case l45 => k_is)
    (case c45 => k_is)
    (case k45 => k_is)
    (case a46 => k_is)
    (case l46 => k_is)
    (case c46 => k_is)
    (case k46 => k_is)
    (case a47 => k_is)
    (case l47 => k_is)
    (case c47 => k_is)
    (case k47 => k_is)
    (case a48 => k_is)
    (case l48 => k_is)
    (case c48 => k_is)
    (case k48 => k_is)
    (case a49 => k_is)
    (case l49 => k_is)
    (case c49 => k_is)
    (case k49 => k_is)
    (case pg_Coded => k_is)
    (case hd_Coded => k_is)
    (case po_Coded => k_is)
    (case sa_Coded => k_is)
    (case mk_Coded => k_is)
    (case kc_Coded => k_is)
    (case na__hidden => k_is)
    (case na__deeds => k_is)
    (case na__prime => k_is)
    (case na__asks => k_is)
    (case pg_Machine => k_is)
    (case hd_Machine => k_is)
    (case po_Machine => k_is)
    (case sa_Machine => k_is)
    (case mk_Machine => k_is)
    (case kc_Machine => k_is)
    (case na_known => k_is)
    (case na_many => k_is)
    (case na_p => k_is)
    (case pg_CodeReader => k_is)
    (case hd_CodeReader => k_is)
    (case po_CodeReader => k_is)
    (case sa_CodeReader => k_is)
    (case mk_CodeReader => k_is)
    (case kc_CodeReader => k_is)
    (case na_CodeReader_p => k_is)
    (case na_cells => k_is)
    (case na_heads => k_is)
    (case na_codes => k_is)
    (case na_within => k_is)
    (case z_abs => k_is)
    (case z_all => k_is)
    (case z_bool => k_is)
    (case z_enumerate => k_is)
    (case z_int => k_is)
    (case z_isinstance => k_is)
    (case z_len => k_is)
    (case z_list => k_is)
    (case z_range => k_is)
    (case z_set => k_is)
    (case z_sorted => k_is)
    (case z_str => k_is)
    (case z_tuple => k_is)
    (case z_zip => k_is)
    (case y_FIGURES => k_is)
    (case y_HIGHEST_PRIME => k_is)
    (case y_LETTERS => k_is)
    (case y_LONGEST_NAME => k_is)
    (case y_MOST_CODE => k_is)
    (case y_MOST_DEEDS => k_is)
    (case y_MOST_FIGURES => k_is)
    (case y_MOST_NUMBERS => k_is)
    (case y_MOST_WAYS => k_is)
    (case y_PRIME => k_is)
    (case y_PRIME_FIGURES => k_is)
    (case fct_rg_REGISTERS => (refine' Z.ktup_mk ?ka ?kb ?kc; (case ka => k_is); (case kb => decide +kernel); (case kc => exact (.cons ⟨_, rfl⟩ (.cons ⟨_, rfl⟩ (.cons ⟨_, rfl⟩ (.cons ⟨_, rfl⟩ (.cons ⟨_, rfl⟩ (.cons ⟨_, rfl⟩ (.cons ⟨_, rfl⟩ (.cons ⟨_, rfl⟩ .nil)))))))))))
    (case fct_ce_CELLS => (refine' Z.ktup_mk ?ka ?kb ?kc; (case ka => k_is); (case kb => decide +kernel); (case kc => exact (.cons ⟨_, rfl⟩ (.cons ⟨_, rfl⟩ (.cons ⟨_, rfl⟩ .nil))))))
    (case fct_sh_SHAPES => (refine' Z.shp_mk ?ka ?kb ?kc ?e1 ?e2 ?e3 ?e4 ?e5 ?e6 ?e7 ?e8 ?e9 ?e10 ?e11 ?e12 ?e13; (case ka => k_is); (case kb => exact ⟨⟨_, _, rfl, rfl⟩, ⟨⟨_, _, rfl, rfl⟩, ⟨⟨_, _, rfl, rfl⟩, ⟨⟨_, _, rfl, rfl⟩, ⟨⟨_, _, rfl, rfl⟩, ⟨⟨_, _, rfl, rfl⟩, ⟨⟨_, _, rfl, rfl⟩, ⟨⟨_, _, rfl, rfl⟩, ⟨⟨_, _, rfl, rfl⟩, ⟨⟨_, _, rfl, rfl⟩, ⟨⟨_, _, rfl, rfl⟩, ⟨⟨_, _, rfl, rfl⟩, ⟨⟨_, _, rfl, rfl⟩, True.intro⟩⟩⟩⟩⟩⟩⟩⟩⟩⟩⟩⟩⟩); (case kc => decide +kernel); (case e1 => k_is); (case e2 => k_is); (case e3 => k_is); (case e4 => k_is); (case e5 => k_is); (case e6 => k_is); (case e7 => k_is); (case e8 => k_is); (case e9 => k_is); (case e10 => k_is); (case e11 => k_is); (case e12 => k_is); (case e13 => k_is)))
    (case fct_oc_Coded => first | k_is | rfl)
    (case fct_gd_object => first | k_is | rfl)
    (case fct_td_object => first | k_is | rfl)
    (case fct_mo_Coded => first | k_is | rfl)
    (case fct_ne_Coded => first | k_is | rfl)
    (case fct_ic_Coded => first | k_is | rfl)
    (case fct_tc_Coded => first | k_is | rfl)
