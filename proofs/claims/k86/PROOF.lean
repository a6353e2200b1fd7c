import PyProof.Rows.All
import Wide.All
import OpenK.AllK
import Wide.FinOn
import HandS.ForMost
import HandS.Wide
import HandS.Zip
import HandS.Walk
import HandS.IsInst
import HandS.TupAny
import HandS.Style
import HandS.SortOrd
import HandS.Remove
import KE.DataFind
import KE.GoesEnum
import HandS.TupMul
import HandS.Codes
import HandS.Conv
import HandS.DictComp
import HandS.DictTup
import HandS.FStr
import HandS.More
import HandS.Small
import HandS.Sort
import HandS.SortRule
import HandS.Star
import HandS.StrMore
import HandS.Text
import HandS.TupLe
import KE.KDictDisplayH
import KE.KEqDict
import PyProof.NeKinds
import PyProof.StrOps2
import HandS.ExcInit
import HandS.ExcField
import HandS.ExcValue
import HandS.ExcIs
import HandS.ExcOwn
import HandS.TryOnly
import HandS.WordsExc
import KE.KExcIs
import PySem.Challenge.RW_onetrace_k86_texts_of_no_paper
set_option Elab.async false
set_option linter.all false
set_option maxRecDepth 100000
set_option maxHeartbeats 4000000
namespace Z
open PySem PySem.Spec PyProof.Rows L2 RZ
/-- a def that is called: where it stands, what it promises -/
structure Cal (P : Program) (w : World) (K : PySem.W.Frag) (mg : Str → Option Value) (base : Heap) (x : Str) (k : Nat) (ps : List Str) (sp : Sp) (st : Stmt) (f : Addr) (fd : FuncData) : Prop where
  ok : FnOk P w K mg base CX0 k f fd ps sp
  at_ : mg x = some (.ref f)
  kp : PySem.W.keepIn K (.ref f) = true
  b : Binds K fd ps []
  fn : Fun K x x st f fd
/-- a def as it stands behind the top -/
structure Here (K : PySem.W.Frag) (mg : Str → Option Value) (x : Str) (st : Stmt) (ps : List Str) (f : Addr) (fd : FuncData) : Prop where
  fn : Fun K x x st f fd
  at_ : mg x = some (.ref f)
  b : Binds K fd ps []
section
variable {P : Program} {w : World} {K : PySem.W.Frag} {mg : Str → Option Value} {base : Heap}
theorem Here.cal {x : Str} {st : Stmt} {ps N : List Str} {f : Addr} {fd : FuncData} {k : Nat} {sp : Sp} (F : Here K mg x st ps f fd) (S : FnScope N ps (defScope st)) (len : ∀ vs H Q E, sp vs H Q E → vs.length = ps.length)
    (hbody : ∀ (cdv : Value) (A : Around) (outer : List Env) (s : Shared) (H : Hp) (vs : List V) (Q : VK) (E : XK), Room k (A.deeper (envOfC x (defScope st) s.heap.objs.size f cdv)) → sp vs H Q E →
      ∃ t, PSs (cxOf CX0 P w K mg base N x (defScope st) f cdv A outer s H E).nox (defBody st) t ∧ t { nx := fun _ H' => Q .non H', rt := Q } (L2.start N vs) H) : Cal P w K mg base x (k + 1) ps sp st f fd :=
  ⟨F.fn.ok S len hbody, F.at_, F.fn.kp, F.b, F.fn⟩
end
/-! readings, rule by rule -/
def rLen (K : PySem.W.Frag) : List V → Hp → VK → Prop := fun xs H Q => ∃ p ys, xs = [.ref p] ∧ (SqL K H p ys ∨ SqT K H p ys) ∧ Q (.int ys.length) H
theorem cr_len {X : Cx} : CallR X (.builtin "len") (rLen X.K) := call_len_seq
theorem r_app0 {l : Addr} {xs : List V} {y : V} {H : Hp} {Q : VK} (h : H l = some (.lst xs)) (z : xs.length < sizeLine) (q : Q .non (upd H l (.lst (xs ++ [y])))) : rAppend (.ref l) [y] H Q := ⟨l, xs, y, rfl, rfl, h, z, q⟩
theorem r_ty {K : PySem.W.Frag} {l : Addr} {xs : List V} {H : Hp} {A : Prop} (h : H l = some (.lst xs)) (q : A) : tyV K "list" (.ref l) H ∧ A := ⟨.inl ⟨rfl, _, .inl (.inl h)⟩, q⟩
theorem r_all {K : PySem.W.Frag} {a : Addr} {bs : List Bool} {H : Hp} {Q : VK} (h : SqL K H a (bs.map V.bl)) (q : Q (.bl (bs.all id)) H) : rAll K [.ref a] H Q := ⟨a, bs, rfl, h, q⟩
theorem r_sum {K : PySem.W.Frag} {a : Addr} {ns : List Int} {H : Hp} {Q : VK} (h : SqL K H a (ns.map V.int)) (q : Q (.int ns.sum) H) : rSum K [.ref a] H Q := ⟨a, ns, rfl, h, q⟩
theorem r_isi {K : PySem.W.Frag} {x c : V} {t u : Value} {b : Bool} {H : Hp} {Q : VK} (h1 : ClsV c u) (h2 : TyX K H x t) (h3 : PySem.W.kitOne K t u = some b) (q : Q (.bl b) H) : rIsi K [x, c] H Q := ⟨x, c, t, u, b, rfl, h1, h2, h3, q⟩
def rAbs : List V → Hp → VK → Prop := fun xs H Q => ∃ i, xs = [.int i] ∧ Q (.int (if i < 0 then -i else i)) H
theorem cr_abs {X : Cx} : CallR X (.builtin "abs") rAbs := call_abs
def rListOf (K : PySem.W.Frag) : List V → Hp → VK → Prop := fun xs H Q => ∃ p ys, xs = [.ref p] ∧ (SqL K H p ys ∨ SqT K H p ys) ∧ ∀ l, H l = none → Q (.ref l) (upd H l (.lst ys))
theorem cr_listOf {X : Cx} : CallR X (.type "list") (rListOf X.K) := call_list_of
def rTupOf (K : PySem.W.Frag) : List V → Hp → VK → Prop := fun xs H Q => ∃ p ys, xs = [.ref p] ∧ ((SqL K H p ys ∧ ∀ l, H l = none → Q (.ref l) (upd H l (.tup ys))) ∨ (SqT K H p ys ∧ Q (.ref p) H))
theorem cr_tupOf {X : Cx} : CallR X (.type "tuple") (rTupOf X.K) := call_tuple_of
section
variable {K : PySem.W.Frag} {D : Ends} {σ : L2.St} {H : Hp} {Q : VK}
theorem r_seq {t u : TS} (h : t { D with nx := u D } σ H) : tSeq t u D σ H := h
theorem r_asg {te : TE} {g : TG} (h : te σ H fun x H1 => g x σ H1 D.nx) : tAsg te g D σ H := h
theorem r_gname {i : Nat} {v : V} {N : L2.St → Hp → Prop} (h : N (σ.set i (some v)) H) : gName i v σ H N := h
theorem r_var {i : Nat} {v : V} (e : σ[i]? = some (some v)) (h : Q v H) : tVar i σ H Q := ⟨v, e, h⟩
theorem r_c {v : V} (h : Q v H) : tC v σ H Q := h
theorem r_op {r : R2} {ta tb : TE} (h : ta σ H fun x H1 => tb σ H1 fun y H2 => r x y H2 Q) : tOp r ta tb σ H Q := h
theorem r_i0 {g : Int → Int → V} {i j : Int} (h : Q (g i j) H) : rI0 g (.int i) (.int j) H Q := ⟨i, j, rfl, rfl, h⟩
theorem r_i {C : Int → Int → Prop} {g : Int → Int → V} {i j : Int} (c : C i j) (h : Q (g i j) H) : rI C g (.int i) (.int j) H Q := ⟨i, j, rfl, rfl, c, h⟩
theorem r_ixl {p : Addr} {xs : List V} {i : Int} {v : V} (h : SqL K H p xs) (e : atI xs i = some v) (q : Q v H) : rIxL K (.ref p) (.int i) H Q := ⟨p, xs, i, v, rfl, rfl, h, e, q⟩
theorem r_ixt {p : Addr} {xs : List V} {i : Int} {v : V} (h : SqT K H p xs) (e : atI xs i = some v) (q : Q v H) : rIxT K (.ref p) (.int i) H Q := ⟨p, xs, i, v, rfl, rfl, h, e, q⟩
theorem r_cb {r : List V → Hp → VK → Prop} {t : TA} (h : t σ H fun vs H1 => r vs H1 Q) : tCB r t σ H Q := h
theorem r_cons {ta : TE} {tr : TA} {R : List V → Hp → Prop} (h : ta σ H fun x H1 => tr σ H1 fun xs H2 => R (x :: xs) H2) : tCons ta tr σ H R := h
theorem r_nil {R : List V → Hp → Prop} (h : R [] H) : tNil σ H R := h
theorem r_len {p : Addr} {ys : List V} (h : SqL K H p ys) (q : Q (.int ys.length) H) : rLen K [.ref p] H Q := ⟨p, ys, rfl, .inl h, q⟩
theorem r_lent {p : Addr} {ys : List V} (h : SqT K H p ys) (q : Q (.int ys.length) H) : rLen K [.ref p] H Q := ⟨p, ys, rfl, .inr h, q⟩
theorem r_abs {i : Int} (q : Q (.int (if i < 0 then -i else i)) H) : rAbs [.int i] H Q := ⟨i, rfl, q⟩
theorem r_listl {p : Addr} {ys : List V} (h : SqL K H p ys) (q : ∀ l, H l = none → Q (.ref l) (upd H l (.lst ys))) : rListOf K [.ref p] H Q := ⟨p, ys, rfl, .inl h, q⟩
theorem r_listt {p : Addr} {ys : List V} (h : SqT K H p ys) (q : ∀ l, H l = none → Q (.ref l) (upd H l (.lst ys))) : rListOf K [.ref p] H Q := ⟨p, ys, rfl, .inr h, q⟩
theorem r_tupl {p : Addr} {ys : List V} (h : SqL K H p ys) (q : ∀ l, H l = none → Q (.ref l) (upd H l (.tup ys))) : rTupOf K [.ref p] H Q := ⟨p, ys, rfl, .inl ⟨h, q⟩⟩
theorem r_tupt {p : Addr} {ys : List V} (h : SqT K H p ys) (q : Q (.ref p) H) : rTupOf K [.ref p] H Q := ⟨p, ys, rfl, .inr ⟨h, q⟩⟩
theorem r_if {c : TT} {t u : TS} (h : c σ H fun b H1 => if b = true then t D σ H1 else u D σ H1) : tIfS c t u D σ H := h
theorem r_ife {c : TT} {t u : TE} (h : c σ H fun b H1 => if b = true then t σ H1 Q else u σ H1 Q) : tIf c t u σ H Q := h
theorem r_test {te : TE} {R : Bool → Hp → Prop} (h : te σ H fun x H' => ∃ k, x = .bl k ∧ R k H') : tTest te σ H R := h
theorem r_bl {b : Bool} {R : Bool → Prop} (h : R b) : ∃ k, V.bl b = .bl k ∧ R k := ⟨b, rfl, h⟩
theorem r_ite {p : Prop} {inst : Decidable p} {A B : Prop} (h1 : p → A) (h2 : ¬p → B) : if decide p = true then A else B := by
  by_cases h : p
  · rw [if_pos (decide_eq_true h)]; exact h1 h
  · rw [if_neg (by simpa using h)]; exact h2 h
theorem r_tand {t u : TT} {R : Bool → Hp → Prop} (h : t σ H fun c H1 => if c = true then u σ H1 R else R false H1) : tAnd t u σ H R := h
theorem r_tor {t u : TT} {R : Bool → Hp → Prop} (h : t σ H fun c H1 => if c = true then R true H1 else u σ H1 R) : tOr t u σ H R := h
theorem r_tnot {t : TT} {R : Bool → Hp → Prop} (h : t σ H fun c H1 => R (!c) H1) : tNot t σ H R := h
theorem r_andv {ta tb : TE} (h : ta σ H fun x H1 => ∃ c, x = .bl c ∧ if c = true then tb σ H1 Q else Q (.bl false) H1) : tAndV ta tb σ H Q := h
theorem r_orv {ta tb : TE} (h : ta σ H fun x H1 => ∃ c, x = .bl c ∧ if c = true then Q (.bl true) H1 else tb σ H1 Q) : tOrV ta tb σ H Q := h
theorem r_notv {ta : TE} (h : ta σ H fun x H1 => ∃ c, x = .bl c ∧ Q (.bl (!c)) H1) : tNotV ta σ H Q := h
theorem r_chain {r r' : R2} {ta tb tc : TE} (h : ta σ H fun x H1 => tb σ H1 fun y H2 => r x y H2 fun z H3 => ∃ k, z = .bl k ∧ (if k = true then tc σ H3 fun w' H4 => r' y w' H4 Q else Q (.bl false) H3)) : tChain r r' ta tb tc σ H Q := h
theorem r_t {A B : Prop} (h : A) : if true = true then A else B := by rw [if_pos rfl]; exact h
theorem r_f {A B : Prop} (h : B) : if false = true then A else B := by rw [if_neg (by decide)]; exact h
theorem r_nt {A B : Prop} (h : B) : if (!true) = true then A else B := by rw [if_neg (by decide)]; exact h
theorem r_nf {A B : Prop} (h : A) : if (!false) = true then A else B := by rw [if_pos (by decide)]; exact h
theorem r_bm {T : String} {r : V → List V → Hp → VK → Prop} {to : TE} {t : TA} (h : to σ H fun x H1 => tyV K T x H1 ∧ t σ H1 fun xs H2 => r x xs H2 Q) : tBM K T r to t σ H Q := h
theorem r_sl {r : V → Option Int → Option Int → Hp → VK → Prop} {te : TE} {tl th : TO} (h : te σ H fun x H1 => tl σ H1 fun l H2 => th σ H2 fun u H3 => r x l u H3 Q) : tSl r te tl th σ H Q := h
theorem r_sll {a : Addr} {xs : List V} {lo hi : Option Int} (h : SqL K H a xs) (q : ∀ p, H p = none → Q (.ref p) (upd H p (.lst (cutV xs lo hi)))) : rSlL K (.ref a) lo hi H Q := ⟨a, xs, rfl, h, q⟩
theorem r_nopart {R : Option Int → Hp → Prop} (h : R none H) : tNoPart σ H R := h
theorem r_part {te : TE} {R : Option Int → Hp → Prop} (h : te σ H fun x H1 => ∃ i, x = .int i ∧ R (some i) H1) : tPart te σ H R := h
theorem r_parti {i : Int} {R : Int → Prop} (h : R i) : ∃ j, V.int i = .int j ∧ R j := ⟨i, rfl, h⟩
theorem r_yes {R : Bool → Hp → Prop} (h : R true H) : tYes σ H R := h
theorem r_sz {xs : List V} {B : Prop} (e : Nat.ble xs.length 1000 = true) (h : B) : xs.length ≤ sizeLine ∧ B := ⟨Nat.le_trans (Nat.le_of_ble_eq_true e) (by decide), h⟩
theorem r_iteB {b : Bool} {A B : Prop} (h1 : b = true → A) (h2 : b = false → B) : if b = true then A else B := by
  cases b with
  | true => rw [if_pos rfl]; exact h1 rfl
  | false => rw [if_neg (by decide)]; exact h2 rfl
theorem r_tb {t : TE} {R : Bool → Hp → Prop} (h : t σ H fun x H1 => ∃ c, x = .bl c ∧ R c H1) : tB t σ H R := h
theorem r_un {r : V → Hp → VK → Prop} {ta : TE} (h : ta σ H fun x H1 => r x H1 Q) : tUn r ta σ H Q := h
theorem r_u {g : Int → V} {i : Int} (h : Q (g i) H) : rU g (.int i) H Q := ⟨i, rfl, h⟩
theorem r_ret {te : TE} (h : te σ H D.rt) : tRet te D σ H := h
theorem r_gsub {to ti : TE} {t : TSet} {v : V} {N : L2.St → Hp → Prop} (h : to σ H fun o H1 => ti σ H1 fun i H2 => t o i v H2 fun H3 => N σ H3) : gSub to ti t v σ H N := h
theorem r_setl {p : Addr} {xs : List V} {k : Int} {j : Nat} {v : V} {R : Hp → Prop} (h : H p = some (.lst xs)) (e : ixN xs.length k = some j) (q : R (upd H p (.lst (xs.set j v)))) : rSetL (.ref p) (.int k) v H R := ⟨p, xs, k, j, rfl, rfl, h, e, q⟩
theorem r_next (h : D.nx σ H) : tNext D σ H := h
theorem r_call {sp : Sp} {dvs : List V} {E : XK} {t : TA} (h : t σ H fun vs H1 => sp (vs ++ dvs) H1 Q E) : tCall sp dvs E t σ H Q := h
theorem r_lst {t : TA} (h : t σ H fun xs H1 => xs.length ≤ sizeLine ∧ ∀ p, H1 p = none → Q (.ref p) (upd H1 p (.lst xs))) : tLst t σ H Q := h
theorem r_tup {t : TA} (h : t σ H fun xs H1 => xs.length ≤ sizeLine ∧ ∀ p, H1 p = none → Q (.ref p) (upd H1 p (.tup xs))) : tTup t σ H Q := h
theorem r_drop {te : TE} (h : te σ H fun _ H1 => D.nx σ H1) : tDrop te D σ H := h
theorem r_eq {x y : V} (s : scal x y = true) (q : Q (.bl (decide (x = y))) H) : rEq x y H Q := ⟨s, q⟩
theorem r_ne {x y : V} (s : scal x y = true) (q : Q (.bl (!decide (x = y))) H) : rNe x y H Q := ⟨s, q⟩
theorem hl_new {H : Hp} {a b : Addr} {o u : HO} (h : H a = some o) (n : H b = none) : upd H b u a = some o := (upd_ne (ne_of_none h n)).trans h
theorem hl_set {H : Hp} {a b : Addr} {o u : HO} (n : a ≠ b) (h : H a = some o) : upd H b u a = some o := (upd_ne n).trans h
end

/-! ### what stands at an address, over the heaps -/
def Kp (S : List Addr) (H H' : Hp) : Prop := ∀ b o, H b = some o → b ∉ S → H' b = some o
theorem Kp.refl {S : List Addr} {H : Hp} : Kp S H H := fun _ _ h _ => h
theorem Kp.trans {S : List Addr} {H H1 H2 : Hp} (a : Kp S H H1) (b : Kp S H1 H2) : Kp S H H2 := fun x o h n => b x o (a x o h n) n
theorem Kp.new {S : List Addr} {H : Hp} {p : Addr} {x : HO} (n : H p = none) : Kp S H (upd H p x) := fun b o h _ => hl_new h n
theorem Kp.set {S : List Addr} {H : Hp} {p : Addr} {x : HO} (m : p ∈ S) : Kp S H (upd H p x) := fun b o h n => hl_set (fun e => n (e ▸ m)) h
/-- a thing made since H is changed -/
theorem Kp.own {S : List Addr} {H H1 : Hp} {p : Addr} {x : HO} (k : Kp S H H1) (n : H p = none) : Kp S H (upd H1 p x) := fun b o h m => hl_set (ne_of_none h n) (k b o h m)
theorem Kp.sub {S S' : List Addr} {H H' : Hp} (k : Kp S H H') (m : ∀ a ∈ S, a ∈ S') : Kp S' H H' := fun b o h n => k b o h fun z => n (m b z)
theorem Kp.ofSame {S : List Addr} {H H' : Hp} (k : Same H H') : Kp S H H' := fun b o h _ => k b o h
theorem Kp.nil {H H' : Hp} (k : Kp [] H H') : Same H H' := fun b o h => k b o h (by simp)
theorem Kp.free {S : List Addr} {H H' : Hp} (k : Kp S H H') {p : Addr} (n : H' p = none) (m : p ∉ S) : H p = none := by
  cases q : H p with
  | none => rfl
  | some o => rw [k p o q m] at n; cases n
theorem Same.upd_new {H : Hp} {p : Addr} {x : HO} (n : H p = none) : Same H (upd H p x) := fun b o h => hl_new h n
theorem hl_kp {S : List Addr} {H H' : Hp} {a : Addr} {o : HO} (k : Kp S H H') (n : a ∉ S) (h : H a = some o) : H' a = some o := k _ _ h n
theorem hl_same {H H' : Hp} {a : Addr} {o : HO} (k : Same H H') (h : H a = some o) : H' a = some o := k _ _ h
/-- every object outside S stands, outside S' -/
def Lft (S : List Addr) (H : Hp) (S' : List Addr) (H' : Hp) : Prop := ∀ a o, H a = some o → a ∉ S → H' a = some o ∧ a ∉ S'
theorem Lft.refl {S : List Addr} {H : Hp} : Lft S H S H := fun _ _ h n => ⟨h, n⟩
theorem Lft.trans {S S1 S2 : List Addr} {H H1 H2 : Hp} (a : Lft S H S1 H1) (b : Lft S1 H1 S2 H2) : Lft S H S2 H2 := fun x o h n => b x o (a x o h n).1 (a x o h n).2
theorem Lft.new {S : List Addr} {H : Hp} {p : Addr} {x : HO} (n : H p = none) : Lft S H S (upd H p x) := fun _ _ h m => ⟨hl_new h n, m⟩
theorem Lft.set {S : List Addr} {H : Hp} {p : Addr} {x : HO} (m : p ∈ S) : Lft S H S (upd H p x) := fun _ _ h n => ⟨hl_set (fun e => n (e ▸ m)) h, n⟩
theorem Lft.kp {S S1 : List Addr} {H H1 : Hp} (k : Kp S H H1) (m : ∀ a ∈ S, a ∈ S1) : Lft S1 H S1 H1 := fun b o h n => ⟨k b o h fun z => n (m b z), n⟩
theorem Lft.same {S : List Addr} {H H1 : Hp} (k : Same H H1) : Lft S H S H1 := fun b o h n => ⟨k b o h, n⟩
theorem Lft.own {S : List Addr} {H : Hp} {p : Addr} {x : HO} (n : H p = none) : Lft S H (p :: S) (upd H p x) := fun a _ h m => ⟨hl_new h n, fun z => by
  rcases List.mem_cons.mp z with e | e
  · exact ne_of_none h n e
  · exact m e⟩
theorem Lft.sub {S S' : List Addr} {H : Hp} (m : ∀ a ∈ S', a ∈ S) : Lft S H S' H := fun a _ h n => ⟨h, fun z => n (m a z)⟩
/-- plain data -/
inductive O where
  | non | bl (b : Bool) | int (i : Int) | str (x : Str) | tup (os : List O) | lst (os : List O) | dct
mutual
inductive Rep (S : List Addr) (H : Hp) : V → O → Prop
  | non : Rep S H .non .non
  | bl (b : Bool) : Rep S H (.bl b) (.bl b)
  | int (i : Int) : Rep S H (.int i) (.int i)
  | str (x : Str) : Rep S H (.str x) (.str x)
  | tup {a : Addr} {xs : List V} {os : List O} : H a = some (.tup xs) → a ∉ S → RepAll S H xs os → Rep S H (.ref a) (.tup os)
  | lst {a : Addr} {xs : List V} {os : List O} : H a = some (.lst xs) → a ∉ S → RepAll S H xs os → Rep S H (.ref a) (.lst os)
  | dct {a : Addr} {kvs : List (Key × V)} : H a = some (.dK kvs) → a ∉ S → Rep S H (.ref a) .dct
inductive RepAll (S : List Addr) (H : Hp) : List V → List O → Prop
  | nil : RepAll S H [] []
  | cons {v : V} {vs : List V} {o : O} {os : List O} : Rep S H v o → RepAll S H vs os → RepAll S H (v :: vs) (o :: os)
end
mutual
theorem Rep.to {S S' : List Addr} {H H' : Hp} (k : Lft S H S' H') : ∀ {v : V} {o : O}, Rep S H v o → Rep S' H' v o
  | _, _, .non => .non
  | _, _, .bl b => .bl b
  | _, _, .int i => .int i
  | _, _, .str x => .str x
  | _, _, .tup h n r => .tup (k _ _ h n).1 (k _ _ h n).2 (RepAll.to k r)
  | _, _, .lst h n r => .lst (k _ _ h n).1 (k _ _ h n).2 (RepAll.to k r)
  | _, _, .dct h n => .dct (k _ _ h n).1 (k _ _ h n).2
theorem RepAll.to {S S' : List Addr} {H H' : Hp} (k : Lft S H S' H') : ∀ {vs : List V} {os : List O}, RepAll S H vs os → RepAll S' H' vs os
  | _, _, .nil => .nil
  | _, _, .cons r t => .cons (Rep.to k r) (RepAll.to k t)
end
section
variable {S : List Addr} {H : Hp}
theorem RepAll.length : ∀ {vs : List V} {os : List O}, RepAll S H vs os → vs.length = os.length
  | _, _, .nil => rfl
  | _, _, .cons _ t => congrArg (· + 1) (RepAll.length t)
theorem RepAll.get : ∀ {vs : List V} {os : List O} {i : Nat} {v : V}, RepAll S H vs os → vs[i]? = some v → ∃ o, os[i]? = some o ∧ Rep S H v o
  | _, _, _, _, .nil, e => by simp at e
  | _, _, 0, _, .cons r _, e => by simp at e; subst e; exact ⟨_, rfl, r⟩
  | _, _, i + 1, v, .cons _ t, e => by
    obtain ⟨o, h1, h2⟩ := RepAll.get (i := i) (v := v) t (by simpa using e)
    exact ⟨o, by simpa using h1, h2⟩
theorem RepAll.append : ∀ {vs us : List V} {os qs : List O}, RepAll S H vs os → RepAll S H us qs → RepAll S H (vs ++ us) (os ++ qs)
  | _, _, _, _, .nil, s => s
  | _, _, _, _, .cons r t, s => .cons r (RepAll.append t s)
theorem RepAll.take : ∀ {vs : List V} {os : List O} (n : Nat), RepAll S H vs os → RepAll S H (vs.take n) (os.take n)
  | _, _, 0, _ => .nil
  | _, _, _ + 1, .nil => .nil
  | _, _, n + 1, .cons r t => .cons r (RepAll.take n t)
theorem RepAll.drop : ∀ {vs : List V} {os : List O} (n : Nat), RepAll S H vs os → RepAll S H (vs.drop n) (os.drop n)
  | _, _, 0, r => r
  | _, _, _ + 1, .nil => .nil
  | _, _, n + 1, .cons _ t => RepAll.drop n t
theorem RepAll.ints : ∀ (ns : List Int), RepAll S H (ns.map V.int) (ns.map O.int)
  | [] => .nil
  | n :: ns => .cons (.int n) (RepAll.ints ns)
theorem RepAll.ints_inv : ∀ {ns : List Int} {vs : List V}, RepAll S H vs (ns.map O.int) → vs = ns.map V.int
  | [], _, .nil => rfl
  | n :: ns, _, .cons r t => by cases r; rw [RepAll.ints_inv t]; rfl
theorem Rep.tupInv {v : V} {os : List O} (r : Rep S H v (.tup os)) : ∃ a xs, v = .ref a ∧ H a = some (.tup xs) ∧ a ∉ S ∧ RepAll S H xs os := by
  cases r with
  | tup h n t => exact ⟨_, _, rfl, h, n, t⟩
end
/-! ### the drawn state -/
structure StAt (s c : Addr) (H : Hp) (cs : List Int) (j r : Int) : Prop where
  hs : H s = some (.lst [.ref c, .int j, .int r])
  hc : H c = some (.lst (cs.map .int))
  ne : cs ≠ []
  nn : ∀ x ∈ cs, 0 ≤ x
  len : cs.length ≤ 1000
  hj : 0 ≤ j
  hr : 0 ≤ r
  hr' : r < 2147483647
def St (s c : Addr) (H : Hp) : Prop := s ≠ c ∧ ∃ cs j r, StAt s c H cs j r
theorem St.out {s c p : Addr} {H : Hp} (h : St s c H) (n : H p = none) : p ∉ [s, c] := by
  obtain ⟨_, cs, j, r, h⟩ := h
  intro z
  rcases List.mem_cons.mp z with e | z
  · rw [e, h.hs] at n; cases n
  · rw [List.mem_singleton.mp z, h.hc] at n; cases n
theorem St.same {s c : Addr} {H H' : Hp} (h : St s c H) (k : Same H H') : St s c H' := by
  obtain ⟨n, cs, j, r, h⟩ := h
  exact ⟨n, cs, j, r, k _ _ h.hs, k _ _ h.hc, h.ne, h.nn, h.len, h.hj, h.hr, h.hr'⟩
theorem St.new {s c p : Addr} {H : Hp} {x : HO} (h : St s c H) (n : H p = none) : St s c (upd H p x) := h.same (Same.upd_new n)
theorem St.set {s c p : Addr} {H : Hp} {x : HO} (h : St s c H) (n : p ∉ [s, c]) : St s c (upd H p x) := by
  obtain ⟨n0, cs, j, r, h⟩ := h
  exact ⟨n0, cs, j, r, hl_set (fun e => n (by simp [e])) h.hs, hl_set (fun e => n (by simp [e])) h.hc, h.ne, h.nn, h.len, h.hj, h.hr, h.hr'⟩
/-! ### loops and comprehensions -/
section
variable {K : PySem.W.Frag} {D : Ends} {σ : L2.St} {H : Hp} {Q : VK}
def Lp (J : It) (g : TG) (tb : TS) (D : Ends) (σ : L2.St) (H1 : Hp) : Prop := ∃ W : Nat → Nat → L2.St → Hp → Prop, (∃ m, W 0 m σ H1) ∧ ∀ i m σ H, W i m σ H →
  (J.stop i H ∧ D.nx σ H) ∨ (J.go i H ∧ ∃ N : L2.St → Hp → Prop, (∀ σ' H', N σ' H' → ∃ m', m' < m ∧ W (i + 1) m' σ' H') ∧ ∀ x H', J.yld i H x H' → g x σ H' fun σ2 H2 => tb { D with nx := N, ct := N, bk := D.nx } σ2 H2)
theorem r_for {wi : TI} {g : TG} {tb : TS} (h : wi σ H fun J H1 => Lp J g tb D σ H1) : tFor wi g tb D σ H := h
def Rg1 (R : It → Hp → Prop) (vs : List V) (H : Hp) : Prop := ∃ j : Int, vs = [.int j] ∧ -(2 ^ 62) ≤ j ∧ j < 2 ^ 62 ∧ R (Itr 0 j.toNat) H
theorem r_irng1 {ta : TA} {R : It → Hp → Prop} (h : ta σ H (Rg1 R)) : iRng1 ta σ H R := h
theorem r_rg1 {R : It → Hp → Prop} {j : Int} (c : -(2 ^ 62) ≤ j ∧ j < 2 ^ 62) (h : R (Itr 0 j.toNat) H) : Rg1 R [.int j] H := ⟨j, rfl, c.1, c.2, h⟩
def Rg2 (R : It → Hp → Prop) (vs : List V) (H : Hp) : Prop := ∃ i j : Int, vs = [.int i, .int j] ∧ (-(2 ^ 62) ≤ i ∧ i < 2 ^ 62 ∧ -(2 ^ 62) ≤ j ∧ j < 2 ^ 62) ∧ R (Itr i (j - i).toNat) H
theorem r_irng2 {ta : TA} {R : It → Hp → Prop} (h : ta σ H (Rg2 R)) : iRng2 ta σ H R := h
theorem r_rg2 {R : It → Hp → Prop} {i j : Int} (c : -(2 ^ 62) ≤ i ∧ i < 2 ^ 62 ∧ -(2 ^ 62) ≤ j ∧ j < 2 ^ 62) (h : R (Itr i (j - i).toNat) H) : Rg2 R [.int i, .int j] H := ⟨i, j, rfl, c, h⟩
def IlR (K : PySem.W.Frag) (R : It → Hp → Prop) (x : V) (H : Hp) : Prop := ∃ a, x = .ref a ∧ (∃ xs, SqL K H a xs) ∧ R (Itl K a) H
theorem r_ilist {tl : TE} {R : It → Hp → Prop} (h : tl σ H (IlR K R)) : iList K tl σ H R := h
theorem r_il {R : It → Hp → Prop} {a : Addr} {xs : List V} (e : SqL K H a xs) (h : R (Itl K a) H) : IlR K R (.ref a) H := ⟨a, rfl, ⟨xs, e⟩, h⟩
def ItR (K : PySem.W.Frag) (R : It → Hp → Prop) (x : V) (H : Hp) : Prop := ∃ a, x = .ref a ∧ (∃ xs, SqT K H a xs) ∧ R (Itt K a) H
theorem r_itup {tl : TE} {R : It → Hp → Prop} (h : tl σ H (ItR K R)) : iTup K tl σ H R := h
theorem r_it {R : It → Hp → Prop} {a : Addr} {xs : List V} (e : SqT K H a xs) (h : R (Itt K a) H) : ItR K R (.ref a) H := ⟨a, rfl, ⟨xs, e⟩, h⟩
def IzR (K : PySem.W.Frag) (R : It → Hp → Prop) (vs : List V) (H1 : Hp) : Prop := ∃ a b xs ys, vs = [.ref a, .ref b] ∧ ((SqL K H1 a xs ∧ SqL K H1 b ys ∧ R (Itz K a b) H1) ∨ (SqT K H1 a xs ∧ SqT K H1 b ys ∧ R (ItzT K a b) H1))
theorem r_izip {ta : TA} {R : It → Hp → Prop} (h : ta σ H (IzR K R)) : iZipA K ta σ H R := h
theorem r_izt {R : It → Hp → Prop} {a b : Addr} {xs ys : List V} (e1 : SqT K H a xs) (e2 : SqT K H b ys) (h : R (ItzT K a b) H) : IzR K R [.ref a, .ref b] H := ⟨a, b, xs, ys, rfl, .inr ⟨e1, e2, h⟩⟩
theorem lp_by {J : It} {n : Nat} {G : Hp → Prop} {Y : Nat → Hp → V → Hp → Prop} (w : Walk J n G Y) {g : TG} {tb : TS} (Pv : Nat → L2.St → Hp → Prop) (h0 : Pv 0 σ H) (hG : ∀ i σ H, i ≤ n → Pv i σ H → G H)
    (hs : ∀ i x σ H H', i < n → Pv i σ H → Y i H x H' → g x σ H' fun σ2 H2 => tb { D with nx := Pv (i + 1), ct := Pv (i + 1), bk := D.nx } σ2 H2) (hd : ∀ σ H, Pv n σ H → D.nx σ H) : Lp J g tb D σ H := for_it w Pv h0 hG hs hd
/-- ways that meet: what holds of slots and heap where they do -/
theorem r_join {c : TT} {t u : TS} (G : L2.St → Hp → Prop) (h2 : ∀ σ' H', G σ' H' → D.nx σ' H') (h1 : ∀ N : L2.St → Hp → Prop, (∀ σ' H', G σ' H' → N σ' H') → tIfS c t u { D with nx := N } σ H) : tIfS c t u D σ H := h1 D.nx h2
theorem r_joinE {te : TE} (G : V → Hp → Prop) (h2 : ∀ v H', G v H' → Q v H') (h1 : ∀ Q' : VK, (∀ v H', G v H' → Q' v H') → te σ H Q') : te σ H Q := h1 Q h2
theorem r_joinT {te : TT} {R : Bool → Hp → Prop} (G : Bool → Hp → Prop) (h2 : ∀ v H', G v H' → R v H') (h1 : ∀ R' : Bool → Hp → Prop, (∀ v H', G v H' → R' v H') → te σ H R') : te σ H R := h1 R h2
theorem walk_zipT {a b : Addr} {xs ys : List V} {n : Nat} (hn : n = min xs.length ys.length) : Walk (ItzT K a b) n (fun H => SqT K H a xs ∧ SqT K H b ys) (YPair (fun i => xs[i]?) (fun i => ys[i]?)) where
  goes := fun i H hi h => ⟨xs, ys, xs[i]'(by omega), ys[i]'(by omega), h.1, h.2, List.getElem?_eq_getElem (by omega), List.getElem?_eq_getElem (by omega)⟩
  stops := fun H h => ⟨xs, ys, h.1, h.2, by omega⟩
  yields := fun i H x H' _ h y => by
    obtain ⟨T, x1, y1, e1, e2, e3, e4, e5⟩ := y
    exact ⟨T, x1, y1, e1, e2, e3, e4 xs h.1, e5 ys h.2⟩
/-- a comprehension's turns -/
def Lc (J : It) (g : TG) (tt : TT) (te : TE) (vs : List Nat) (σ : L2.St) (D : Addr) (Q : VK) (H1 : Hp) : Prop := ∃ W : Nat → Nat → Hp → Prop, (∃ m, W 0 m (upd H1 D (.lst []))) ∧ ∀ i m H, W i m H →
  (J.stop i H ∧ Q (.ref D) H) ∨ (J.go i H ∧ ∃ Nx : Hp → Prop, (∀ H', Nx H' → ∃ m', m' < m ∧ W (i + 1) m' H') ∧ ∀ x H', J.yld i H x H' → g x (wipe σ vs) H' fun σ2 H2 => wipe σ2 vs = wipe σ vs ∧ tt σ2 H2 fun b H3 =>
    if b = true then te σ2 H3 fun y H4 => ∃ acc, H4 D = some (.lst acc) ∧ acc.length < sizeLine ∧ Nx (upd H4 D (.lst (acc ++ [y]))) else Nx H3)
theorem r_lc {wi : TI} {g : TG} {tt : TT} {te : TE} {vs : List Nat} (h : wi σ H fun J H1 => ∀ D, H1 D = none → Lc J g tt te vs σ D Q H1) : tLc wi g tt te vs σ H Q := h
/-- what an item's part of a turn is to reach: kept with a value, or not kept -/
def LcT (g : TG) (tt : TT) (te : TE) (vs : List Nat) (σ : L2.St) (x : V) (H : Hp) (Y : V → Hp → Prop) (No : Hp → Prop) : Prop :=
  g x (wipe σ vs) H fun σ2 H2 => wipe σ2 vs = wipe σ vs ∧ tt σ2 H2 fun b H3 => if b = true then te σ2 H3 Y else No H3
/-- the list is made of the values kept: R i says what the i-th turn's part is -/
theorem lc_by {J : It} {n : Nat} {G : Hp → Prop} {Yd : Nat → Hp → V → Hp → Prop} (w : Walk J n G Yd) {g : TG} {tt : TT} {te : TE} {vs : List Nat} {D : Addr} (Pv : Nat → Hp → Prop) (h0 : Pv 0 (upd H D (.lst []))) (hG : ∀ i H, i ≤ n → Pv i H → G H)
    (hs : ∀ i x H H', i < n → Pv i H → Yd i H x H' → LcT g tt te vs σ x H' (fun y H4 => ∃ acc, H4 D = some (.lst acc) ∧ acc.length < sizeLine ∧ Pv (i + 1) (upd H4 D (.lst (acc ++ [y])))) (fun H3 => Pv (i + 1) H3)) (hd : ∀ H, Pv n H → Q (.ref D) H) : Lc J g tt te vs σ D Q H := by
  refine ⟨fun i m H => m = n - i ∧ i ≤ n ∧ Pv i H, ⟨n, by simp, Nat.zero_le _, h0⟩, ?_⟩
  rintro i m H ⟨rfl, hi, p⟩
  by_cases hlt : i < n
  · exact .inr ⟨w.goes i H hlt (hG i H hi p), Pv (i + 1), fun H' p' => ⟨n - (i + 1), by omega, rfl, hlt, p'⟩, fun x H' y => hs i x H H' hlt p (w.yields i H x H' hlt (hG i H hi p) y)⟩
  · have e : i = n := by omega
    subst e
    exact .inl ⟨w.stops H (hG _ H hi p), hd H p⟩
/-- every item is kept; its value is told by R, which new objects leave true; the source is left as it is -/
theorem lc_map {J : It} {n : Nat} {G : Hp → Prop} {Yd : Nat → Hp → V → Hp → Prop} (w : Walk J n G Yd) (hn : n ≤ 1000000) {g : TG} {tt : TT} {te : TE} {vs : List Nat} {D : Addr} (nD : H D = none) (R : Nat → V → Hp → Prop) (hR : ∀ i v H H', R i v H → Same H H' → R i v H')
    (hRD : ∀ i v H' acc acc', R i v H' → H' D = some (.lst acc) → R i v (upd H' D (.lst acc'))) (hG : ∀ H', Same H H' → G H') (hY : ∀ i H1 x H2, Yd i H1 x H2 → Same H1 H2)
    (hs : ∀ i x H1 H2 (Y : V → Hp → Prop) (No : Hp → Prop), i < n → Same H H1 → Yd i H1 x H2 → (∀ y H4, Same H2 H4 → R i y H4 → Y y H4) → LcT g tt te vs σ x H2 Y No)
    (hd : ∀ ys H', ys.length = n → Same H H' → H' D = some (.lst ys) → (∀ i y, ys[i]? = some y → R i y H') → Q (.ref D) H') : Lc J g tt te vs σ D Q H := by
  refine lc_by w (fun i H' => Same H H' ∧ ∃ ys : List V, ys.length = i ∧ H' D = some (.lst ys) ∧ ∀ j y, ys[j]? = some y → R j y H') ⟨Same.upd_new nD, [], rfl, upd_same, fun j y e => by simp at e⟩ (fun i H' _ p => hG H' p.1) (fun i x H1 H2 hi p y => ?_) (fun H' p => ?_)
  · obtain ⟨sm, ys, el, eD, hr⟩ := p
    have s2 := hY _ _ _ _ y
    refine hs i x H1 H2 _ _ hi sm y (fun v H4 q1 q2 => ?_)
    have s4 : Same H1 H4 := s2.trans q1
    have e4 : H4 D = some (.lst ys) := s4 _ _ eD
    refine ⟨ys, e4, by rw [el]; exact Nat.lt_of_lt_of_le (Nat.lt_of_lt_of_le hi hn) (by decide), fun b o e => ?_, ys ++ [v], by simp [el], upd_same, fun j y' e => ?_⟩
    · exact hl_set (ne_of_none e nD) (s4 _ _ (sm _ _ e))
    · by_cases hj : j < ys.length
      · rw [List.getElem?_append_left hj] at e
        exact hRD _ _ _ _ _ (hR _ _ _ _ (hr j y' e) s4) e4
      · rw [List.getElem?_append_right (by omega)] at e
        have hj2 : j - ys.length = 0 := by
          cases h : j - ys.length with
          | zero => rfl
          | succ m => rw [h] at e; simp at e
        rw [hj2] at e
        simp at e
        subst e
        have : j = i := by omega
        subst this
        exact hRD _ _ _ _ _ q2 e4
  · obtain ⟨sm, ys, el, eD, hr⟩ := p
    exact hd ys H' el sm eD hr
/-- items are kept or not: t tells which -/
theorem lc_filt {J : It} {n : Nat} {G : Hp → Prop} {Yd : Nat → Hp → V → Hp → Prop} (w : Walk J n G Yd) (hn : n ≤ 1000000) {g : TG} {tt : TT} {te : TE} {vs : List Nat} {D : Addr} (nD : H D = none) (t : Nat → Bool) (hG : ∀ H', Same H H' → G H') (hY : ∀ i H1 x H2, Yd i H1 x H2 → Same H1 H2)
    (hs : ∀ i x H1 H2 (Y : V → Hp → Prop) (No : Hp → Prop), i < n → Same H H1 → Yd i H1 x H2 → (t i = true → ∀ y H4, Same H2 H4 → Y y H4) → (t i = false → ∀ H4, Same H2 H4 → No H4) → LcT g tt te vs σ x H2 Y No)
    (hd : ∀ ys H', ys.isEmpty = (List.range n).all (fun i => !t i) → ys.length ≤ n → Same H H' → H' D = some (.lst ys) → Q (.ref D) H') : Lc J g tt te vs σ D Q H := by
  refine lc_by w (fun i H' => Same H H' ∧ ∃ ys : List V, ys.isEmpty = (List.range i).all (fun i => !t i) ∧ ys.length ≤ i ∧ H' D = some (.lst ys)) ⟨Same.upd_new nD, [], rfl, Nat.le_refl _, upd_same⟩ (fun i H' _ p => hG H' p.1) (fun i x H1 H2 hi p y => ?_) (fun H' p => ?_)
  · obtain ⟨sm, ys, ee, el, eD⟩ := p
    have s2 := hY _ _ _ _ y
    refine hs i x H1 H2 _ _ hi sm y (fun ht v H4 q => ?_) (fun ht H4 q => ?_)
    · have s4 : Same H1 H4 := s2.trans q
      refine ⟨ys, s4 _ _ eD, Nat.lt_of_le_of_lt el (Nat.lt_of_lt_of_le hi (Nat.le_trans hn (by decide))), fun b o e => hl_set (ne_of_none e nD) (s4 _ _ (sm _ _ e)), ys ++ [v], ?_, by simp; omega, upd_same⟩
      rw [List.range_succ, List.all_append, List.all_cons, ht]
      cases ys <;> simp
    · have s4 : Same H1 H4 := s2.trans q
      refine ⟨sm.trans s4, ys, ?_, by omega, s4 _ _ eD⟩
      rw [List.range_succ, List.all_append, List.all_cons, ht, ee]
      simp
  · obtain ⟨sm, ys, ee, el, eD⟩ := p
    exact hd ys H' ee el sm eD
theorem range_all {α : Type} (f : α → Bool) (d : α) : ∀ os : List α, (List.range os.length).all (fun i => f (os.getD i d)) = os.all f
  | [] => rfl
  | o :: os => by
    rw [List.length_cons, List.range_succ_eq_map, List.all_cons, List.all_map, List.all_cons, ← range_all f d os]
    rfl
end
/-! ### the rules with the written part told -/
section
variable {X : Cx} {K : PySem.W.Frag} {e l tg : Expr} {tl te : TE} {t ta : TA}
theorem ix_listK (q : X.K = K := by rfl) : IxR X (rIxL K) := q ▸ ix_list
theorem ix_tupK (q : X.K = K := by rfl) : IxR X (rIxT K) := q ▸ ix_tup
theorem pi_listK (h : PE X l tl) (q : X.K = K := by rfl) : PI X tg l (iList K tl) := q ▸ pi_list h
theorem pi_tupK (h : PE X l tl) (q : X.K = K := by rfl) : PI X tg l (iTup K tl) := q ▸ pi_tup h
theorem cr_lenK (q : X.K = K := by rfl) : CallR X (.builtin "len") (rLen K) := q ▸ cr_len
theorem cr_listOfK (q : X.K = K := by rfl) : CallR X (.type "list") (rListOf K) := q ▸ cr_listOf
theorem cr_tupOfK (q : X.K = K := by rfl) : CallR X (.type "tuple") (rTupOf K) := q ▸ cr_tupOf
theorem cr_allK (hc : X.calm = true) (q : X.K = K := by rfl) : CallR X (.builtin "all") (rAll K) := q ▸ cr_all hc
theorem cr_sumK (hc : X.calm = true) (q : X.K = K := by rfl) : CallR X (.builtin "sum") (rSum K) := q ▸ cr_sum hc
theorem cr_isiK (q : X.K = K := by rfl) : CallR X (.builtin "isinstance") (rIsi K) := q ▸ call_isi
theorem sl_listK (q : X.K = K := by rfl) : SlR X (rSlL K) := q ▸ sl_list
theorem sl_tupAK (q : X.K = K := by rfl) : SlR X (rSlA K) := q ▸ sl_tupA
theorem op_catAK (q : X.K = K := by rfl) : OpR X (binaryOp .Add) (rCatA K) := q ▸ op_catA
theorem castBM {e : Expr} {T : String} {r : V → List V → Hp → VK → Prop} {to : TE} (h : PE X e (tBM X.K T r to t)) (q : X.K = K := by rfl) : PE X e (tBM K T r to t) := q ▸ h
theorem castBM0 {e : Expr} {T : String} {r : V → List V → Hp → VK → Prop} {to : TE} (h : PE X e (tBM0 X.K T r to)) (q : X.K = K := by rfl) : PE X e (tBM0 K T r to) := q ▸ h
theorem castPI {iter : Expr} {wi : PySem.W.Frag → TI} (h : PI X tg iter (wi X.K)) (q : X.K = K := by rfl) : PI X tg iter (wi K) := q ▸ h
theorem castPG {n : Nat} {tg : Expr} {g : TGs} (h : PG X tg (gTup X.K n g)) (q : X.K = K := by rfl) : PG X tg (gTup K n g) := q ▸ h
end
/-! ### calls by keywords alone; keywords in any order -/
theorem pe_callK0 {X : Cx} {CX : CXT} {k : Nat} {f : Addr} {fd : FuncData} {ps ks : List Str} {sp : Sp} {E : XK} {x : Str} {p pos : Pos} {kws : List Keyword} {tk : TA} {g : List Value → List Value → List Value} {gV : List V → List V → List V}
    (F : FnOk X.prog X.w X.K X.mg X.base CX k f fd ps sp) (hr : Room k X.A) (hg : Gl X x) (hm : X.mg x = some (.ref f)) (hk : PySem.W.keepIn X.K (.ref f) = true) (hb : KBinds X.K fd ps ks g gV) (hx : Passes CX X E)
    (hkw : PK X kws tk) (hall : (backToKw pos (keywordEach kws X.env)).all (·.1.isSome) = true := by rfl) (hks : (backToKw pos (keywordEach kws X.env)).filterMap (·.1) = ks := by rfl)
    (hdb : (x == ("__debug__" : Str)) = false := by decide) (hpl : ((backTo pos (starEach [] X.env)).any (·.1) || (backToKw pos (keywordEach kws X.env)).any (·.1.isNone)) = false := by rfl) :
    PE X (.Call (.Name x p) [] kws pos) (tCallK sp gV E tNil tk) := by
  refine ⟨fun pins s σ H Q I h => wpAny_Call_Name_kw (ld_glob I hg hm ?_ hdb)⟩
  refine PySem.W.callWith_KW0 (h₀ := X.base) I.ok.mod.kin hk hall (thn (hkw.run pos pins s σ H _ I h) fun ws s2 ⟨zs, H2, I2, rz, q2⟩ => ⟨I2.kIn, ?_⟩) hpl
  rw [hks]
  exact run_fnk (us := []) F hr hb hx I2 .nil rz q2
def permV (na nb : Nat) (is : List Nat) (vs zs : List V) : List V := if vs.length = na ∧ zs.length = nb then is.map fun i => (vs ++ zs).getD i .non else []
def permU (na nb : Nat) (is : List Nat) (vs zs : List Value) : List Value := if vs.length = na ∧ zs.length = nb then is.map fun i => (vs ++ zs).getD i .none else []
theorem vals_getD : ∀ {xs : List V} {us : List Value} (i : Nat), Vals xs us → RelV (xs.getD i .non) (us.getD i .none)
  | _, _, _, .nil => rfl
  | _, _, 0, .cons r _ => r
  | _, _, i + 1, .cons _ t => by
    have := vals_getD i t
    simpa using this
theorem vals_map {xs : List V} {us : List Value} (r : Vals xs us) : ∀ is : List Nat, Vals (is.map fun i => xs.getD i .non) (is.map fun i => us.getD i .none)
  | [] => .nil
  | i :: is => .cons (vals_getD i r) (vals_map r is)
theorem kb_perm {K : PySem.W.Frag} {fd : FuncData} {ps ks : List Str} {us0 ws0 : Nat} {is : List Nat} (h0 : ps ≠ [])
    (h : ∀ (us ws : List Value), us.length = us0 → ws.length = ws0 → ∀ s : Shared, BindsTo s fd ⟨us, ks.zip ws⟩ (ps.zip (is.map fun i => (us ++ ws).getD i .none))) : KBinds K fd ps ks (permU us0 ws0 is) (permV us0 ws0 is) where
  to := fun s us ws _ hl => by
    unfold permU at hl ⊢
    by_cases c : us.length = us0 ∧ ws.length = ws0
    · rw [if_pos c]
      exact h us ws c.1 c.2 s
    · rw [if_neg c] at hl
      cases ps with
      | nil => exact absurd rfl h0
      | cons _ _ => simp at hl
  rel := fun {vs us zs ws} r1 r2 => by
    unfold permU permV
    rw [r1.length, r2.length]
    by_cases c : us.length = us0 ∧ ws.length = ws0
    · rw [if_pos c, if_pos c]
      exact vals_map (r1.append r2) is
    · rw [if_neg c, if_neg c]
      exact .nil
section
variable {K : PySem.W.Frag} {D : Ends} {σ : L2.St} {H : Hp} {Q : VK}
theorem r_callk {sp : Sp} {gV : List V → List V → List V} {E : XK} {t tk : TA} (h : t σ H fun vs H1 => tk σ H1 fun zs H2 => sp (gV vs zs) H2 Q E) : tCallK sp gV E t tk σ H Q := h
theorem r_perm {sp : Sp} {E : XK} {na nb : Nat} {is : List Nat} {vs zs : List V} (h1 : vs.length = na) (h2 : zs.length = nb) (h : sp (is.map fun i => (vs ++ zs).getD i .non) H Q E) : sp (permV na nb is vs zs) H Q E := by
  unfold permV; rw [if_pos ⟨h1, h2⟩]; exact h
end
theorem hu_of64 {A : Around} {k : Nat} (hr : Room k A) : A.units + 64 < cLine := hr.units
/-! ### against the empty list, the empty tuple -/
def rNil (K : PySem.W.Frag) (g : Bool → Bool) : R2 := fun x y H Q => ∃ a b xs, x = .ref a ∧ y = .ref b ∧ SqL K H a xs ∧ SqL K H b [] ∧ Q (.bl (g xs.isEmpty)) H
def rNilT (K : PySem.W.Frag) (g : Bool → Bool) : R2 := fun x y H Q => ∃ a b xs, x = .ref a ∧ y = .ref b ∧ SqT K H a xs ∧ SqT K H b [] ∧ Q (.bl (g xs.isEmpty)) H
theorem op_eqNil {X : Cx} (hu : X.A.units + 64 < cLine) : OpR X (compareOp .Eq) (rNil X.K id) := by
  intro pins s σ H x y v u Q I rx ry h
  obtain ⟨a, b, xs, rfl, rfl, h1, h2, q⟩ := h
  cases rx; cases ry
  obtain ⟨its, rv, p1, _⟩ := I.list h1
  obtain ⟨its2, rv2, p2, _⟩ := I.list h2
  cases rv2
  have e1 : xs.length = its.length := rv.length
  cases xs with
  | nil =>
    cases rv
    exact PySem.SeqAt.eq_listAt (e := fun _ => true) p1.isList p2.isList rfl (by omega) (fun j h => absurd h (Nat.not_lt_zero j)) ⟨.bl _, H, I, rfl, q⟩
  | cons z zs =>
    cases its with
    | nil => simp at e1
    | cons _ _ => exact PySem.SeqAt.eq_list_lengthsAt p1.isList p2.isList rfl (by omega) ⟨.bl false, H, I, rfl, q⟩
theorem op_neNil {X : Cx} (hu : X.A.units + 64 < cLine) : OpR X (compareOp .NotEq) (rNil X.K not) := by
  intro pins s σ H x y v u Q I rx ry h
  obtain ⟨a, b, xs, rfl, rfl, h1, h2, q⟩ := h
  cases rx; cases ry
  obtain ⟨its, rv, p1, _⟩ := I.list h1
  obtain ⟨its2, rv2, p2, _⟩ := I.list h2
  cases rv2
  have e1 : xs.length = its.length := rv.length
  cases xs with
  | nil =>
    cases rv
    exact PySem.SeqAt.RcNeAt.lists (e := fun _ => true) p1.isList p2.isList rfl (by omega) (fun j h => absurd h (Nat.not_lt_zero j)) _ _ _ _ ⟨.bl _, H, I, rfl, q⟩
  | cons z zs =>
    cases its with
    | nil => simp at e1
    | cons _ _ => exact PySem.SeqAt.RcNeAt.lists_lengths p1.isList p2.isList rfl (by omega) _ _ _ _ ⟨.bl true, H, I, rfl, q⟩
theorem op_eqNilT {X : Cx} (hu : X.A.units + 64 < cLine) : OpR X (compareOp .Eq) (rNilT X.K id) := by
  intro pins s σ H x y v u Q I rx ry h
  obtain ⟨a, b, xs, rfl, rfl, h1, h2, q⟩ := h
  cases rx; cases ry
  obtain ⟨its, rv, p1, _⟩ := I.tuple h1
  obtain ⟨its2, rv2, p2, _⟩ := I.tuple h2
  cases rv2
  have e1 : xs.length = its.length := rv.length
  refine PySem.SeqAt.eq_tupleAt (e := fun _ => true) (show s.heap.IsTuple a its.toArray from p1) (show s.heap.IsTuple b #[] from p2) (by omega) (fun j _ h => absurd h (Nat.not_lt_zero j)) ⟨.bl xs.isEmpty, H, I, ?_, q⟩
  cases xs with
  | nil =>
    cases rv
    rfl
  | cons z zs =>
    cases its with
    | nil => simp at e1
    | cons _ _ => rfl
theorem op_eqNilK {X : Cx} {K : PySem.W.Frag} (hu : X.A.units + 64 < cLine) (q : X.K = K := by rfl) : OpR X (compareOp .Eq) (rNil K id) := q ▸ op_eqNil hu
theorem op_neNilK {X : Cx} {K : PySem.W.Frag} (hu : X.A.units + 64 < cLine) (q : X.K = K := by rfl) : OpR X (compareOp .NotEq) (rNil K not) := q ▸ op_neNil hu
theorem op_eqNilTK {X : Cx} {K : PySem.W.Frag} (hu : X.A.units + 64 < cLine) (q : X.K = K := by rfl) : OpR X (compareOp .Eq) (rNilT K id) := q ▸ op_eqNilT hu
section
variable {K : PySem.W.Frag} {H : Hp} {Q : VK}
theorem r_nilL {g : Bool → Bool} {a b : Addr} {xs : List V} (h1 : SqL K H a xs) (h2 : SqL K H b []) (q : Q (.bl (g xs.isEmpty)) H) : rNil K g (.ref a) (.ref b) H Q := ⟨a, b, xs, rfl, rfl, h1, h2, q⟩
theorem r_nilT {g : Bool → Bool} {a b : Addr} {xs : List V} (h1 : SqT K H a xs) (h2 : SqT K H b []) (q : Q (.bl (g xs.isEmpty)) H) : rNilT K g (.ref a) (.ref b) H Q := ⟨a, b, xs, rfl, rfl, h1, h2, q⟩
end
theorem kt_NoneType_int {K : PySem.W.Frag} : PySem.W.kitOne K (.type "NoneType") (.type "int") = some false := kit_ty (by decide +kernel)
theorem kt_bool_int {K : PySem.W.Frag} : PySem.W.kitOne K (.type "bool") (.type "int") = some true := kit_ty (by decide +kernel)
theorem kt_int_int {K : PySem.W.Frag} : PySem.W.kitOne K (.type "int") (.type "int") = some true := kit_ty (by decide +kernel)
theorem kt_str_int {K : PySem.W.Frag} : PySem.W.kitOne K (.type "str") (.type "int") = some false := kit_ty (by decide +kernel)
theorem kt_tuple_int {K : PySem.W.Frag} : PySem.W.kitOne K (.type "tuple") (.type "int") = some false := kit_ty (by decide +kernel)
theorem kt_list_int {K : PySem.W.Frag} : PySem.W.kitOne K (.type "list") (.type "int") = some false := kit_ty (by decide +kernel)
theorem kt_dict_int {K : PySem.W.Frag} : PySem.W.kitOne K (.type "dict") (.type "int") = some false := kit_ty (by decide +kernel)
theorem kt_NoneType_bool {K : PySem.W.Frag} : PySem.W.kitOne K (.type "NoneType") (.type "bool") = some false := kit_ty (by decide +kernel)
theorem kt_bool_bool {K : PySem.W.Frag} : PySem.W.kitOne K (.type "bool") (.type "bool") = some true := kit_ty (by decide +kernel)
theorem kt_int_bool {K : PySem.W.Frag} : PySem.W.kitOne K (.type "int") (.type "bool") = some false := kit_ty (by decide +kernel)
theorem kt_str_bool {K : PySem.W.Frag} : PySem.W.kitOne K (.type "str") (.type "bool") = some false := kit_ty (by decide +kernel)
theorem kt_tuple_bool {K : PySem.W.Frag} : PySem.W.kitOne K (.type "tuple") (.type "bool") = some false := kit_ty (by decide +kernel)
theorem kt_list_bool {K : PySem.W.Frag} : PySem.W.kitOne K (.type "list") (.type "bool") = some false := kit_ty (by decide +kernel)
theorem kt_dict_bool {K : PySem.W.Frag} : PySem.W.kitOne K (.type "dict") (.type "bool") = some false := kit_ty (by decide +kernel)
theorem kt_NoneType_tuple {K : PySem.W.Frag} : PySem.W.kitOne K (.type "NoneType") (.type "tuple") = some false := kit_ty (by decide +kernel)
theorem kt_bool_tuple {K : PySem.W.Frag} : PySem.W.kitOne K (.type "bool") (.type "tuple") = some false := kit_ty (by decide +kernel)
theorem kt_int_tuple {K : PySem.W.Frag} : PySem.W.kitOne K (.type "int") (.type "tuple") = some false := kit_ty (by decide +kernel)
theorem kt_str_tuple {K : PySem.W.Frag} : PySem.W.kitOne K (.type "str") (.type "tuple") = some false := kit_ty (by decide +kernel)
theorem kt_tuple_tuple {K : PySem.W.Frag} : PySem.W.kitOne K (.type "tuple") (.type "tuple") = some true := kit_ty (by decide +kernel)
theorem kt_list_tuple {K : PySem.W.Frag} : PySem.W.kitOne K (.type "list") (.type "tuple") = some false := kit_ty (by decide +kernel)
theorem kt_dict_tuple {K : PySem.W.Frag} : PySem.W.kitOne K (.type "dict") (.type "tuple") = some false := kit_ty (by decide +kernel)
theorem kt_NoneType_str {K : PySem.W.Frag} : PySem.W.kitOne K (.type "NoneType") (.type "str") = some false := kit_ty (by decide +kernel)
theorem kt_bool_str {K : PySem.W.Frag} : PySem.W.kitOne K (.type "bool") (.type "str") = some false := kit_ty (by decide +kernel)
theorem kt_int_str {K : PySem.W.Frag} : PySem.W.kitOne K (.type "int") (.type "str") = some false := kit_ty (by decide +kernel)
theorem kt_str_str {K : PySem.W.Frag} : PySem.W.kitOne K (.type "str") (.type "str") = some true := kit_ty (by decide +kernel)
theorem kt_tuple_str {K : PySem.W.Frag} : PySem.W.kitOne K (.type "tuple") (.type "str") = some false := kit_ty (by decide +kernel)
theorem kt_list_str {K : PySem.W.Frag} : PySem.W.kitOne K (.type "list") (.type "str") = some false := kit_ty (by decide +kernel)
theorem kt_dict_str {K : PySem.W.Frag} : PySem.W.kitOne K (.type "dict") (.type "str") = some false := kit_ty (by decide +kernel)
theorem kt_NoneType_list {K : PySem.W.Frag} : PySem.W.kitOne K (.type "NoneType") (.type "list") = some false := kit_ty (by decide +kernel)
theorem kt_bool_list {K : PySem.W.Frag} : PySem.W.kitOne K (.type "bool") (.type "list") = some false := kit_ty (by decide +kernel)
theorem kt_int_list {K : PySem.W.Frag} : PySem.W.kitOne K (.type "int") (.type "list") = some false := kit_ty (by decide +kernel)
theorem kt_str_list {K : PySem.W.Frag} : PySem.W.kitOne K (.type "str") (.type "list") = some false := kit_ty (by decide +kernel)
theorem kt_tuple_list {K : PySem.W.Frag} : PySem.W.kitOne K (.type "tuple") (.type "list") = some false := kit_ty (by decide +kernel)
theorem kt_list_list {K : PySem.W.Frag} : PySem.W.kitOne K (.type "list") (.type "list") = some true := kit_ty (by decide +kernel)
theorem kt_dict_list {K : PySem.W.Frag} : PySem.W.kitOne K (.type "dict") (.type "list") = some false := kit_ty (by decide +kernel)
theorem kt_NoneType_dict {K : PySem.W.Frag} : PySem.W.kitOne K (.type "NoneType") (.type "dict") = some false := kit_ty (by decide +kernel)
theorem kt_bool_dict {K : PySem.W.Frag} : PySem.W.kitOne K (.type "bool") (.type "dict") = some false := kit_ty (by decide +kernel)
theorem kt_int_dict {K : PySem.W.Frag} : PySem.W.kitOne K (.type "int") (.type "dict") = some false := kit_ty (by decide +kernel)
theorem kt_str_dict {K : PySem.W.Frag} : PySem.W.kitOne K (.type "str") (.type "dict") = some false := kit_ty (by decide +kernel)
theorem kt_tuple_dict {K : PySem.W.Frag} : PySem.W.kitOne K (.type "tuple") (.type "dict") = some false := kit_ty (by decide +kernel)
theorem kt_list_dict {K : PySem.W.Frag} : PySem.W.kitOne K (.type "list") (.type "dict") = some false := kit_ty (by decide +kernel)
theorem kt_dict_dict {K : PySem.W.Frag} : PySem.W.kitOne K (.type "dict") (.type "dict") = some true := kit_ty (by decide +kernel)
local macro_rules | `(tactic| walk_at "ne") => `(tactic| first | assumption | (refine' Ne.symm ?h1; (case h1 => assumption)))
local macro_rules | `(tactic| walk_at "nin") => `(tactic| first | assumption | exact List.not_mem_nil)
local macro_rules | `(tactic| walk_at "hl") => `(tactic| first
  | assumption
  | exact upd_same
  | (refine' hl_new ?h1 ?h2; (case h2 => assumption); (case h1 => walk_at "hl"))
  | (refine' hl_set ?h2 ?h1; (case h2 => walk_at "ne"); (case h1 => walk_at "hl"))
  | (refine' hl_same ?h2 ?h1; (case h2 => assumption); (case h1 => walk_at "hl"))
  | (refine' hl_kp ?h2 ?h3 ?h1; (case h2 => assumption); (case h3 => walk_at "nin"); (case h1 => walk_at "hl")))
local macro_rules | `(tactic| walk_at "sq") => `(tactic| first | assumption | (refine' SqL.of ?h1; (case h1 => walk_at "hl")) | (refine' SqT.of ?h1; (case h1 => walk_at "hl")))
local macro_rules | `(tactic| walk_at "sc") => `(tactic| first | assumption | omega | (dsimp only; omega) | decide | exact .inl ⟨by omega, by omega⟩ | exact .inr ⟨by omega, by omega⟩ | exact ⟨by omega, by decide⟩)
local macro_rules | `(tactic| walk_at "sz") => `(tactic| first | assumption | ((try simp only [List.length_map, List.length_append, List.length_cons, List.length_nil]); have : (1000000 : Nat) ≤ sizeLine := (by decide); omega))
local macro_rules | `(tactic| walk_at "ty") => `(tactic| first | assumption | exact TyX.base (.int _) | exact TyX.base (.bl _) | exact TyX.base .non | exact TyX.base (.str _) | (refine' TyX.base (.tup ?h1); (case h1 => walk_at "hl")) | (refine' TyX.base (.lst ?h1); (case h1 => walk_at "hl")) | (refine' TyX.base (.dK ?h1); (case h1 => walk_at "hl")))
local macro_rules | `(tactic| walk_at "mem") => `(tactic| first | assumption | (simp; done) | (intro _ h; simp at h ⊢; first | exact h | exact .inr h | exact .inr (.inr h) | (rcases h with h | h <;> simp [h])))
local macro_rules | `(tactic| walk_at "stt") => `(tactic| first | assumption | (refine' St.new ?h1 ?h2; (case h2 => assumption); (case h1 => walk_at "stt")) | (refine' St.set ?h1 ?h2; (case h2 => assumption); (case h1 => walk_at "stt")) | (refine' St.same ?h1 ?h2; (case h2 => assumption); (case h1 => walk_at "stt")))
local macro_rules | `(tactic| walk_at "in") => `(tactic| first | assumption | exact List.mem_cons_self | exact List.mem_cons_of_mem _ List.mem_cons_self | exact List.mem_cons_of_mem _ (List.mem_cons_of_mem _ List.mem_cons_self))
local macro_rules | `(tactic| walk_at "kp") => `(tactic| first
  | exact Kp.refl
  | assumption
  | (refine' Kp.trans ?h1 (Kp.new ?h2); (case h2 => assumption); (case h1 => walk_at "kp"))
  | (refine' Kp.trans ?h1 (Kp.set ?h2); (case h2 => walk_at "in"); (case h1 => walk_at "kp"))
  | (refine' Kp.own ?h1 ?h2; (case h2 => assumption); (case h1 => walk_at "kp"))
  | (refine' Kp.trans ?h1 (Kp.sub ?h2 ?h3); (case h2 => assumption); (case h3 => walk_at "mem"); (case h1 => walk_at "kp"))
  | (refine' Kp.trans ?h1 (Kp.ofSame ?h2); (case h2 => assumption); (case h1 => walk_at "kp")))
local macro_rules | `(tactic| walk_at "sm") => `(tactic| first
  | exact Same.refl _
  | assumption
  | (refine' Same.trans ?h1 (Same.upd_new ?h2); (case h2 => assumption); (case h1 => walk_at "sm"))
  | (refine' Same.trans ?h1 ?h2; (case h2 => assumption); (case h1 => walk_at "sm")))
local macro_rules | `(tactic| walk_at "lf") => `(tactic| first
  | exact Lft.refl
  | (refine' Lft.trans ?h1 (Lft.new ?h2); (case h2 => assumption); (case h1 => walk_at "lf"))
  | (refine' Lft.trans ?h1 (Lft.set ?h2); (case h2 => walk_at "in"); (case h1 => walk_at "lf"))
  | (refine' Lft.trans ?h1 (Lft.kp ?h2 ?h3); (case h2 => assumption); (case h3 => walk_at "mem"); (case h1 => walk_at "lf"))
  | (refine' Lft.trans ?h1 (Lft.same ?h2); (case h2 => assumption); (case h1 => walk_at "lf"))
  | (refine' Lft.trans ?h1 (Lft.own ?h2); (case h2 => assumption); (case h1 => walk_at "lf")))
local macro_rules | `(tactic| walk_at "kt") => `(tactic| first | exact kt_NoneType_int | exact kt_bool_int | exact kt_int_int | exact kt_str_int | exact kt_tuple_int | exact kt_list_int | exact kt_dict_int | exact kt_NoneType_bool | exact kt_bool_bool | exact kt_int_bool | exact kt_str_bool | exact kt_tuple_bool | exact kt_list_bool | exact kt_dict_bool | exact kt_NoneType_tuple | exact kt_bool_tuple | exact kt_int_tuple | exact kt_str_tuple | exact kt_tuple_tuple | exact kt_list_tuple | exact kt_dict_tuple | exact kt_NoneType_str | exact kt_bool_str | exact kt_int_str | exact kt_str_str | exact kt_tuple_str | exact kt_list_str | exact kt_dict_str | exact kt_NoneType_list | exact kt_bool_list | exact kt_int_list | exact kt_str_list | exact kt_tuple_list | exact kt_list_list | exact kt_dict_list | exact kt_NoneType_dict | exact kt_bool_dict | exact kt_int_dict | exact kt_str_dict | exact kt_tuple_dict | exact kt_list_dict | exact kt_dict_dict)
local macro_rules | `(tactic| walk_at "st1") => `(tactic| first
  | with_reducible refine r_seq ?_
  | with_reducible refine r_for ?_
  | with_reducible refine r_irng1 ?_
  | ((with_reducible refine r_rg1 ?e1 ?_); (case e1 => omega))
  | with_reducible refine r_irng2 ?_
  | ((with_reducible refine r_rg2 ?e1 ?_); (case e1 => omega))
  | with_reducible refine r_ilist ?_
  | ((with_reducible refine' r_il ?e1 ?_); (case e1 => walk_at "sq"))
  | with_reducible refine r_itup ?_
  | ((with_reducible refine' r_it ?e1 ?_); (case e1 => walk_at "sq"))
  | with_reducible refine r_izip ?_
  | ((with_reducible refine' r_izt ?e1 ?e2 ?_); (case e1 => walk_at "sq"); (case e2 => walk_at "sq"))
  | with_reducible refine r_lc ?_
  | with_reducible refine r_tand ?_
  | with_reducible refine r_tor ?_
  | with_reducible refine r_tnot ?_
  | with_reducible refine r_andv ?_
  | with_reducible refine r_orv ?_
  | with_reducible refine r_notv ?_
  | with_reducible refine r_chain ?_
  | with_reducible refine' r_t ?_
  | with_reducible refine' r_f ?_
  | with_reducible refine r_bm ?_
  | with_reducible refine r_tb ?_
  | with_reducible refine r_yes ?_
  | ((with_reducible refine r_sz ?e1 ?_); (case e1 => rfl))
  | with_reducible refine r_sl ?_
  | ((with_reducible refine' r_sll ?e1 ?_); (case e1 => walk_at "sq"))
  | with_reducible refine r_nopart ?_
  | with_reducible refine r_part ?_
  | with_reducible refine r_parti ?_
  | with_reducible refine r_callk ?_
  | with_reducible refine r_perm (by rfl) (by rfl) ?_
  | ((with_reducible refine' r_nilL ?e1 ?e2 ?_); (case e1 => walk_at "sq"); (case e2 => walk_at "sq"))
  | ((with_reducible refine' r_nilT ?e1 ?e2 ?_); (case e1 => walk_at "sq"); (case e2 => walk_at "sq"))
  | ((with_reducible refine' r_app0 ?e1 ?e2 ?_); (case e1 => walk_at "hl"); (case e2 => walk_at "sz"))
  | ((with_reducible refine' r_ty ?e1 ?_); (case e1 => walk_at "hl"))
  | ((with_reducible refine' r_all ?e1 ?_); (case e1 => walk_at "sq"))
  | ((with_reducible refine' r_sum ?e1 ?_); (case e1 => walk_at "sq"))
  | ((with_reducible refine' r_isi ?e1 ?e2 ?e3 ?_); (case e1 => exact .ty _); (case e2 => walk_at "ty"); (case e3 => walk_at "kt"))
  | with_reducible refine r_asg ?_
  | with_reducible refine r_gname ?_
  | ((with_reducible refine' r_var ?e1 ?_); (case e1 => rfl))
  | with_reducible refine r_c ?_
  | with_reducible refine r_op ?_
  | with_reducible refine r_i0 ?_
  | ((with_reducible refine' r_i ?e1 ?_); (case e1 => walk_at "sc"))
  | ((with_reducible refine' r_ixl ?e1 ?e2 ?_); (case e1 => walk_at "sq"); (case e2 => first | assumption | rfl))
  | ((with_reducible refine' r_ixt ?e1 ?e2 ?_); (case e1 => walk_at "sq"); (case e2 => first | assumption | rfl))
  | with_reducible refine r_cb ?_
  | with_reducible refine r_cons ?_
  | with_reducible refine r_nil ?_
  | ((with_reducible refine' r_len ?e1 ?_); (case e1 => walk_at "sq"))
  | ((with_reducible refine' r_lent ?e1 ?_); (case e1 => walk_at "sq"))
  | with_reducible refine r_abs ?_
  | ((with_reducible refine' r_listl ?e1 ?_); (case e1 => walk_at "sq"))
  | ((with_reducible refine' r_listt ?e1 ?_); (case e1 => walk_at "sq"))
  | ((with_reducible refine' r_tupl ?e1 ?_); (case e1 => walk_at "sq"))
  | ((with_reducible refine' r_tupt ?e1 ?_); (case e1 => walk_at "sq"))
  | with_reducible refine r_ife ?_
  | with_reducible refine r_test ?_
  | with_reducible refine r_bl ?_
  | with_reducible refine r_ret ?_
  | with_reducible refine r_gsub ?_
  | ((with_reducible refine' r_setl ?e1 ?e2 ?_); (case e1 => walk_at "hl"); (case e2 => first | assumption | rfl))
  | with_reducible refine r_next ?_
  | with_reducible refine r_call ?_
  | with_reducible refine r_lst ?_
  | with_reducible refine r_tup ?_
  | with_reducible refine r_drop ?_
  | ((with_reducible refine' r_eq ?e1 ?_); (case e1 => rfl))
  | ((with_reducible refine' r_ne ?e1 ?_); (case e1 => rfl)))
local macro_rules | `(tactic| walk_at "st") => `(tactic| repeat (walk_at "st1"))
local macro_rules | `(tactic| walk_at "if") => `(tactic| ((first | refine r_if ?_ | (simp only []; refine r_if ?_)); walk_at "st"))
structure Tx (K : PySem.W.Frag) (mg : Str → Option Value) (c_PaperReader : Addr) (c_TraceError : Addr) (c_NoText : Addr) (c_NoFlow : Addr) (c_NoUnit : Addr) : Prop where
  c_FIGURES : ∃ t, mg "FIGURES" = some (.str "0123456789" t)
  c_MOST_FIGURES : ∃ t, mg "MOST_FIGURES" = some (.int 5 t)
  m_ValueError : mg "ValueError" = none
  m_abs : mg "abs" = none
  m_all : mg "all" = none
  m_enumerate : mg "enumerate" = none
  m_int : mg "int" = none
  m_isinstance : mg "isinstance" = none
  m_len : mg "len" = none
  m_range : mg "range" = none
  m_str : mg "str" = none
  m_tuple : mg "tuple" = none
  m_zip : mg "zip" = none
  g_PaperReader : mg "PaperReader" = some (.ref c_PaperReader)
  cl_PaperReader : Cls K c_PaperReader
  na_pairs_told : NoAttr K c_PaperReader "pairs_told"
  na_rows_told : NoAttr K c_PaperReader "rows_told"
  g_TraceError : mg "TraceError" = some (.ref c_TraceError)
  g_NoText : mg "NoText" = some (.ref c_NoText)
  g_NoFlow : mg "NoFlow" = some (.ref c_NoFlow)
  g_NoUnit : mg "NoUnit" = some (.ref c_NoUnit)
  rd_TraceError : PySem.W.readsIn K c_TraceError (.type "type") = true
  sg_TraceError : PySem.W.specialIn K (.ref c_TraceError) "__getattribute__" = some (some (.builtin "type.__getattribute__"))
  fi_TraceError : PySem.W.findCls K (.ref c_TraceError) (.type "type") "__init__" = some (.val (.builtin "ValueError.__init__"))
  na_row : PySem.W.findIn K (.ref c_NoText) "row" = some none
  xa_NoText : PySem.W.findIn K (.ref c_NoText) "__class__" = some (some (.builtin "object.__class__"))
  xn_object : PySem.W.specialIn K (.builtin "object.__class__") "__get__" = some (some (.builtin "getset_descriptor.__get__"))
  xt_object : PySem.W.takesIn K (.builtin "object.__class__") = some true
  xo_NoText : PySem.W.mroIn K c_NoText (.type "object") = some true
  xg_NoText : PySem.W.findIn K (.ref c_NoText) "__getattribute__" = some (some (.builtin "BaseException.__getattribute__"))
  xh_NoText : PySem.W.findIn K (.ref c_NoText) "__getattr__" = some none
  xe_NoText : PySem.W.subIn K (.ref c_NoText) (.type "BaseException") = some true
  xd_NoText : PySem.W.hasDictIn K c_NoText = true
  te_TraceError : PySem.W.subIn K (.ref c_TraceError) (.type "BaseException") = some true
  ti_TraceError : PySem.W.isClsIn K c_TraceError = true
  tt_TraceError : PySem.W.typeIn K (.ref c_TraceError) = some (.type "type")
  s0_NoText : PySem.W.subIn K (.ref c_NoText) (.ref c_NoText) = some true
  s1_NoText : PySem.W.subIn K (.ref c_NoText) (.ref c_TraceError) = some true
  s2_NoText : PySem.W.subIn K (.ref c_NoText) (.type "ValueError") = some true
  s3_NoText : PySem.W.subIn K (.ref c_NoText) (.ref c_NoFlow) = some false
  s4_NoText : PySem.W.subIn K (.ref c_NoText) (.ref c_NoUnit) = some false
  ti_NoFlow : PySem.W.isClsIn K c_NoFlow = true
  tt_NoFlow : PySem.W.typeIn K (.ref c_NoFlow) = some (.type "type")
  ti_NoUnit : PySem.W.isClsIn K c_NoUnit = true
  tt_NoUnit : PySem.W.typeIn K (.ref c_NoUnit) = some (.type "type")
def topS (i : Nat) : Stmt := PySem.Challenge.pw_onetrace_k86_texts_of_no_paper.main.body.getD i (.Pass ⟨0, 0, 0, 0⟩)
abbrev s_NoText___init__ : Stmt := inClass (topS 2) 0
theorem sc_NoText___init__ : FnScope ["self", "row"] ["self", "row"] (defScope s_NoText___init__) := ⟨rfl, rfl, rfl, by decide +kernel, rfl, by decide +kernel, by decide +kernel⟩
abbrev s_has_only : Stmt := topS 7
theorem sc_has_only : FnScope ["text", "signs", "sign"] ["text", "signs"] (defScope s_has_only) := ⟨rfl, rfl, rfl, by decide +kernel, rfl, by decide +kernel, by decide +kernel⟩
abbrev s_read_figures : Stmt := topS 8
theorem sc_read_figures : FnScope ["text", "most"] ["text", "most"] (defScope s_read_figures) := ⟨rfl, rfl, rfl, by decide +kernel, rfl, by decide +kernel, by decide +kernel⟩
abbrev s_text_rows : Stmt := topS 10
theorem sc_text_rows : FnScope ["text", "parts", "rest"] ["text"] (defScope s_text_rows) := ⟨rfl, rfl, rfl, by decide +kernel, rfl, by decide +kernel, by decide +kernel⟩
abbrev s_numbers_told : Stmt := topS 13
theorem sc_numbers_told : FnScope ["words", "numbers", "word"] ["words"] (defScope s_numbers_told) := ⟨rfl, rfl, rfl, by decide +kernel, rfl, by decide +kernel, by decide +kernel⟩
abbrev s_PaperReader___init__ : Stmt := inClass (topS 14) 0
theorem sc_PaperReader___init__ : FnScope ["self"] ["self"] (defScope s_PaperReader___init__) := ⟨rfl, rfl, rfl, by decide +kernel, rfl, by decide +kernel, by decide +kernel⟩
abbrev s_PaperReader_reads : Stmt := inClass (topS 14) 1
theorem sc_PaperReader_reads : FnScope ["self", "row", "words", "numbers"] ["self", "row"] (defScope s_PaperReader_reads) := ⟨rfl, rfl, rfl, by decide +kernel, rfl, by decide +kernel, by decide +kernel⟩
abbrev s_PaperReader_reads_pair : Stmt := inClass (topS 14) 2
theorem sc_PaperReader_reads_pair : FnScope ["self", "pair"] ["self", "pair"] (defScope s_PaperReader_reads_pair) := ⟨rfl, rfl, rfl, by decide +kernel, rfl, by decide +kernel, by decide +kernel⟩
abbrev s_read_paper : Stmt := topS 15
theorem sc_read_paper : FnScope ["text", "rows", "is_whole", "reader", "at", "row", "pair", "told"] ["text"] (defScope s_read_paper) := ⟨rfl, rfl, rfl, by decide +kernel, rfl, by decide +kernel, by decide +kernel⟩
abbrev s_law_state : Stmt := topS 17
theorem sc_law_state : FnScope ["script", "cells", "cell"] ["script"] (defScope s_law_state) := ⟨rfl, rfl, rfl, by decide +kernel, rfl, by decide +kernel, by decide +kernel⟩
abbrev s_law_draw : Stmt := topS 18
theorem sc_law_draw : FnScope ["state", "many", "at", "cell"] ["state", "many"] (defScope s_law_draw) := ⟨rfl, rfl, rfl, by decide +kernel, rfl, by decide +kernel, by decide +kernel⟩
abbrev s_law_text : Stmt := topS 19
theorem sc_law_text : FnScope ["state", "made", "first", "k", "line", "at"] ["state"] (defScope s_law_text) := ⟨rfl, rfl, rfl, by decide +kernel, rfl, by decide +kernel, by decide +kernel⟩
abbrev s_law_bent : Stmt := topS 20
theorem sc_law_bent : FnScope ["state", "written", "way", "at", "signs", "sign", "rows", "spot", "other", "ahead", "behind", "left", "more"] ["state", "written"] (defScope s_law_bent) := ⟨rfl, rfl, rfl, by decide +kernel, rfl, by decide +kernel, by decide +kernel⟩
abbrev s_law_numbers : Stmt := topS 21
theorem sc_law_numbers : FnScope ["words", "word", "odd", "sign"] ["words"] (defScope s_law_numbers) := ⟨rfl, rfl, rfl, by decide +kernel, rfl, by decide +kernel, by decide +kernel⟩
abbrev s_law_read : Stmt := topS 22
theorem sc_law_read : FnScope ["written", "rows", "cut", "made", "last", "at", "row", "words", "pair", "numbers"] ["written"] (defScope s_law_read) := ⟨rfl, rfl, rfl, by decide +kernel, rfl, by decide +kernel, by decide +kernel⟩
abbrev s_law_tried : Stmt := topS 23
theorem sc_law_tried : FnScope ["thing", "made", "caught", "e", "alone"] ["thing"] (defScope s_law_tried) := ⟨rfl, rfl, rfl, by decide +kernel, rfl, by decide +kernel, by decide +kernel⟩
abbrev s_law : Stmt := topS 24
theorem sc_law : FnScope ["script", "state", "great", "turn", "written", "times", "wanted", "made", "odd"] ["script"] (defScope s_law) := ⟨rfl, rfl, rfl, by decide +kernel, rfl, by decide +kernel, by decide +kernel⟩
/-! ### defs that run while nothing is being shown (repr): the list of guards is empty -/
structure FnG (P : Program) (w : World) (K : PySem.W.Frag) (mg : Str → Option Value) (base : Heap) (k : Nat) (f : Addr) (fd : FuncData) (ps : List Str) (sp : Sp) : Prop where
  len : ∀ vs H Q E, sp vs H Q E → vs.length = ps.length
  run : ∀ (A : Around) (outer : List Env) (s : Shared) (H : Hp) (args : Args) (us : List Value) (vs : List V) (Q : VK) (E : XK), A.guards = some [] → Room k A → Env0 P w K mg base A outer s H → BindsTo s fd args (ps.zip us) → Vals vs us → sp vs H Q E →
    codeAny (model P w) A (.call (.ref f) args) (CR CX0 outer P w H s Q E) s
section
variable {P : Program} {w : World} {K : PySem.W.Frag} {mg : Str → Option Value} {base : Heap}
theorem fnG_of {k : Nat} {x qual : Str} {st : Stmt} {f : Addr} {fd : FuncData} {N ps : List Str} {sp : Sp} (F : Fun K x qual st f fd) (S : FnScope N ps (defScope st)) (hlen : ∀ vs H Q E, sp vs H Q E → vs.length = ps.length)
    (body : ∀ (cdv : Value) (A : Around) (outer : List Env) (s : Shared) (H : Hp) (vs : List V) (Q : VK) (E : XK), A.guards = some [] → Room k (A.deeper (envOfC qual (defScope st) s.heap.objs.size f cdv)) → sp vs H Q E →
      ∃ t, PSs (cxOf CX0 P w K mg base N qual (defScope st) f cdv A outer s H E).nox (defBody st) t ∧ t { nx := fun _ H' => Q .non H', rt := Q } (L2.start N vs) H) : FnG P w K mg base (k + 1) f fd ps sp := by
  obtain ⟨oc, od, kV, doc, pm, an, cdv, ct, osl, rfl, lk, hcd⟩ := F.ex
  refine ⟨hlen, fun A outer s H args us vs Q E hga hr e0 hb r hsp => ?_⟩
  have inK : K.In s.heap := e0.mod.kin.keeps (fun b o q => (e0.bs b o q).1)
  have nl : s.heap.NoLimit := e0.mod.nolimit.keeps (fun b o q => (e0.bs b o q).1)
  have kinds : ∀ y ∈ ps.zip us, (defScope st).names.lookup y.1 = some .local ∨ ((defScope st).names.lookup y.1 = some .cell ∧ ((cellsFrom (s.heap.objs.size + 1) (defScope st).names []).lookup y.1).isSome = true) := by
    intro y hy
    have := S.par y.1 (List.of_mem_zip (a := y.1) (b := y.2) hy).1
    exact this.elim .inl (fun z => .inr ⟨z, PySem.W.cellsFrom_some _ _ _ (.inl z)⟩)
  apply codeAny_call_function hr.depth (inK _ _ lk) rfl S.co S.gen rfl (PySem.W.codeRec_of inK hcd)
  apply hb
  apply wpAny_newFunctionEnv_cells S.kind kinds
  intro env he s1 x
  subst he
  refine ⟨nl.keeps x.toInCall.keep, codeAny_func ?_⟩
  obtain ⟨t, ht, hq⟩ := body cdv A outer s H vs Q E hga (hr.deeper _) hsp
  have J0 := inv_start (CX := CX0) (E := E) S hr.hd e0 (hlen _ _ _ _ hsp) r x
  refine wpAny_mono (ht.nox.run [] s1 (L2.start N vs) H _ J0 hq) (fun fl s' hs => ?_) (fun e s' hs => hs)
  match fl, hs with
  | .ret u, ⟨v, σ', H', J, rv, q⟩ => exact ⟨v, H', J.os, J.bare, J.base, J.hok, rv, q⟩
  | .next, ⟨σ', H', J, q⟩ => exact ⟨V.non, H', J.os, J.bare, J.base, J.hok, rfl, q⟩
  | .brk, ⟨_, _, _, q⟩ => exact q.elim
  | .cont, ⟨_, _, _, q⟩ => exact q.elim
end
/-! ### the law's own call, where nothing is being shown -/
section
variable {P : Program} {w : World} {K : PySem.W.Frag} {mg mb : Str → Option Value} {k : Nat} {fa a : Addr} {fd : FuncData} {x : Str} {sp : Sp} {g0 : Shared} {vs : List Value} {ns : List Int}
/-- from a heap H that tracks nothing but, at most, the script -/
theorem lawG_from (inK : K.In g0.heap) (hns : g0.heap.Ns mainGlobals mg) (hb : g0.heap.Ns builtinsNs mb) (hbb : ∀ x : Str, x ≠ "__name__" → mb x = bootBuiltins x) (nl : g0.heap.NoLimit) (hg : g0.gens = #[])
    (ha : g0.heap.get? a = some { cls := .type "list", data := .seq vs.toArray }) (hr : Room k callerA)
    (F : ∀ base : Heap, K.In base → base.Ns mainGlobals mg → FnG P w K mg base k fa fd [x] sp) (hbind : ∀ (s : Shared) (u : Value), BindsTo s fd ⟨[u], []⟩ [(x, u)])
    (hsp : ∀ H : Hp, Only H → SqL K H a (ns.map V.int) → sp [.ref a] H (fun v _ => v = .bl true) fun _ _ _ => False)
    (H : Hp) (onl : Only H) (script : SqL K H a (ns.map V.int)) (ok : HOk P w H g0.heap) (at_ : ∀ b, H b ≠ none → b = a) (off : H a ≠ none → K.lookup a = none) :
    codeAny (model P w) callerA (.call (.ref fa) ⟨[.ref a], []⟩) (fun r s' => r = .ok (.ret (.bool true)) ∧ OldK g0.heap s'.heap ∧ s'.os = g0.os ∧ AllBare s'.gens) g0 := by
  have free_dict : ∀ (b : Addr) (o : Obj) (es : Array DictEntry) (ep : Nat), g0.heap.get? b = some o → o.data = .dict es ep → H b = none := by
    intro b o es ep e d
    by_cases q : H b = none
    · exact q
    · obtain rfl := at_ b q
      rw [e] at ha
      injection ha with ha
      rw [ha] at d
      cases d
  have to_base : ∀ (b : Addr) (m : Str → Option Value), g0.heap.Ns b m → (hidT g0.heap H).Ns b m := by
    intro b m n
    obtain ⟨o, es, ep, e, d, r⟩ := n
    exact ⟨o, es, ep, hidT_get e (free_dict b o es ep e d), d, r⟩
  have baseK : K.In (hidT g0.heap H) := by
    intro b o e
    refine hidT_get (inK b o e) ?_
    by_cases q : H b = none
    · exact q
    · obtain rfl := at_ b q
      rw [off q] at e
      cases e
  obtain ⟨mc, n1, n2⟩ := nl
  have M : Mod K mg (hidT g0.heap H) := ⟨baseK, to_base _ _ hns, ⟨mb, to_base _ _ hb, hbb⟩, ⟨mc, to_base _ _ n1, n2⟩⟩
  have env : Env0 P w K mg (hidT g0.heap H) callerA [] g0 H :=
    { frames := rfl, mod := M, bs := fun b o e => of_hidT e, bsz := Nat.le_of_eq (hidT_size _ _), funs := trivial, frf := fun b z => (by cases z), hok := ok, bare := .of_eq hg }
  have run := (F _ baseK (to_base _ _ hns)).run callerA [] g0 H ⟨[.ref a], []⟩ [.ref a] [.ref a] _ _ rfl hr env (hbind g0 (.ref a)) (.cons rfl .nil) (hsp H onl script)
  refine codeAny_mono run (fun r s' z => ?_)
  match r, z with
  | .ok (.ret u), z =>
    obtain ⟨v, H', os, bare, un, ok', rv, q⟩ := z
    have q : v = .bl true := q
    subst q
    obtain rfl : u = Value.bool true := rv
    refine ⟨rfl, OldK.of_keep (fun b o e => ?_), os, bare⟩
    by_cases q : H b = none
    · exact un.keep b o e q (by intro z; cases z) (by intro z; cases z)
    · rcases onl b with z | ⟨ob, xs, z⟩
      · exact absurd z q
      · have e1 := (ok b _ z).1
        have e2 := (ok' b _ (un.frzs b ob _ z)).1
        rw [e] at e1
        injection e1 with e1
        rw [e1]
        exact e2
theorem lawG_call (inK : K.In g0.heap) (hns : g0.heap.Ns mainGlobals mg) (hb : g0.heap.Ns builtinsNs mb) (hbb : ∀ x : Str, x ≠ "__name__" → mb x = bootBuiltins x) (nl : g0.heap.NoLimit) (hg : g0.gens = #[])
    (ha : g0.heap.get? a = some { cls := .type "list", data := .seq vs.toArray }) (hi : IntsAre vs ns) (hl : ns.length ≤ sizeLine) (hr : Room k callerA)
    (F : ∀ base : Heap, K.In base → base.Ns mainGlobals mg → FnG P w K mg base k fa fd [x] sp) (hbind : ∀ (s : Shared) (u : Value), BindsTo s fd ⟨[u], []⟩ [(x, u)])
    (hsp : ∀ H : Hp, Only H → SqL K H a (ns.map V.int) → sp [.ref a] H (fun v _ => v = .bl true) fun _ _ _ => False) :
    codeAny (model P w) callerA (.call (.ref fa) ⟨[.ref a], []⟩) (fun r s' => r = .ok (.ret (.bool true)) ∧ OldK g0.heap s'.heap ∧ s'.os = g0.os ∧ AllBare s'.gens) g0 := by
  have rv : Vals (ns.map V.int) vs := vals_ints hi
  have el : vs.length = ns.length := hi.length
  by_cases hk : K.lookup a = none
  · refine lawG_from inK hns hb hbb nl hg ha hr F hbind hsp (fun b => if b = a then some (.frz { cls := .type "list", data := .seq vs.toArray } (.lst (ns.map V.int))) else none) (fun b => ?_) (.inl (.inr ⟨_, if_pos rfl⟩)) (fun b o e => ?_) (fun b z => ?_) (fun _ => hk)
    · by_cases q : b = a
      · exact .inr ⟨_, _, if_pos q⟩
      · exact .inl (if_neg q)
    · by_cases q : b = a
      · subst q
        have e := (if_pos rfl).symm.trans e
        injection e with e
        rw [← e]
        exact ⟨ha, by rw [List.length_map]; exact hl, vs, _, rv, ha⟩
      · have e := (if_neg q).symm.trans e
        cases e
    · by_cases q : b = a
      · exact q
      · exact absurd (if_neg q) z
  · obtain ⟨o, ho⟩ := Option.ne_none_iff_exists'.mp hk
    have e := inK a o ho
    rw [ha] at e
    injection e with e
    subst e
    exact lawG_from inK hns hb hbb nl hg ha hr F hbind hsp (fun _ => none) (fun _ => .inl rfl) (.inr ⟨_, vs.toArray, _, ho, rfl, rfl, rfl, by rw [List.size_toArray, el]; exact hl, by simpa using rv⟩) (fun b o e => by cases e) (fun b z => absurd rfl z) (fun z => absurd rfl z)
end
theorem walkG_of {l : PySem.W.OpenLaw} {n k : Nat} {q : Program} {loose : List Str} {XP : (Str → Option Value) → Heap → Prop} {YP : World → Heap → Prop} {d : DefRec} {K : Params → PySem.W.Frag} {sp : World → Sp} {x : Str}
    (hn : l.most = some n) (hn2 : n ≤ sizeLine) (hdf : d.params.defaults = []) (hr : Room k callerA) (hY : ∀ (w : World) (h : Heap), YP w h → (K w.params).In h)
    (F : ∀ (w : World) (mg : Str → Option Value) (fa : Addr) (h : Heap), (K w.params).In h → h.Ns mainGlobals mg → mg d.name = some (.ref fa) →
      ∃ fd : FuncData, (∀ (s : Shared) (u : Value), BindsTo s fd ⟨[u], []⟩ [(x, u)]) ∧ ∀ base : Heap, (K w.params).In base → base.Ns mainGlobals mg → FnG l.prog w (K w.params) mg base k fa fd [x] (sp w))
    (hsp : ∀ (w : World) (H : Hp) (a : Addr) (ns : List Int), ns.length ≤ n → Only H → SqL (K w.params) H a (ns.map V.int) → sp w [.ref a] H (fun v _ => v = .bl true) fun _ _ _ => False) :
    PySem.W.WalkO q loose XP YP l.row.toRowW d [] (fun f vs => PySem.call f vs) := by
  apply Att.attach_call hn hdf
  intro w s₀ s₁ mg mb fa o pm cd doc a vs ns G Y ho hd hcd hmg hobj hints hlen hg
  obtain ⟨fd, b, f⟩ := F w mg fa _ (hY w _ Y) G.T.g hmg
  exact lawG_call (hY w _ Y) G.T.g G.T.b G.T.builtins G.T.nolimit hg hobj hints (Nat.le_trans hlen hn2) hr f b (fun H o s => hsp w H a ns hlen o s)
/-! ### methods of a class of the program -/
structure CalM (P : Program) (w : World) (K : PySem.W.Frag) (mg : Str → Option Value) (base : Heap) (C : Addr) (x : Str) (k : Nat) (ps : List Str) (sp : Sp) (st : Stmt) (f : Addr) (fd : FuncData) : Prop where
  ok : FnOk P w K mg base CX0 k f fd ps sp
  me : Meth K C x f
  b : Binds K fd ps []
structure CalI (P : Program) (w : World) (K : PySem.W.Frag) (mg : Str → Option Value) (base : Heap) (C : Addr) (x : Str) (k : Nat) (ps : List Str) (sp : Sp) (st : Stmt) (f : Addr) (fd : FuncData) : Prop where
  ok : FnOk P w K mg base CX0 k f fd ps sp
  mkk : Mk K C f
  b : Binds K fd ps []
structure HereM (K : PySem.W.Frag) (C : Addr) (x q : Str) (st : Stmt) (ps : List Str) (f : Addr) (fd : FuncData) : Prop where
  fn : Fun K x q st f fd
  me : Meth K C x f
  b : Binds K fd ps []
structure HereI (K : PySem.W.Frag) (C : Addr) (x q : Str) (st : Stmt) (ps : List Str) (f : Addr) (fd : FuncData) : Prop where
  fn : Fun K x q st f fd
  mkk : Mk K C f
  b : Binds K fd ps []
section
variable {P : Program} {w : World} {K : PySem.W.Frag} {mg : Str → Option Value} {base : Heap}
theorem HereM.cal {C : Addr} {x q : Str} {st : Stmt} {ps N : List Str} {f : Addr} {fd : FuncData} {k : Nat} {sp : Sp} (F : HereM K C x q st ps f fd) (S : FnScope N ps (defScope st)) (len : ∀ vs H Q E, sp vs H Q E → vs.length = ps.length)
    (hbody : ∀ (cdv : Value) (A : Around) (outer : List Env) (s : Shared) (H : Hp) (vs : List V) (Q : VK) (E : XK), Room k (A.deeper (envOfC q (defScope st) s.heap.objs.size f cdv)) → sp vs H Q E →
      ∃ t, PSs (cxOf CX0 P w K mg base N q (defScope st) f cdv A outer s H E).nox (defBody st) t ∧ t { nx := fun _ H' => Q .non H', rt := Q } (L2.start N vs) H) : CalM P w K mg base C x (k + 1) ps sp st f fd :=
  ⟨F.fn.ok S len hbody, F.me, F.b⟩
theorem HereI.cal {C : Addr} {x q : Str} {st : Stmt} {ps N : List Str} {f : Addr} {fd : FuncData} {k : Nat} {sp : Sp} (F : HereI K C x q st ps f fd) (S : FnScope N ps (defScope st)) (len : ∀ vs H Q E, sp vs H Q E → vs.length = ps.length)
    (hbody : ∀ (cdv : Value) (A : Around) (outer : List Env) (s : Shared) (H : Hp) (vs : List V) (Q : VK) (E : XK), Room k (A.deeper (envOfC q (defScope st) s.heap.objs.size f cdv)) → sp vs H Q E →
      ∃ t, PSs (cxOf CX0 P w K mg base N q (defScope st) f cdv A outer s H E).nox (defBody st) t ∧ t { nx := fun _ H' => Q .non H', rt := Q } (L2.start N vs) H) : CalI P w K mg base C x (k + 1) ps sp st f fd :=
  ⟨F.fn.ok S len hbody, F.mkk, F.b⟩
end
theorem pe_fldK {X : Cx} {K : PySem.W.Frag} {e : Expr} {f : Str} {pos : Pos} {ta : TE} (he : PE X e ta) (hb : attributeBase e f X.env (eval e X.env) = eval e X.env) (q : X.K = K := by rfl) : PE X (.Attribute e f pos) (tFld K ta f) := q ▸ pe_fld he hb
theorem ps_fldK {X : Cx} {K : PySem.W.Frag} {o value : Expr} {f : Str} {pos pos' : Pos} {ta tv : TE} (ha : PE X o ta) (hv : PE X value tv) (hs : swapsWith value (some (.Attribute o f pos')) pos.line X.env = pure false) (q : X.K = K := by rfl) : PS X (.Assign [.Attribute o f pos'] value pos) (sFld K ta tv f) := q ▸ ps_fld ha hv hs
def FldR (K : PySem.W.Frag) (f : Str) (Q : VK) (x : V) (H1 : Hp) : Prop := ∃ a C dx fs v, x = .ref a ∧ H1 a = some (.ins C dx fs) ∧ Cls K C ∧ NoAttr K C f ∧ fs.lookup f = some v ∧ Q v H1
def SfR (K : PySem.W.Frag) (f : Str) (D : Ends) (σ : L2.St) (y x : V) (H2 : Hp) : Prop := ∃ a C dx fs, x = .ref a ∧ H2 a = some (.ins C dx fs) ∧ Cls K C ∧ NoAttr K C f ∧ fs.length < 1000 ∧ D.nx σ (upd H2 a (.ins C dx (putF f y fs)))
section
variable {K : PySem.W.Frag} {σ : L2.St} {H : Hp} {Q : VK} {D : Ends}
theorem r_fld {ta : TE} {f : Str} (h : ta σ H (FldR K f Q)) : tFld K ta f σ H Q := h
theorem r_fldr {f : Str} {p C dx : Addr} {fs : List (Str × V)} {v : V} (hp : H p = some (.ins C dx fs)) (c : Cls K C) (n : NoAttr K C f) (l : fs.lookup f = some v) (q : Q v H) : FldR K f Q (.ref p) H := ⟨p, C, dx, fs, v, rfl, hp, c, n, l, q⟩
theorem r_sfld {ta tv : TE} {f : Str} (h : tv σ H fun y H1 => ta σ H1 (SfR K f D σ y)) : sFld K ta tv f D σ H := h
theorem r_sfr {f : Str} {p C dx : Addr} {fs : List (Str × V)} {y : V} (hp : H p = some (.ins C dx fs)) (c : Cls K C) (n : NoAttr K C f) (l : fs.length < 1000) (q : D.nx σ (upd H p (.ins C dx (putF f y fs)))) : SfR K f D σ y (.ref p) H := ⟨p, C, dx, fs, rfl, hp, c, n, l, q⟩
end
section
variable {K : PySem.W.Frag} {D : Ends} {σ : L2.St} {H : Hp} {Q : VK}
theorem r_par {i j : Nat} {ta : TA} (h : ta σ H fun vs H1 => ∃ v w, vs = [v, w] ∧ D.nx ((σ.set i (some v)).set j (some w)) H1) : tPar i j ta D σ H := h
theorem r_parx {v w : V} {R : V → V → Prop} (h : R v w) : ∃ v' w', [v, w] = [v', w'] ∧ R v' w' := ⟨v, w, rfl, h⟩
theorem r_gtup {n : Nat} {t : TGs} {a : Addr} {xs : List V} {N : L2.St → Hp → Prop} (h : SqT K H a xs) (e : xs.length = n) (q : t xs σ H N) : gTup K n t (.ref a) σ H N := ⟨a, xs, rfl, h, e, q⟩
theorem r_gcons {t : TG} {u : TGs} {v : V} {r : List V} {N : L2.St → Hp → Prop} (q : t v σ H fun σ' H' => u r σ' H' N) : gCons t u (v :: r) σ H N := ⟨v, r, rfl, q⟩
theorem r_gnil {N : L2.St → Hp → Prop} (q : N σ H) : gNil [] σ H N := ⟨rfl, q⟩
end
section
variable {K : PySem.W.Frag} {σ : L2.St} {H : Hp} {Q : VK}
theorem walk_zipL {a b : Addr} {xs ys : List V} {n : Nat} (hn : n = min xs.length ys.length) : Walk (Itz K a b) n (fun H => SqL K H a xs ∧ SqL K H b ys) (YPair (fun i => xs[i]?) (fun i => ys[i]?)) where
  goes := fun i H hi h => ⟨xs, ys, xs[i]'(by omega), ys[i]'(by omega), h.1, h.2, List.getElem?_eq_getElem (by omega), List.getElem?_eq_getElem (by omega)⟩
  stops := fun H h => ⟨xs, ys, h.1, h.2, by omega⟩
  yields := fun i H x H' _ h y => by
    obtain ⟨T, x1, y1, e1, e2, e3, e4, e5⟩ := y
    exact ⟨T, x1, y1, e1, e2, e3, e4 xs h.1, e5 ys h.2⟩
theorem r_izl {R : It → Hp → Prop} {a b : Addr} {xs ys : List V} (e1 : SqL K H a xs) (e2 : SqL K H b ys) (h : R (Itz K a b) H) : IzR K R [.ref a, .ref b] H := ⟨a, b, xs, ys, rfl, .inl ⟨e1, e2, h⟩⟩
end
/-! ### what a suite caught, kept behind the try -/
/-- an exception of class cls, its own dict d, at a -/
def kex (a : Addr) (cls : Value) (d : Option Addr) : HO := .ext fun h => ∃ (o : Obj) (vs : Array Value), h.get? a = some o ∧ Zc cls d o ∧ o.data = .fields vs
theorem kex_ok {P : Program} {w : World} {H : Hp} {h : Heap} {a : Addr} {cls : Value} {d : Option Addr} {o : Obj} {vs : Array Value} (e : h.get? a = some o) (z : Zc cls d o) (f : o.data = .fields vs) : ObjOk P w H h a (kex a cls d) :=
  ⟨⟨o, vs, e, z, f⟩, ⟨o, e⟩, fun _ _ ⟨p, us, e1, r⟩ k => ⟨p, us, k p e1, r⟩⟩
/-- a way that ends where a is kept, slot i empty -/
def kE (i : Nat) (a : Addr) (cls : Value) (d : Option Addr) (D : Ends) : Ends where
  nx := fun σ' H' => D.nx (σ'.set i none) (upd H' a (kex a cls d))
  rt := fun v H' => D.rt v (upd H' a (kex a cls d))
  bk := fun σ' H' => D.bk (σ'.set i none) (upd H' a (kex a cls d))
  ct := fun σ' H' => D.ct (σ'.set i none) (upd H' a (kex a cls d))
def wKeep (K : PySem.W.Frag) (c : Value) (i : Nat) (ts : Addr → Value → Option Addr → TS) (Wout : WX) (D : Ends) : WX := fun cls d σ H =>
  ∃ b, PySem.W.exmOne K cls c = some b ∧ (b = true → ∀ a, H a = none → ts a cls d (kE i a cls d D) (σ.set i (some (.ref a))) H) ∧ (b = false → Wout cls d σ H)
section
variable {X : Cx} {pins : List (Addr × Obj)} {σ : L2.St} {H : Hp} {s : Shared}
/-- what stood untracked is tracked -/
theorem Inv.keepX {a : Addr} {o : HO} (I : Inv X pins σ H s) (n0 : X.s_0.heap.get? a = none) (na : H a = none) (nL : a ≠ X.env.locals) (nC : ∀ x c, X.env.cells.lookup x = some c → c ≠ a) (nP : ∀ p ∈ X.pn ++ pins, p.1 ≠ a)
    (new : ObjOk X.prog X.w (upd H a o) s.heap a o) : Inv X pins σ (upd H a o) s := by
  have ne0 : ∀ {b u}, X.s_0.heap.get? b = some u → b ≠ a := fun e z => by rw [z, n0] at e; cases e
  have neH : ∀ {b u}, H b = some u → b ≠ a := fun e z => by rw [z, na] at e; cases e
  have B := I.base
  refine ⟨I.ok, I.os, I.bare, ⟨B.keep, B.slot, fun b u e n x => by rw [upd_ne (ne0 e)]; exact B.free b u e n x, B.there, fun b xs e => ?_, fun b u xs e => ?_, fun b ps e => ?_⟩, I.loc, I.cell, by rw [upd_ne nL.symm]; exact I.free, fun x c e => by rw [upd_ne (nC x c e)]; exact I.freeC x c e, fun p hp => ?_, I.hok.laidN (fun _ _ e => e) na new, I.len⟩
  · have := B.tups b xs e
    rw [upd_ne (neH this)]; exact this
  · have := B.frzs b u xs e
    rw [upd_ne (neH this)]; exact this
  · obtain ⟨m, q⟩ := B.tbls b ps e
    exact ⟨m, by rw [upd_ne (neH q)]; exact q⟩
  · obtain ⟨e, n, r⟩ := I.pin p hp
    exact ⟨e, by rw [upd_ne (nP p hp)]; exact n, r⟩
end
section
variable {X : Cx} {x n : Str} {c : Value} {i : Nat} {body suite : List Stmt} {b₀ : Stmt} {np pos pos' : Pos} {tb : WX → TS} {ts : Addr → Value → Option Addr → TS} {Wout : WX}
/-- try: body / except x as n: suite, where what was caught stays known behind it -/
theorem ps_try_keep (hs : X.stack = X.env :: X.outer) (hf : X.env.frame = some X.env.locals) (hN : X.N.Nodup) (hi : X.N[i]? = some n) (hln : X.env.kindOf n = some .local) (hx : X.ex = []) (hc : Names X x c) (tk : Takes X Wout)
    (hb : ∀ (W : WX) (pn : List (Addr × Obj)) (xe : Value → Shared → Prop), Takes (X.tr pn xe) W → PassesOwn (model X.prog X.w) X.A X.env xe → PSs (X.tr pn xe) body (tb W))
    (hsu : ∀ (a : Addr) (oe : Obj) (cls : Value) (d : Option Addr) (pn : List (Addr × Obj)), Zc cls d oe → (∃ vs, oe.data = .fields vs) → PSs (X.suite a ((a, oe) :: pn)) (b₀ :: suite) (ts a cls d)) :
    PS X (.Try body [.ExceptHandler (some (.Name x np)) (some n) (b₀ :: suite) pos'] [] [] pos) (fun D σ H => tb (wKeep X.K c i ts Wout D) D σ H) := by
  refine ⟨fun pins s σ H D I h => ?_⟩
  have ok := I.ok
  have frames : X.A.frames = some (X.env :: X.outer) := by rw [← hs]; exact ok.frames
  let XE' : Value → Shared → Prop := fun e s₁ => wpAny (model X.prog X.w) X.A (noteFrame e X.env) (fun _ s₂ => wpAny (model X.prog X.w) X.A (setFlight e none) (fun _ s₃ =>
    wpAny (model X.prog X.w) X.A (handleBy e X.env [.ExceptHandler (some (.Name x np)) (some n) (b₀ :: suite) pos']) (SP X pins D) X.xe s₃) X.xe s₂) X.xe s₁
  have caught : Takes (X.tr (X.pn ++ pins) XE') (wKeep X.K c i ts Wout D) := by
    rintro _ s' ⟨a, B, sI, ps', σ', H', cls, d, rfl, JT, nb, up, sky, na, os, ag, b, hb1, yes, no⟩
    have J : Inv X pins σ' H' sI := JT.ofTry ok
    rw [hs] at sky nb
    refine Sky.land Zc.steady frames hf sky fun h3 fl3 up3 => ?_
    have u3 := up.trans up3
    have J3 : Inv X pins σ' H' { s' with heap := h3 } := J.landed (by rw [hs]; exact nb) fl3.1 u3 os ag
    obtain ⟨o3, v3, e3, z3, f3⟩ := fl3.there
    have out : a ∉ frs (X.env :: X.outer) := fun hm => by
      obtain ⟨_, o', q, hnf⟩ := fl3.2.2.1.mem hm
      rw [e3] at q; cases q; exact hnf _ f3
    have nL : a ≠ X.env.locals := fun z => out (List.mem_filterMap.mpr ⟨X.env, List.mem_cons_self, by rw [hf, z]⟩)
    have nF : a ∉ X.fs := fun hm => by
      obtain ⟨e, he, q⟩ := List.mem_filterMap.mp hm
      exact out (List.mem_filterMap.mpr ⟨e, List.mem_cons_of_mem _ he, q⟩)
    -- it wasn't there
    have new : sI.heap.get? a = none := by
      cases q : sI.heap.get? a with
      | none => rfl
      | some o => have z := nb a o q out; rw [fl3.2.1] at z; cases z
    have n0 : X.s_0.heap.get? a = none := by
      cases q : X.s_0.heap.get? a with
      | none => rfl
      | some o =>
        obtain ⟨o', z⟩ := J.base.there a o q (by rw [hx]; exact List.not_mem_nil)
        rw [new] at z; cases z
    have nC : ∀ x c, X.env.cells.lookup x = some c → c ≠ a := fun x c e z => by
      obtain ⟨_, _, q, _⟩ := J.cell x c e
      rw [z, new] at q; cases q
    have nP : ∀ p ∈ X.pn ++ pins, p.1 ≠ a := fun p hp z => by
      have q := (J.pin p hp).1
      rw [z, new] at q; cases q
    have S3 := J3.suite e3 f3 na nL nF
    refine wpAny_handleBy_cons (codeAny_handlers_test ?_) fun q => by cases q
    have LM := PySem.W.exm_one (M := model X.prog X.w) J3.kIn (fun A Q E s k q => wpAny_typeOf_ref (k _ _ e3) (by rw [z3.1]; exact q)) hb1
    have test : ∀ {Q E : Value → Shared → Prop}, Q c { s' with heap := h3 } → wpAny (model X.prog X.w) (X.A.mark (some (.ref a))) (eval (.Name x np) X.env) Q E { s' with heap := h3 } := fun q => by
      rcases hc with ⟨g1, g2, g3 | ⟨g3, g4, g5⟩⟩
      · exact ld_glob (X := X.suite a ((a, o3) :: (X.pn ++ pins))) S3 g1 g3 q g2
      · exact ld_blt (X := X.suite a ((a, o3) :: (X.pn ++ pins))) S3 g1 g3 g4 q g5 g2
    refine test (LM.here ?_)
    cases b with
    | false =>
      obtain ⟨_, _, _, oe, vs, T, oT, _, q1, q2, q3, q4, _⟩ := id fl3
      refine wpAny_handleBy_nil ?_
      unfold PySem.passOn
      refine wpAny_bind (wpAny_field q1 q3 q4 ?_)
      rw [if_neg (show ¬ ((Value.ref T == Value.none) = true) by simp)]
      refine wpAny_bind ?_
      rw [hf]
      exact HandSPX.setFlight_upZ fl3 fun h4 hh4 up4 => wpAny_throw (tk _ _ ⟨a, B, sI, pins, σ', H', cls, d, rfl, J, by rw [hs]; exact nb, u3.trans up4, .inr (.inr (by rw [hs]; exact hh4)), na, os, ag, no rfl⟩)
    | true =>
      refine codeAny_handlers_suite_as (HandSPX.lands_againZ fl3 fun h4 fl4 up4 => ?_)
      have J4 : Inv X pins σ' H' { s' with heap := h4 } := J.landed (by rw [hs]; exact nb) fl4.1 (u3.trans up4) os ag
      obtain ⟨o4, v4, e4, z4, f4⟩ := fl4.there
      refine store_ok (X := X.suite a ((a, o4) :: (X.pn ++ pins))) (v := .ref a) (J4.suite e4 f4 na nL nF) hN hi (.inl hln) rfl (fun s5 S5 => ?_) (.inr hln)
      refine wpAny_mono ((hsu a o4 cls d (X.pn ++ pins) z4 ⟨_, f4⟩).run [] s5 _ H' (kE i a cls d D) S5 (yes rfl a na)) (fun f s6 hsp => ?_) fun _ _ z => z.elim
      have fin : ∀ {σ6 : L2.St} {H6 : Hp} {Q : Shared → Prop}, Inv (X.suite a ((a, o4) :: (X.pn ++ pins))) [] σ6 H6 s6 → (∀ s7, Inv X pins (σ6.set i none) (upd H6 a (kex a cls d)) s7 → Q s7) →
          wpAny (model X.prog X.w) X.A (do bindName X.env n .none; unbindBehindTheSuite X.env n pos') (fun _ s7 => Q s7) X.xe s6 := fun {σ6 H6 Q} S6 k => by
        have P6 : Inv X ((a, o4) :: pins) σ6 H6 s6 := (S6.unsuite ok).pins_of fun p hp => by
          rcases List.mem_cons.mp hp with e | m
          · rw [e]; exact S6.pin (a, o4) (List.mem_append_left _ List.mem_cons_self)
          · exact (S6.unsuite ok).pin p (List.mem_append_right _ m)
        refine gone_ok P6 hN hi hln fun s7 P7 => k s7 ?_
        obtain ⟨q1, q2, _⟩ := P7.pin (a, o4) (List.mem_append_right _ List.mem_cons_self)
        exact Inv.keepX (P7.pins_of fun p hp => P7.pin p (List.mem_append_right _ (List.mem_cons_of_mem _ hp))) n0 q2 nL nC nP (kex_ok q1 z4 f4)
      match f, hsp with
      | .next, ⟨_, _, S6, q6⟩ => exact fin S6 fun s7 J7 => ⟨_, _, J7, q6⟩
      | .brk, ⟨_, _, S6, q6⟩ => exact fin S6 fun s7 J7 => ⟨_, _, J7, q6⟩
      | .cont, ⟨_, _, S6, q6⟩ => exact fin S6 fun s7 J7 => ⟨_, _, J7, q6⟩
      | .ret u, ⟨v6, _, _, S6, r6, q6⟩ => exact fin S6 fun s7 J7 => ⟨v6, _, _, J7, r6, q6⟩
  refine wpAny_Try_except (wpAny_mono ((hb _ _ XE' caught PassesOwn.looking).run [] s σ H D (I.toTry _) h) (fun f s1 q => ?_) fun e s1 he => he)
  match f, q with
  | .next, ⟨_, _, J, q⟩ => exact wpAny_execs_nil ⟨_, _, J.ofTry ok, q⟩
  | .brk, ⟨_, _, J, q⟩ => exact ⟨_, _, J.ofTry ok, q⟩
  | .cont, ⟨_, _, J, q⟩ => exact ⟨_, _, J.ofTry ok, q⟩
  | .ret u, ⟨_, _, _, J, r, q⟩ => exact ⟨_, _, _, J.ofTry ok, r, q⟩
end
/-! ### what was kept, read: a field, its class -/
def tKf (K : PySem.W.Frag) (f : Str) (te : TE) : TE := fun σ H Q => te σ H fun x H1 => ∃ (a C dd : Addr) (fs : List (Str × V)) (v : V), x = .ref a ∧ H1 a = some (kex a (.ref C) (some dd)) ∧ XfC K C ∧ PySem.W.findIn K (.ref C) f = some none ∧ H1 dd = some (.xd fs) ∧ fs.lookup f = some v ∧ Q v H1
theorem pe_kxf {X : Cx} {e : Expr} {te : TE} {pos : Pos} {n : Str} (he : PE X e te) (hb : attributeBase e n X.env (eval e X.env) = eval e X.env := by rfl) : PE X (.Attribute e n pos) (tKf X.K n te) :=
  ⟨fun pins s σ H Q I h => by
    refine attr_of hb (thn (he.run pins s σ H _ I h) fun u s1 ⟨x, H1, I1, rx, a, C, dd, fs, v, ex, ea, T, hno, ed, l, q⟩ => ?_)
    subst ex
    obtain rfl : u = Value.ref a := rx
    obtain ⟨⟨oe, vs, g1, g2, g3⟩, _⟩ := I1.hok a _ ea
    obtain ⟨mA, hns, hr⟩ := (show ObjOk X.prog X.w H1 s1.heap dd (.xd fs) from I1.hok dd _ ed)
    obtain ⟨od, ho, hl⟩ := lookIn_ns hns
    obtain ⟨w, hw, rw'⟩ := RelO.some_of (v := v) (o := mA n) (by rw [← l]; exact hr n)
    have J : PySem.W.InstAt s1.heap a oe C (some od) := ⟨g1, g2.1, by unfold PySem.W.notCls; rw [g3] <;> rfl, by rw [g2.2]; exact ho⟩
    exact HandSPX.exc_get I1.kIn J T.ga T.gg T.exC (PySem.W.findObj_own T.hdC hno rfl (by rw [hl, hw])) (handed_of rw') ⟨v, H1, I1.tok _, rw', q⟩⟩
/-- isinstance(e, c), e kept, with a dict of its own that has no __class__ -/
def rIsX (K : PySem.W.Frag) : List V → Hp → VK → Prop := fun xs H Q => ∃ (a D dd : Addr) (fs : List (Str × V)) (c : V) (cv : Value) (b : Bool), xs = [.ref a, c] ∧ H a = some (kex a (.ref D) (some dd)) ∧ H dd = some (.xd fs) ∧ ExcC K D ∧ ClsV c cv ∧ PySem.W.kitOne K (.ref D) cv = some b ∧ Q (.bl b) H
theorem cr_isX {X : Cx} : CallR X (.builtin "isinstance") (rIsX X.K) := by
  intro pins s σ H xs us Q I r h
  obtain ⟨a, D, dd, fs, c, cv, b, rfl, ea, ed, C, hcv, e, q⟩ := h
  obtain ⟨u1, u2, rfl, r1, r2⟩ := vals2 r
  obtain rfl : u1 = Value.ref a := r1
  obtain rfl := hcv.eq r2
  obtain ⟨⟨oe, vs, g1, g2, g3⟩, _⟩ := I.hok a _ ea
  obtain ⟨mA, hns, hr⟩ := (show ObjOk X.prog X.w H s.heap dd (.xd fs) from I.hok dd _ ed)
  obtain ⟨od, ho, hl⟩ := lookIn_ns hns
  have J : PySem.W.InstAt s.heap a oe D (some od) := ⟨g1, g2.1, by unfold PySem.W.notCls; rw [g3] <;> rfl, by rw [g2.2]; exact ho⟩
  refine PySem.W.kia_one (PySem.W.kitx_exc (gt := none) ?_ C.hg C.hk C.hs C.ha C.hn C.ht C.hm) I.kIn J e (fun z => nomatch z) fun tk => ⟨.bl b, H, I.tok tk, rfl, q⟩
  obtain ⟨cd, hc, _⟩ := PySem.W.any_some C.hd
  rw [hc]; rfl
/-- C.__init__(self, ..), C a class of the top over ValueError that has none of its own -/
theorem pe_cinit {X : Cx} {x : Str} {C : Addr} {mc : Value} {e : Expr} {es : List Expr} {ta : TA} {p1 p2 pos : Pos} {pl : Sem Bool} (hg : Gl X x) (gC : X.mg x = some (.ref C)) (rd : PySem.W.readsIn X.K C mc = true) (sg : PySem.W.specialIn X.K (.ref C) "__getattribute__" = some (some (.builtin "type.__getattribute__")))
    (fi : PySem.W.findCls X.K (.ref C) mc "__init__" = some (.val (.builtin "ValueError.__init__"))) (ha : PA X (e :: es) ta) (hdb : (x == ("__debug__" : Str)) = false := by decide)
    (hc : eval (.Call (.Attribute (.Name x p1) "__init__" p2) (e :: es) [] pos) X.env = (do
      let o ← eval (.Name x p1) X.env
      standAt p2.atName
      let (g, fs) ← holding [o] (getMethod o "__init__" pl)
      callWith pos g fs (backTo pos (starEach (e :: es) X.env)) (backToKw pos (keywordEach [] X.env))) := by rfl)
    (he : starEach (e :: es) X.env = (false, eval e X.env) :: starEach es X.env := by rfl) (hpl : (backTo pos (starEach es X.env)).any (·.1) = false := by rfl) :
    PE X (.Call (.Attribute (.Name x p1) "__init__" p2) (e :: es) [] pos) (tVeI X.K ta) :=
  ⟨fun pins s σ H Q I h => by
    refine PySem.W.methodCall_KW (ld_glob I hg gC ?_ hdb) hc
    refine PySem.W.method_cls I.kIn sg (PySem.W.cls_value I.kIn rd fi (by decide +kernel) ?_)
    show wpAny _ _ (callWith pos (Value.builtin "ValueError.__init__") [] (backTo pos (starEach (e :: es) X.env)) []) _ _ _
    refine PyProof.Rows.callWith_method1 (thn (ha.run pos pins _ σ H _ (I.tok _) h) fun us s1 ⟨vs, H1, I1, r1, a, D, ws, ev, hl, T, ea, q⟩ => ?_) he hpl
    subst ev
    cases r1 with
    | @cons _ u0 _ ur ra rt =>
      obtain rfl : u0 = Value.ref a := ra
      exact oinit_ok T I1 ea (by rw [← Paired.length rt, sizeLine_eq]; omega) fun s' J => ⟨.non, H1, J, rfl, q⟩⟩
/-! ### defs that may refuse; an error class's own __init__ -/
structure CalR (P : Program) (w : World) (K : PySem.W.Frag) (mg : Str → Option Value) (base : Heap) (x : Str) (k : Nat) (ps : List Str) (sp : Sp) (st : Stmt) (f : Addr) (fd : FuncData) : Prop where
  ok : FnOk P w K mg base (L2.CX P w) k f fd ps sp
  at_ : mg x = some (.ref f)
  kp : PySem.W.keepIn K (.ref f) = true
  b : Binds K fd ps []
structure CalX (P : Program) (w : World) (K : PySem.W.Frag) (mg : Str → Option Value) (base : Heap) (C : Addr) (x : Str) (k : Nat) (ps : List Str) (sp : Sp) (st : Stmt) (f : Addr) (fd : FuncData) : Prop where
  ok : FnOk P w K mg base CX0 k f fd ps sp
  oc : OexC K C
  iC : PySem.W.findIn K (.ref C) "__init__" = some (some (.ref f))
  tI : PySem.W.typeIn K (.ref f) = some (.type "function")
  b : Binds K fd ps []
structure HereX (K : PySem.W.Frag) (C : Addr) (x q : Str) (st : Stmt) (ps : List Str) (f : Addr) (fd : FuncData) : Prop where
  fn : Fun K x q st f fd
  oc : OexC K C
  iC : PySem.W.findIn K (.ref C) "__init__" = some (some (.ref f))
  tI : PySem.W.typeIn K (.ref f) = some (.type "function")
  b : Binds K fd ps []
section
variable {P : Program} {w : World} {K : PySem.W.Frag} {mg : Str → Option Value} {base : Heap}
theorem Here.calR {x : Str} {st : Stmt} {ps N : List Str} {f : Addr} {fd : FuncData} {k : Nat} {sp : Sp} (F : Here K mg x st ps f fd) (S : FnScope N ps (defScope st)) (len : ∀ vs H Q E, sp vs H Q E → vs.length = ps.length)
    (walk : ∀ (cdv : Value) (A : Around) (outer : List Env) (s : Shared) (H : Hp) (vs : List V) (Q : VK) (E : XK), Room k (A.deeper (envOfC x (defScope st) s.heap.objs.size f cdv)) → sp vs H Q E →
      ∃ t, PSs (cxOf (L2.CX P w) P w K mg base N x (defScope st) f cdv A outer s H E) (defBody st) t ∧ t { nx := fun _ H' => Q .non H', rt := Q } (L2.start N vs) H) : CalR P w K mg base x (k + 1) ps sp st f fd :=
  ⟨F.fn.okX S len walk, F.at_, F.fn.kp, F.b⟩
theorem HereX.cal {C : Addr} {x q : Str} {st : Stmt} {ps N : List Str} {f : Addr} {fd : FuncData} {k : Nat} {sp : Sp} (F : HereX K C x q st ps f fd) (S : FnScope N ps (defScope st)) (len : ∀ vs H Q E, sp vs H Q E → vs.length = ps.length)
    (walk : ∀ (cdv : Value) (A : Around) (outer : List Env) (s : Shared) (H : Hp) (vs : List V) (Q : VK) (E : XK), Room k (A.deeper (envOfC q (defScope st) s.heap.objs.size f cdv)) → sp vs H Q E →
      ∃ t, PSs (cxOf CX0 P w K mg base N q (defScope st) f cdv A outer s H E).nox (defBody st) t ∧ t { nx := fun _ H' => Q .non H', rt := Q } (L2.start N vs) H) : CalX P w K mg base C x (k + 1) ps sp st f fd :=
  ⟨F.fn.ok S len walk, F.oc, F.iC, F.tI, F.b⟩
end
theorem ps_ostK {X : Cx} {K : PySem.W.Frag} {o e : Expr} {to te : TE} {f : Str} {p' pos : Pos} (ho : PE X o to) (he : PE X e te) (hs : swapsWith e (some (.Attribute o f p')) pos.line X.env = pure false) (q : X.K = K := by rfl) : PS X (.Assign [.Attribute o f p'] e pos) (tOst K f to te) := q ▸ ps_ost ho he hs
theorem castVeI {X : Cx} {K : PySem.W.Frag} {e : Expr} {ta : TA} (h : PE X e (tVeI X.K ta)) (q : X.K = K := by rfl) : PE X e (tVeI K ta) := q ▸ h
theorem pe_kxfK {X : Cx} {K : PySem.W.Frag} {e : Expr} {te : TE} {pos : Pos} {n : Str} (he : PE X e te) (hb : attributeBase e n X.env (eval e X.env) = eval e X.env) (q : X.K = K := by rfl) : PE X (.Attribute e n pos) (tKf K n te) := q ▸ pe_kxf he hb
theorem cr_isXK {X : Cx} {K : PySem.W.Frag} (q : X.K = K := by rfl) : CallR X (.builtin "isinstance") (rIsX K) := q ▸ cr_isX
/-! ### what classes an exception is of, by rows of the written part -/
theorem exm_of {K : PySem.W.Frag} {D C : Addr} {b : Bool} (h1 : PySem.W.subIn K (.ref C) (.type "BaseException") = some true) (h2 : PySem.W.isClsIn K C = true) (h3 : PySem.W.typeIn K (.ref C) = some (.type "type")) (h4 : PySem.W.subIn K (.ref D) (.ref C) = some b) : PySem.W.exmOne K (.ref D) (.ref C) = some b := by
  have e1 : (PySem.W.subIn K (.ref C) (.type "BaseException") == some true) = true := by rw [h1] <;> rfl
  have e2 : ((PySem.W.clsIn K C).isSome && PySem.W.typeIn K (.ref C) == some (.type "type")) = true := by
    have h2' : (PySem.W.clsIn K C).isSome = true := h2
    rw [h2', h3] <;> rfl
  show (if (PySem.W.subIn K (.ref C) (.type "BaseException") == some true) = true then (if ((PySem.W.clsIn K C).isSome && PySem.W.typeIn K (.ref C) == some (.type "type")) = true then PySem.W.subIn K (.ref D) (.ref C) else none) else none) = some b
  rw [if_pos e1, if_pos e2]
  exact h4
theorem kit_self {K : PySem.W.Frag} {D : Addr} : PySem.W.kitOne K (.ref D) (.ref D) = some true := by
  unfold PySem.W.kitOne
  rw [if_pos (by simp)]
theorem kit_own {K : PySem.W.Frag} {D C : Addr} (ne : D ≠ C) {b : Bool} (h2 : PySem.W.isClsIn K C = true) (h3 : PySem.W.typeIn K (.ref C) = some (.type "type")) (h4 : PySem.W.subIn K (.ref D) (.ref C) = some b) : PySem.W.kitOne K (.ref D) (.ref C) = some b := by
  have e2 : ((PySem.W.clsIn K C).isSome && PySem.W.typeIn K (.ref C) == some (.type "type")) = true := by
    have h2' : (PySem.W.clsIn K C).isSome = true := h2
    rw [h2', h3] <;> rfl
  unfold PySem.W.kitOne
  rw [if_neg (by simpa using ne)]
  show (if ((PySem.W.clsIn K C).isSome && PySem.W.typeIn K (.ref C) == some (.type "type")) = true then PySem.W.subIn K (.ref D) (.ref C) else none) = some b
  rw [if_pos e2]
  exact h4
theorem kit_bi {K : PySem.W.Frag} {D : Addr} {n : String} {b : Bool} (hm : PySem.W.kitMeta n = true) (h4 : PySem.W.subIn K (.ref D) (.type n) = some b) : PySem.W.kitOne K (.ref D) (.type n) = some b := by
  unfold PySem.W.kitOne
  rw [if_neg (by simp)]
  show (if PySem.W.kitMeta n = true then PySem.W.subIn K (.ref D) (.type n) else none) = some b
  rw [if_pos hm]
  exact h4
theorem kit_ne {K : PySem.W.Frag} {D C : Addr} (h1 : PySem.W.subIn K (.ref D) (.ref D) = some true) (h2 : PySem.W.subIn K (.ref D) (.ref C) = some false) : D ≠ C := fun e => by
  rw [e, ] at h1 h2
  rw [h1] at h2
  cases h2
theorem kit_any2 {K : PySem.W.Frag} {D C E : Addr} (h1 : PySem.W.kitOne K (.ref D) (.ref C) = some false) (h2 : PySem.W.kitOne K (.ref D) (.ref E) = some false) : PySem.W.kitAny K (.ref D) [.ref C, .ref E] = some false := by
  unfold PySem.W.kitAny
  rw [h1]
  show PySem.W.kitAny K (.ref D) [.ref E] = some false
  unfold PySem.W.kitAny
  rw [h2]
  rfl
/-! ### {k: v for ..} where the keys are tuples -/
def tDcT (wi : TI) (g : TG) (tt : TT) (tk tv : TE) (vs : List Nat) : TE := fun σ H Q => wi σ H fun J H1 => ∀ D, H1 D = none → ∃ Wv : Nat → Nat → Hp → Prop, (∃ m, Wv 0 m (upd H1 D (.dT []))) ∧
  ∀ i m H, Wv i m H → (J.stop i H ∧ Q (.ref D) H) ∨ (J.go i H ∧ ∃ Nx : Hp → Prop, (∀ H', Nx H' → ∃ m', m' < m ∧ Wv (i + 1) m' H') ∧ ∀ x H', J.yld i H x H' → g x (wipe σ vs) H' fun σ2 H2 =>
    wipe σ2 vs = wipe σ vs ∧ tt σ2 H2 fun b H3 => if b = true then tk σ2 H3 fun y H4 => tv σ2 H4 fun z H5 => ∃ kvs k q, y = .ref q ∧ H5 q = some (.tup (k.map kV)) ∧ H5 D = some (.dT kvs) ∧ kvs.length < sizeLine ∧ Nx (upd H5 D (.dT (putK kvs k z))) else Nx H3)
theorem dT_store {X : Cx} {pins : List (Addr × Obj)} {σ : L2.St} {H : Hp} {s : Shared} {E : Value → Shared → Prop} {D q : Addr} {kvs : List (List Key × V)} {k : List Key} {v : V} {r : Value} {Q : Unit → Shared → Prop} (hu : X.A.units < cLine)
    (I : Inv X pins σ H s) (hD : H D = some (.dT kvs)) (hq : H q = some (.tup (k.map kV))) (hz : kvs.length < sizeLine) (rv : RelV v r) (fin : ∀ s', Inv X pins σ (upd H D (.dT (putK kvs k v))) s' → Q () s') : wpAny (model X.prog X.w) X.A (dictSet D (.ref q) r) Q E s := by
  obtain ⟨l0, n0, xs, rel, dd⟩ := dt_of I.hok hD
  refine wpAny_dictSet_heap (hsz := by rw [← Paired.length rel]; exact l0) (show (tupleKind (mixKind X.prog X.w)).room X.A from hu) (key_of I.hok hq) dd fun h' ⟨o, es, ep, ho, x1, x2, x3, _, x4⟩ sb => fin _ (d_write I (by rw [hD]; exact True.intro) sb ⟨o, ho⟩ ⟨by have := length_putK kvs k v; omega, n0, _, (rel.put k hq rv).keeps fun c ys ec => ?_, o, es, ep, ho, x1, x2, x3, x4⟩)
  rw [upd_ne (ne_of ec hD fun z => nomatch z)]; exact ec
section
variable {X : Cx}
theorem dcT_core {pins : List (Addr × Obj)} {s : Shared} {σ : L2.St} {H : Hp} {Q : VK} {kx vx tg iter : Expr} {ifs : List Expr} {scope : Scope} {own : List (Str × Nat)} {pos pos' : Pos} {wi : TI} {g : TG} {tt : TT} {tk tv : TE} {use : Option (Value → Sem Unit)} {Qf : Value → Shared → Prop}
    (hu : X.A.units < cLine) (hc : X.calm = true) (hN : X.N.Nodup) (I : Inv X pins σ H s) (hi : PI X tg iter wi) (ok : BlkOk X.N X.env.scope scope own)
    (hg : ∀ (s : Shared) (H : Hp) (C : Addr) (cl : List (Str × Addr)) (fp : List Addr), PG (X.blk s H scope (compEnvC scope cl C X.env) fp) tg g)
    (ht : ∀ (s : Shared) (H : Hp) (C : Addr) (cl : List (Str × Addr)) (fp : List Addr), PTs (X.blk s H scope (compEnvC scope cl C X.env) fp) ifs tt)
    (hk : ∀ (s : Shared) (H : Hp) (C : Addr) (cl : List (Str × Addr)) (fp : List Addr), PE (X.blk s H scope (compEnvC scope cl C X.env) fp) kx tk)
    (he : ∀ (s : Shared) (H : Hp) (C : Addr) (cl : List (Str × Addr)) (fp : List Addr), PE (X.blk s H scope (compEnvC scope cl C X.env) fp) vx tv) (hs : ∀ x, foldedSetIterable iter X.env x = pure x)
    (h : tDcT wi g tt tk tv (own.map (·.2)) σ H Q)
    (last : ∀ D C s' m H', Inv X pins σ H' s' → Q (.ref D) H' → s'.heap.Ns C m → FpOk X pins H' C → compPost (model X.prog X.w) X.A X.xe use Qf (.ref D) C (.ok .next) s') :
    wpAny (model X.prog X.w) X.A (comprehension (.DictComp kx vx [⟨tg, iter, ifs, 0⟩] scope pos) scope X.env pos' newDict false (eval iter X.env) use) Qf X.xe s := by
  have free : ∀ y ∈ scope.names, y.2 = .free → ∃ c, X.env.cells.lookup y.1 = some c := fun y hy e => (ok.free y hy e).elim (fun k => I.ok.has _ (.inl k)) fun k => I.ok.has _ (.inr k)
  refine wpAny_comprehension_free (use := use) rfl hs (closure_ok free) ok.kind (fun y hy e => by rw [ok.uniq y hy, e]) (thn (hi.run pins s σ H _ I h) fun _ sa hx => thn hx fun _ sb ⟨it, fp, tn, J, Hb, eit, Ib, T, stb, fb, q⟩ => ?_)
  subst eit
  refine wpAny_newObj_type (newEnv_comp ?_)
  generalize hD : sb.heap.objs.size = D
  obtain ⟨Wv, ⟨m0, w0⟩, turn⟩ := q D (Ib.hok.fresh (Nat.le_of_eq hD))
  generalize hsc : ({ sb with heap := sb.heap.push { cls := .type "dict", data := .dict #[] } } : Shared) = sc
  have hpc : sc.heap = sb.heap.push { cls := .type "dict", data := .dict #[] } := by rw [← hsc]
  have Ic : Inv X pins σ (upd Hb D (.dT [])) sc := by
    rw [← hsc]
    exact Ib.laid (t' := sb.toks) (fun b o e => Heap.get?_push_of_some _ e) (Nat.le_of_eq hD) (by rw [← hD]; exact dt_empty sb.heap Ib.big)
  have fc : ∀ b ∈ fp, FpOk X pins (upd Hb D (.dT [])) b ∧ b < sc.heap.objs.size := fun b hb => by
    have lt : b < sb.heap.objs.size := (T.obj _ _ stb b hb).elim fun o z => Heap.lt_size z.1
    exact ⟨⟨by rw [upd_ne (by rw [← hD]; exact Nat.ne_of_lt lt)]; exact (fb b hb).1, (fb b hb).2⟩, by rw [hpc, Heap.size_push]; exact Nat.lt_succ_of_lt lt⟩
  have stc : tn 0 sc.heap := T.keep _ _ _ stb fun b _ o e => by rw [hpc]; exact Heap.get?_push_of_some _ e
  have Id := block_start Ic ok hN fc
  have parts := And.intro (hg sc (upd Hb D (.dT [])) sc.heap.objs.size (cellsFrom (sc.heap.objs.size + 1) scope.names (cloFrom X.env.cells scope.names [])) fp) <| And.intro (ht sc (upd Hb D (.dT [])) sc.heap.objs.size (cellsFrom (sc.heap.objs.size + 1) scope.names (cloFrom X.env.cells scope.names [])) fp) <|
    And.intro (hk sc (upd Hb D (.dT [])) sc.heap.objs.size (cellsFrom (sc.heap.objs.size + 1) scope.names (cloFrom X.env.cells scope.names [])) fp) (he sc (upd Hb D (.dT [])) sc.heap.objs.size (cellsFrom (sc.heap.objs.size + 1) scope.names (cloFrom X.env.cells scope.names [])) fp)
  show codeAny _ _ (.compStart (.DictComp kx vx [⟨tg, iter, ifs, 0⟩] scope pos) 0 (.ref it) (.ref D) (compEnvC scope (cellsFrom (sc.heap.objs.size + 1) scope.names (cloFrom X.env.cells scope.names [])) sc.heap.objs.size X.env)) (compPost (model X.prog X.w) X.A X.xe use Qf (.ref D) sc.heap.objs.size)
    { sc with heap := pushCells (sc.heap.push { cls := .type "dict", data := .dict #[] }) scope.names }
  have none0 : ∀ b ∈ fp, (upd Hb D (.dT [])) b = none := fun b hb => (fc b hb).1.1
  generalize hce : compEnvC scope (cellsFrom (sc.heap.objs.size + 1) scope.names (cloFrom X.env.cells scope.names [])) sc.heap.objs.size X.env = ce at Id parts ⊢
  have hloc : ce.locals = sc.heap.objs.size := by subst hce; rfl
  generalize hHc : upd Hb D (.dT []) = Hc at Ic Id parts w0 none0 fc
  generalize hsd : ({ sc with heap := pushCells (sc.heap.push { cls := .type "dict", data := .dict #[] }) scope.names } : Shared) = sd at Id ⊢
  obtain ⟨pg, pt, pk, pe⟩ := parts
  have std : tn 0 sd.heap := T.keep _ _ _ stc fun b _ o e => by rw [← hsd]; exact pushCells_keeps _ _ _ _ (Heap.get?_push_of_some _ e)
  have stays : ∀ {σ' : L2.St} {H' : Hp} {s' : Shared}, Inv (X.blk sc Hc scope ce fp) [] σ' H' s' → (∀ b ∈ fp, H' b = none) → ∀ b ∈ fp, FpOk (X.blk sc Hc scope ce fp) [] H' b := fun {σ' H' s'} I' hn b hb =>
    ⟨hn b hb, (I'.ok.exf b hb).1, I'.ok.exfs b hb, .inl hb, fun x c e => (I'.ok.exf b hb).2 x c e, fun p hp => absurd (show p ∈ ([] : List (Addr × Obj)) ++ [] from hp) (by simp)⟩
  suffices loop : codeAny (model X.prog X.w) X.A (.compLoop (.DictComp kx vx [⟨tg, iter, ifs, 0⟩] scope pos) 0 (.ref it) (.ref D) ce) (compPost (model X.prog X.w) X.A X.xe use Qf (.ref D) sc.heap.objs.size) sd from codeAny_compStart_dict loop (T.self X.A 0 _ _ _ std loop)
  refine compLoop_anyD (fun n s' => ∃ i H', Inv (X.blk sc Hc scope ce fp) [] (wipe σ (own.map (·.2))) H' s' ∧ tn i s'.heap ∧ (∀ b ∈ fp, H' b = none) ∧ Wv i n H') (fun n se ⟨i, He, Ie, ste, ne, we⟩ => ?_) m0 ⟨0, Hc, Id, std, none0, w0⟩
  rcases turn i n He we with ⟨stop, qq⟩ | ⟨go, Nx, hNx, step⟩
  · refine thnF (T.done (X.blk sc Hc scope ce fp) rfl rfl rfl hc i [] se _ He (fun _ _ => False) Ie (stays Ie ne) ste stop) fun r sf ⟨hr, If⟩ => ?_
    subst hr
    have Ig : Inv X pins σ He sf := Ic.call' (ch := fp) If.os If.base If.hok If.bare fun b hb => ⟨(fc b hb).1.2.2.2.1, (fc b hb).1.2.1, (fc b hb).1.2.2.2.2.1, (fc b hb).1.2.2.2.2.2⟩
    obtain ⟨m, hn, _⟩ := If.loc
    have hn : sf.heap.Ns sc.heap.objs.size m := hloc ▸ hn
    exact last D _ sf m He Ig qq hn (Ic.fpOk (Nat.le_refl _) (hloc ▸ (show He ce.locals = none from If.free)))
  · refine thnF (T.item (X.blk sc Hc scope ce fp) rfl rfl rfl hc i [] se _ He (fun _ _ => False) Ie (stays Ie ne) ste go) fun r sf ⟨u, hr, h6⟩ => ?_
    subst hr
    refine thnF h6 fun _ sg ⟨x, Hg, Ig, rg, yg, stg, ng⟩ => thnF (pg.run _ sg _ Hg x u _ (Ig.pinned (stays Ig ng) (T.obj _ _ stg)) rg (step x Hg yg)) fun _ sh ⟨σh, Hh, Ih, wh, qh⟩ => thnF (pt.run _ sh σh Hh _ Ih qh) fun b sj ⟨Hj, Ij, qj⟩ => ?_
    have turned : ∀ {s' : Shared} {H' : Hp}, Inv (X.blk sc Hc scope ce fp) ([] ++ pinsAt fp sg.heap) σh H' s' → Nx H' → ∃ m, m < n ∧ ∃ i H', Inv (X.blk sc Hc scope ce fp) [] (wipe σ (own.map (·.2))) H' s' ∧ tn i s'.heap ∧ (∀ b ∈ fp, H' b = none) ∧ Wv i m H' := fun {s' H'} I' nx => by
      obtain ⟨m', lt, w'⟩ := hNx H' nx
      have pinned : ∀ b ∈ fp, ∀ o, sg.heap.get? b = some o → s'.heap.get? b = some o ∧ H' b = none := fun b hb o e => ⟨(I'.pin (b, o) (List.mem_append_right _ (List.mem_append_right _ (mem_pinsAt hb e)))).1, (I'.pin (b, o) (List.mem_append_right _ (List.mem_append_right _ (mem_pinsAt hb e)))).2.1⟩
      refine ⟨m', lt, i + 1, H', (I'.unpinned (pins := [])).weak (by rw [← wh, wipe_length]) (fun j v e => by rw [← wh] at e; exact (wipe_some e).1), T.keep _ _ _ stg fun b hb o e => (pinned b hb o e).1, fun b hb => ?_, w'⟩
      exact (T.obj _ _ stg b hb).elim fun o z => (pinned b hb o z.1).2
    cases b with
    | false =>
      rw [if_neg (by decide)] at qj ⊢
      exact turned Ij qj
    | true =>
      rw [if_pos rfl] at qj ⊢
      refine thnF (pk.run _ sj σh Hj _ Ij qj) fun z sk ⟨yk, Hk, Ik, rk, qk⟩ => thnF (pe.run _ sk σh Hk _ Ik qk) fun z2 sl ⟨yv, Hl, Il, rl, kvs, k, q, ek, hq, hDl, hz, nx⟩ => ?_
      subst ek
      cases (show z = Value.ref q from rk)
      exact dT_store (X := X.blk sc Hc scope ce fp) hu Il hDl hq hz rl fun sm Im => turned Im nx
theorem pe_dcT {kx vx tg iter : Expr} {ifs : List Expr} {scope : Scope} {own : List (Str × Nat)} {pos : Pos} {wi : TI} {g : TG} {tt : TT} {tk tv : TE} (hu : X.A.units < cLine) (hc : X.calm = true) (hN : X.N.Nodup) (hi : PI X tg iter wi) (ok : BlkOk X.N X.env.scope scope own)
    (hg : ∀ (s : Shared) (H : Hp) (C : Addr) (cl : List (Str × Addr)) (fp : List Addr), PG (X.blk s H scope (compEnvC scope cl C X.env) fp) tg g)
    (ht : ∀ (s : Shared) (H : Hp) (C : Addr) (cl : List (Str × Addr)) (fp : List Addr), PTs (X.blk s H scope (compEnvC scope cl C X.env) fp) ifs tt)
    (hk : ∀ (s : Shared) (H : Hp) (C : Addr) (cl : List (Str × Addr)) (fp : List Addr), PE (X.blk s H scope (compEnvC scope cl C X.env) fp) kx tk)
    (he : ∀ (s : Shared) (H : Hp) (C : Addr) (cl : List (Str × Addr)) (fp : List Addr), PE (X.blk s H scope (compEnvC scope cl C X.env) fp) vx tv) (hs : ∀ x, foldedSetIterable iter X.env x = pure x := by intro _; rfl) :
    PE X (.DictComp kx vx [⟨tg, iter, ifs, 0⟩] scope pos) (tDcT wi g tt tk tv (own.map (·.2))) := ⟨fun pins s σ H Q I h => by
  rw [arm_eval_DictComp]
  exact dcT_core hu hc hN I hi ok hg ht hk he hs h fun D C s' m H' I' q hn f => ⟨m, hn, fun h'' sb => ⟨.ref D, H', I'.turned (t' := s'.toks) (fun b o hb e => (sb.2 b hb).trans e) f.1 f.2.1 f.2.2.2.1 f.2.2.2.2.1 f.2.2.2.2.2, rfl, q⟩⟩⟩
end
theorem dcT_by {J : It} {n : Nat} {G : Hp → Prop} {Yd : Nat → Hp → V → Hp → Prop} (w : Walk J n G Yd) {g : TG} {tt : TT} {tk tv : TE} {vs : List Nat} {σ : L2.St} {H1 : Hp} {D : Addr} {Qd : Hp → Prop} (Pv : Nat → Hp → Prop) (h0 : Pv 0 (upd H1 D (.dT []))) (hG : ∀ i H, i ≤ n → Pv i H → G H)
    (hs : ∀ i x H H', i < n → Pv i H → Yd i H x H' → g x (wipe σ vs) H' fun σ2 H2 => wipe σ2 vs = wipe σ vs ∧ tt σ2 H2 fun b H3 =>
      if b = true then tk σ2 H3 fun y H4 => tv σ2 H4 fun z H5 => ∃ kvs k q, y = .ref q ∧ H5 q = some (.tup (k.map kV)) ∧ H5 D = some (.dT kvs) ∧ kvs.length < sizeLine ∧ Pv (i + 1) (upd H5 D (.dT (putK kvs k z))) else Pv (i + 1) H3)
    (hd : ∀ H, Pv n H → Qd H) : ∃ Wv : Nat → Nat → Hp → Prop, (∃ m, Wv 0 m (upd H1 D (.dT []))) ∧ ∀ i m H, Wv i m H → (J.stop i H ∧ Qd H) ∨ (J.go i H ∧ ∃ Nx : Hp → Prop, (∀ H', Nx H' → ∃ m', m' < m ∧ Wv (i + 1) m' H') ∧
      ∀ x H', J.yld i H x H' → g x (wipe σ vs) H' fun σ2 H2 => wipe σ2 vs = wipe σ vs ∧ tt σ2 H2 fun b H3 =>
        if b = true then tk σ2 H3 fun y H4 => tv σ2 H4 fun z H5 => ∃ kvs k q, y = .ref q ∧ H5 q = some (.tup (k.map kV)) ∧ H5 D = some (.dT kvs) ∧ kvs.length < sizeLine ∧ Nx (upd H5 D (.dT (putK kvs k z))) else Nx H3) := by
  refine ⟨fun i m H => m = n - i ∧ i ≤ n ∧ Pv i H, ⟨n, by rw [Nat.sub_zero], Nat.zero_le _, h0⟩, fun i m H ⟨em, hi, p⟩ => ?_⟩
  rcases Nat.lt_or_ge i n with lt | ge
  · exact .inr ⟨w.goes i H lt (hG i H hi p), Pv (i + 1), fun H' p' => ⟨n - (i + 1), by omega, rfl, lt, p'⟩, fun x H' y => hs i x H H' lt p (w.yields i H x H' lt (hG i H hi p) y)⟩
  · obtain rfl : i = n := by omega
    exact .inl ⟨w.stops H (hG _ H hi p), hd H p⟩
def DcR (g : TG) (tt : TT) (tk tv : TE) (vs : List Nat) (σ : L2.St) (Q : VK) (J : It) (H1 : Hp) : Prop := ∀ D, H1 D = none → ∃ Wv : Nat → Nat → Hp → Prop, (∃ m, Wv 0 m (upd H1 D (.dT []))) ∧
  ∀ i m H, Wv i m H → (J.stop i H ∧ Q (.ref D) H) ∨ (J.go i H ∧ ∃ Nx : Hp → Prop, (∀ H', Nx H' → ∃ m', m' < m ∧ Wv (i + 1) m' H') ∧ ∀ x H', J.yld i H x H' → g x (wipe σ vs) H' fun σ2 H2 =>
    wipe σ2 vs = wipe σ vs ∧ tt σ2 H2 fun b H3 => if b = true then tk σ2 H3 fun y H4 => tv σ2 H4 fun z H5 => ∃ kvs k q, y = .ref q ∧ H5 q = some (.tup (k.map kV)) ∧ H5 D = some (.dT kvs) ∧ kvs.length < sizeLine ∧ Nx (upd H5 D (.dT (putK kvs k z))) else Nx H3)
theorem r_dcT {wi : TI} {g : TG} {tt : TT} {tk tv : TE} {vs : List Nat} {σ : L2.St} {H : Hp} {Q : VK} (h : wi σ H (DcR g tt tk tv vs σ Q)) : tDcT wi g tt tk tv vs σ H Q := h
/-! ### repr of a list of data, where nothing is being shown -/
def rRepr (K : PySem.W.Frag) : List V → Hp → VK → Prop := fun xs H Q => ∃ (a : Addr) (d : PyData), xs = [.ref a] ∧ Dp K H (.ref a) d ∧ d.showable = true ∧ d.hasDict = false ∧ d.depth ≤ 40 ∧ d.shown.length ≤ sizeLine ∧ Q (.str d.shown) H
theorem cr_repr {X : Cx} (hg : X.A.guards = some []) (hu : X.A.units + 64 < cLine) : CallR X (.builtin "repr") (rRepr X.K) := by
  intro pins s σ H xs us Q I r h
  obtain ⟨a, d, rfl, hd, sh, nd, dep, sz, q⟩ := h
  rw [Vals.ref1 r]
  obtain ⟨as, rr⟩ := Dp.reads I d _ _ hd (show L2.RelV (.ref a) (Value.ref a) from rfl)
  exact repr_of_reads' rr sh (fun z => by rw [nd] at z; cases z) hg (by omega) (fun _ _ e => e) (fun h' u tk kp => ⟨.str _, H, I.kept kp, ⟨_, rfl⟩, q⟩) sz
theorem cr_reprK {X : Cx} {K : PySem.W.Frag} (hg : X.A.guards = some []) (hu : X.A.units + 64 < cLine) (q : X.K = K := by rfl) : CallR X (.builtin "repr") (rRepr K) := q ▸ cr_repr hg hu
def show2 (b1 b2 : Bool) : Str := PyData.shown (.list [.bool b1, .bool b2])
def show4 (b1 b2 b3 b4 : Bool) : Str := PyData.shown (.list [.bool b1, .bool b2, .bool b3, .bool b4])
theorem show2_len (b1 b2 : Bool) : (show2 b1 b2).length ≤ sizeLine := by cases b1 <;> cases b2 <;> decide +kernel
theorem show4_len (b1 b2 b3 b4 : Bool) : (show4 b1 b2 b3 b4).length ≤ sizeLine := by cases b1 <;> cases b2 <;> cases b3 <;> cases b4 <;> decide +kernel
section
variable {K : PySem.W.Frag} {H : Hp} {Q : VK}
theorem r_repr2 {a : Addr} {b1 b2 : Bool} (h : SqL K H a [.bl b1, .bl b2]) (q : Q (.str (show2 b1 b2)) H) : rRepr K [.ref a] H Q :=
  ⟨a, _, rfl, .lst h (.cons (.bl b1) (.cons (.bl b2) .nil)), rfl, rfl, Nat.le_of_ble_eq_true rfl, show2_len b1 b2, q⟩
theorem r_repr4 {a : Addr} {b1 b2 b3 b4 : Bool} (h : SqL K H a [.bl b1, .bl b2, .bl b3, .bl b4]) (q : Q (.str (show4 b1 b2 b3 b4)) H) : rRepr K [.ref a] H Q :=
  ⟨a, _, rfl, .lst h (.cons (.bl b1) (.cons (.bl b2) (.cons (.bl b3) (.cons (.bl b4) .nil)))), rfl, rfl, Nat.le_of_ble_eq_true rfl, show4_len b1 b2 b3 b4, q⟩
end
local macro_rules | `(tactic| walk_at "st1") => `(tactic| first
  | with_reducible refine r_par ?_
  | with_reducible refine r_parx ?_
  | ((with_reducible refine' r_gtup ?e1 ?e2 ?_); (case e1 => walk_at "sq"); (case e2 => rfl))
  | with_reducible refine r_gcons ?_
  | with_reducible refine r_gnil ?_
  | with_reducible refine r_ient ?_
  | ((with_reducible refine' r_ent ?e1 ?_); (case e1 => walk_at "sq")))
local macro_rules | `(tactic| walk_at "st1") => `(tactic| first
  | with_reducible refine' r_nt ?_
  | with_reducible refine' r_nf ?_
  | with_reducible refine r_un ?_
  | with_reducible refine r_u ?_)
theorem getElem?_map_int {ns : List Int} {i : Nat} {x : V} (e : (ns.map V.int)[i]? = some x) : ∃ n, ns[i]? = some n ∧ x = .int n := by
  rw [List.getElem?_map] at e
  cases h : ns[i]? with
  | none => rw [h] at e; cases e
  | some n => rw [h] at e; exact ⟨n, rfl, (Option.some.inj e).symm⟩
theorem list_ext_int {ys : List V} {ms : List Int} (hl : ys.length = ms.length) (h : ∀ (i : Nat) (y : V), ys[i]? = some y → ∃ m, ms[i]? = some m ∧ y = V.int m) : ys = ms.map V.int := by
  apply List.ext_getElem?
  intro i
  cases e : ys[i]? with
  | none =>
    rw [List.getElem?_eq_none_iff] at e
    rw [List.getElem?_eq_none_iff.mpr (by rw [List.length_map]; omega)]
  | some y =>
    obtain ⟨m, h1, rfl⟩ := h i y e
    rw [List.getElem?_map, h1]; rfl
/-! ### the law's own: draws, rows -/
def sp_law_state (K : PySem.W.Frag) : Sp := fun vs H Q _ => ∃ (a : Addr) (ns : List Int), vs = [.ref a] ∧ SqL K H a (ns.map .int) ∧ ns.length ≤ 63 ∧
  ∀ s c H', Same H H' → St s c H' → Q (.ref s) H'
def sp_law_draw (_ : PySem.W.Frag) : Sp := fun vs H Q _ => ∃ (s c : Addr) (m : Int), vs = [.ref s, .int m] ∧ St s c H ∧ (0 < m ∧ m < 1073741824) ∧
  ∀ d H', Kp [s, c] H H' → St s c H' → 0 ≤ d ∧ d < m → Q (.int d) H'
theorem St.nil0 {s c : Addr} {H : Hp} (h : St s c H) : H s ≠ none ∧ H c ≠ none := by
  obtain ⟨_, cs, j, r, h⟩ := h
  exact ⟨by rw [h.hs]; simp, by rw [h.hc]; simp⟩
theorem ints_of_all {p : Int → Prop} : ∀ {ys : List V}, (∀ y ∈ ys, ∃ n : Int, y = .int n ∧ p n) → ∃ cs : List Int, ys = cs.map .int ∧ ∀ n ∈ cs, p n
  | [], _ => ⟨[], rfl, by simp⟩
  | y :: ys, h => by
    obtain ⟨n, rfl, hn⟩ := h y List.mem_cons_self
    obtain ⟨cs, rfl, hc⟩ := ints_of_all (ys := ys) fun z hz => h z (List.mem_cons_of_mem _ hz)
    exact ⟨n :: cs, rfl, fun m hm => by
      rcases List.mem_cons.mp hm with rfl | hm
      · exact hn
      · exact hc m hm⟩
theorem atI_in {α : Type} {xs : List α} {i : Int} (h0 : 0 ≤ i) (h1 : i < xs.length) : ∃ v, atI xs i = some v ∧ v ∈ xs := by
  obtain ⟨j, rfl⟩ : ∃ j : Nat, i = j := ⟨i.toNat, by omega⟩
  have h2 : j < xs.length := by omega
  exact ⟨xs[j], atI_nat (List.getElem?_eq_getElem h2), List.getElem_mem h2⟩
section
variable {P : Program} {w : World} {K : PySem.W.Frag} {mg : Str → Option Value} {base : Heap}
theorem ok_law_draw {c_PaperReader : Addr} {c_TraceError : Addr} {c_NoText : Addr} {c_NoFlow : Addr} {c_NoUnit : Addr} (T : Tx K mg c_PaperReader c_TraceError c_NoText c_NoFlow c_NoUnit)  {f : Addr} {fd : FuncData} (F : Here K mg "_law_draw" s_law_draw ["state", "many"] f fd) : Cal P w K mg base "_law_draw" 1 ["state", "many"] (sp_law_draw K) s_law_draw f fd := by
  refine F.cal sc_law_draw (fun vs H Q E h => ?_) (fun cdv A outer s H vs Q E hr h => ?_)
  · obtain ⟨s, c, m, rfl, _⟩ := h
    rfl
  · obtain ⟨s, c, m, rfl, hst, ⟨m0, m1⟩, q⟩ := h
    refine ⟨_, (pss_cons (ps_set (i := 2) sc_law_draw.nd rfl (by first | exact .inl rfl | exact .inr rfl) (pe_op op_mod (pe_ix (ix_listK (K := K)) (pv 0) pe_int (fun _ _ => rfl)) (pe_callB (cr_lenK (K := K)) (by rfl) T.m_len (by decide +kernel) (pa_cons (pe_ix (ix_listK (K := K)) (pv 0) pe_int (fun _ _ => rfl)) pa_nil))))
      (pss_cons (ps_set (i := 3) sc_law_draw.nd rfl (by first | exact .inl rfl | exact .inr rfl) (pe_ix (ix_listK (K := K)) (pe_ix (ix_listK (K := K)) (pv 0) pe_int (fun _ _ => rfl)) (pv 2) (fun _ _ => rfl)))
      (pss_cons (ps_if (pt_cmpR op_ge (pv 3) (pe_op op_pow pe_int pe_int) (nomark _)) (pss_cons (ps_asg (pe_op op_fdivW (pv 3) (pv 1)) (pg_sub (pe_ix (ix_listK (K := K)) (pv 0) pe_int (fun _ _ => rfl)) (pv 2) set_list))
      (pss_one (ps_ret (pe_op op_mod (pv 3) (pv 1))))) pss_nil)
      (pss_cons (ps_asg (pe_op op_add (pe_ix (ix_listK (K := K)) (pv 0) pe_int (fun _ _ => rfl)) pe_int) (pg_sub (pv 0) pe_int set_list))
      (pss_cons (ps_asg (pe_op op_mod (pe_op op_add (pe_op op_add (pe_op op_mul (pe_ix (ix_listK (K := K)) (pv 0) pe_int (fun _ _ => rfl)) pe_int) (pv 3)) pe_int) pe_int) (pg_sub (pv 0) pe_int set_list))
      (pss_one (ps_ret (pe_op op_mod (pe_op op_fdivW (pe_op op_mod (pe_op op_mul (pe_ix (ix_listK (K := K)) (pv 0) pe_int (fun _ _ => rfl)) (pe_ix (ix_listK (K := K)) (pv 0) pe_int (fun _ _ => rfl))) pe_int) pe_int) (pv 1))))))))), ?_⟩
    obtain ⟨hne, cs, j, r, hs, hc, ne, nn, len, hj, hr0, hr1⟩ := hst
    have hl : 0 < (cs.map V.int).length := by rw [List.length_map]; exact List.length_pos_iff.mpr ne
    obtain ⟨i, hi, ei⟩ : ∃ i : Nat, i < cs.length ∧ j % ((cs.map V.int).length : Int) = i := by
      have h1 := Int.emod_nonneg j (show ((cs.map V.int).length : Int) ≠ 0 by omega)
      have h2 := Int.emod_lt_of_pos j (show (0 : Int) < ((cs.map V.int).length : Int) by omega)
      rw [List.length_map] at h1 h2 ⊢
      exact ⟨(j % (cs.length : Int)).toNat, by omega, by omega⟩
    have hx : atI (cs.map V.int) (j % ((cs.map V.int).length : Int)) = some (.int cs[i]) := by
      rw [ei]; exact atI_nat (by rw [List.getElem?_map, List.getElem?_eq_getElem hi]; rfl)
    have hx0 : 0 ≤ cs[i] := nn _ (List.getElem_mem hi)
    have hxi : ixN (cs.map V.int).length (j % ((cs.map V.int).length : Int)) = some i := by
      rw [ei]; unfold ixN; rw [if_pos (by omega), if_pos (by rw [List.length_map]; omega)]; rfl
    have hw : CDivW cs[i] m := wide_div (b := 30) m0 (by omega) (by decide) (by decide)
    walk_at "st"
    walk_at "if"
    refine r_ite (fun hge => ?_) (fun hlt => ?_)
    · walk_at "st"
      refine q _ _ (fun b o e hb => ?_) ⟨hne, cs.set i (cs[i] / m), j, r, ?_, ?_, ?_, ?_, ?_, hj, hr0, hr1⟩ ⟨Int.emod_nonneg _ (by omega), Int.emod_lt_of_pos _ m0⟩
      · rw [upd_ne (by intro z; exact hb (by simp [z]))]; exact e
      · walk_at "hl"
      · rw [upd_same, List.map_set]
      · intro z; exact ne (by simpa using congrArg List.length z)
      · intro x hx
        rcases List.mem_or_eq_of_mem_set hx with h | h
        · exact nn _ h
        · rw [h]; exact Int.ediv_nonneg hx0 (by omega)
      · simpa using len
    · walk_at "st"
      refine q _ _ (fun b o e hb => ?_) ⟨hne, cs, j + 1, (r * 48271 + cs[i] + 12345) % 2147483647, upd_same, ?_, ne, nn, len, by omega, Int.emod_nonneg _ (by decide), Int.emod_lt_of_pos _ (by decide)⟩ ⟨Int.emod_nonneg _ (by omega), Int.emod_lt_of_pos _ m0⟩
      · rw [upd_ne (by intro z; exact hb (by simp [z])), upd_ne (by intro z; exact hb (by simp [z]))]; exact e
      · rw [upd_ne hne.symm, upd_ne hne.symm]; exact hc
end
section
variable {P : Program} {w : World} {K : PySem.W.Frag} {mg : Str → Option Value} {base : Heap}
theorem ok_law_state {c_PaperReader : Addr} {c_TraceError : Addr} {c_NoText : Addr} {c_NoFlow : Addr} {c_NoUnit : Addr} (T : Tx K mg c_PaperReader c_TraceError c_NoText c_NoFlow c_NoUnit)  {f : Addr} {fd : FuncData} (F : Here K mg "_law_state" s_law_state ["script"] f fd) : Cal P w K mg base "_law_state" 1 ["script"] (sp_law_state K) s_law_state f fd := by
  refine F.cal sc_law_state (fun vs H Q E h => ?_) (fun cdv A outer s H vs Q E hr h => ?_)
  · obtain ⟨a, ns, rfl, _⟩ := h
    rfl
  · obtain ⟨a, ns, rfl, hS, hlen, q⟩ := h
    refine ⟨_, (pss_cons (ps_setLc (i := 1) rfl sc_law_state.nd rfl rfl (sw_true rfl rfl rfl (by decide +kernel)) (pi_listK (K := K) (pv 0)) (blkOk_by (own := [("cell", 2)]) (N := ["script", "cells", "cell"]) (sc := (defScope s_law_state)) (by decide +kernel)) (fun _ _ _ _ _ => (pg_name (i := 2) sc_law_state.nd rfl (by first | exact .inl rfl | exact .inr rfl))) (fun _ _ _ _ _ => pts_nil) (fun _ _ _ _ _ => (pe_callB cr_abs (by rfl) T.m_abs (by decide +kernel) (pa_cons (pv 2) pa_nil))))
      (pss_cons (ps_if (pt_cmpR (op_eqNilK (K := K) (hu_of64 hr)) (pv 1) (pe_lst pa_nil) (nomark _)) (pss_one (ps_set (i := 1) sc_law_state.nd rfl (by first | exact .inl rfl | exact .inr rfl) (pe_lst (pa_cons pe_int pa_nil)))) pss_nil)
      (pss_one (ps_ret (pe_lst (pa_cons (pv 1) (pa_cons pe_int (pa_cons pe_int pa_nil)))))))), ?_⟩
    walk_at "st"
    intro D hD
    refine lc_map (walk_list (xs := ns.map V.int)) (by rw [List.length_map]; omega) hD (fun _ y _ => ∃ n : Int, y = .int n ∧ 0 ≤ n) (fun _ _ _ _ h _ => h) (fun _ _ _ _ _ h _ => h) (fun H' k => k.seq hS) (fun i H1 x H2 y => by rw [y.1]; exact Same.refl _)
      (fun i x H1 H2 Y No hi sm y hY => ?_) (fun ys H' el sm eD hys => ?_)
    · obtain ⟨rfl, ex⟩ := y
      obtain ⟨n, _, rfl⟩ := getElem?_map_int ex
      refine ⟨rfl, ?_⟩
      walk_at "st"
      refine hY _ _ (Same.refl _) ⟨_, rfl, ?_⟩
      split <;> omega
    · have hall : ∀ y ∈ ys, ∃ n : Int, y = .int n ∧ 0 ≤ n := fun y hy => by
        obtain ⟨i, e⟩ := List.getElem?_of_mem hy
        exact hys i y e
      obtain ⟨cs, ecs, hcs⟩ := ints_of_all hall
      subst ecs
      have hcl2 : cs.length ≤ 63 := by rw [List.length_map, List.length_map] at el; omega
      walk_at "st"
      walk_at "if"
      intro ln hln
      have eD2 := hl_new (u := .lst []) eD hln
      have sm2 : Same H (upd H' ln (.lst [])) := sm.trans (Same.upd_new hln)
      have eln : upd H' ln (.lst []) ln = some (.lst []) := upd_same
      generalize upd H' ln (.lst []) = H2 at *
      walk_at "st"
      refine r_iteB (fun h0 => ?_) (fun h0 => ?_)
      · walk_at "st"
        intro l hl
        walk_at "st"
        intro s hs
        have ne : s ≠ l := fun z => by rw [z, upd_same] at hs; cases hs
        refine q s l _ (by walk_at "sm") ⟨ne, [1], 0, 1, upd_same, hl_set ne.symm upd_same, by simp, by simp, by simp, by omega, by omega, by omega⟩
      · walk_at "st"
        intro s hs
        have ne : s ≠ D := (ne_of_none eD2 hs).symm
        have h1 : cs ≠ [] := fun z => by rw [z] at h0; simp at h0
        exact q s D _ (by walk_at "sm") ⟨ne, cs, 0, 1, upd_same, hl_set ne.symm eD2, h1, hcs, by omega, by omega, by omega, by omega⟩
end
/-! ### texts -/
def rLenS : List V → Hp → VK → Prop := fun xs H Q => ∃ z, xs = [.str z] ∧ z.length ≤ sizeLine ∧ Q (.int z.length) H
theorem cr_lenS {X : Cx} : CallR X (.builtin "len") rLenS := call_len_str
def rInS : R2 := fun x y H Q => ∃ (c : Nat) (z : Str), x = .str ⟨#[c]⟩ ∧ y = .str z ∧ Q (.bl (decide (c ∈ z.cps.toList))) H
theorem op_inS {X : Cx} : OpR X (compareOp .In) rInS := op_in_sign
def rNinS : R2 := fun x y H Q => ∃ (c : Nat) (z : Str), x = .str ⟨#[c]⟩ ∧ y = .str z ∧ Q (.bl (!decide (c ∈ z.cps.toList))) H
theorem op_ninS {X : Cx} : OpR X (compareOp .NotIn) rNinS := op_notIn_sign
def rAddS : R2 := fun x y H Q => ∃ i j, x = .str i ∧ y = .str j ∧ i.length + j.length ≤ sizeLine ∧ Q (.str (i ++ j)) H
theorem op_addS {X : Cx} : OpR X (binaryOp .Add) rAddS := op_add_str
section
variable {K : PySem.W.Frag} {σ : L2.St} {H : Hp} {Q : VK}
theorem r_lenS {z : Str} (h : z.length ≤ sizeLine) (q : Q (.int z.length) H) : rLenS [.str z] H Q := ⟨z, rfl, h, q⟩
theorem r_inS {c : Nat} {z : Str} (q : Q (.bl (decide (c ∈ z.cps.toList))) H) : rInS (.str ⟨#[c]⟩) (.str z) H Q := ⟨c, z, rfl, rfl, q⟩
theorem r_ninS {c : Nat} {z : Str} (q : Q (.bl (!decide (c ∈ z.cps.toList))) H) : rNinS (.str ⟨#[c]⟩) (.str z) H Q := ⟨c, z, rfl, rfl, q⟩
theorem r_addS {a b : Str} (h : a.length + b.length ≤ sizeLine) (q : Q (.str (a ++ b)) H) : rAddS (.str a) (.str b) H Q := ⟨a, b, rfl, rfl, h, q⟩
theorem r_ixS {z : Str} {i : Int} {c : Nat} (h : z.length ≤ sizeLine) (e : atI z.cps.toList i = some c) (q : Q (.str ⟨#[c]⟩) H) : rIxS (.str z) (.int i) H Q := ⟨z, i, c, rfl, rfl, h, e, q⟩
def IsR (R : It → Hp → Prop) (v : V) (H : Hp) : Prop := ∃ x, v = .str x ∧ R (Its x) H
theorem r_istr {te : TE} {R : It → Hp → Prop} (h : te σ H (IsR R)) : iStr te σ H R := h
theorem r_is {R : It → Hp → Prop} {x : Str} (h : R (Its x) H) : IsR R (.str x) H := ⟨x, rfl, h⟩
end
theorem str_small {z : Str} (h : z.length ≤ 1000) : z.length ≤ sizeLine := Nat.le_trans h (by decide)
local macro_rules | `(tactic| walk_at "ssz") => `(tactic| first | decide | exact str_small (by assumption) | (have : (1000000 : Nat) ≤ sizeLine := (by decide); omega))
local macro_rules | `(tactic| walk_at "st1") => `(tactic| first
  | with_reducible refine' r_nt ?_ | with_reducible refine' r_nf ?_
  | ((with_reducible refine r_lenS ?e1 ?_); (case e1 => walk_at "ssz"))
  | with_reducible refine r_inS ?_
  | with_reducible refine r_ninS ?_
  | ((with_reducible refine r_addS ?e1 ?_); (case e1 => walk_at "ssz"))
  | ((with_reducible refine' r_ixS ?e1 ?e2 ?_); (case e1 => walk_at "ssz"); (case e2 => first | assumption | rfl))
  | with_reducible refine r_istr ?_
  | with_reducible refine r_is ?_
  | with_reducible refine r_un ?_
  | with_reducible refine r_u ?_)
local macro_rules | `(tactic| walk_at "ssz") => `(tactic| first | decide | exact str_small (by assumption) | (have : (1000000 : Nat) ≤ sizeLine := (by decide); omega))
local macro_rules | `(tactic| walk_at "st1") => `(tactic| first
  | with_reducible refine' r_nt ?_ | with_reducible refine' r_nf ?_
  | ((with_reducible refine r_lenS ?e1 ?_); (case e1 => walk_at "ssz"))
  | with_reducible refine r_inS ?_
  | with_reducible refine r_ninS ?_
  | ((with_reducible refine r_addS ?e1 ?_); (case e1 => walk_at "ssz"))
  | ((with_reducible refine' r_ixS ?e1 ?e2 ?_); (case e1 => walk_at "ssz"); (case e2 => first | assumption | rfl))
  | with_reducible refine r_istr ?_
  | with_reducible refine r_is ?_
  | with_reducible refine r_un ?_
  | with_reducible refine r_u ?_)
def cs (x : Str) : List Nat := x.cps.toList
def onlyIn (x z : Str) : Bool := (cs x).all (fun c => decide (c ∈ cs z))
def sp_has_only (_ : PySem.W.Frag) : Sp := fun vs H Q _ => ∃ x z : Str, vs = [.str x, .str z] ∧ x.length ≤ 1000 ∧ ∀ H', Same H H' → Q (.bl (onlyIn x z)) H'
section
variable {P : Program} {w : World} {K : PySem.W.Frag} {mg : Str → Option Value} {base : Heap}
theorem ok_has_only {c_PaperReader : Addr} {c_TraceError : Addr} {c_NoText : Addr} {c_NoFlow : Addr} {c_NoUnit : Addr} (T : Tx K mg c_PaperReader c_TraceError c_NoText c_NoFlow c_NoUnit)  {f : Addr} {fd : FuncData} (F : Here K mg "has_only" s_has_only ["text", "signs"] f fd) : Cal P w K mg base "has_only" 1 ["text", "signs"] (sp_has_only K) s_has_only f fd := by
  refine F.cal sc_has_only (fun vs H Q E h => ?_) (fun cdv A outer s H vs Q E hr h => ?_)
  · obtain ⟨x, z, rfl, _⟩ := h
    rfl
  · obtain ⟨x, z, rfl, hx, q⟩ := h
    refine ⟨_, (pss_one (ps_ret (pe_callB (cr_allK (K := K) rfl) (by rfl) T.m_all (by decide +kernel) (pa_cons (pe_lc rfl sc_has_only.nd (pi_str (pv 0)) (blkOk_by (own := [("sign", 2)]) (N := ["text", "signs", "sign"]) (sc := (defScope s_has_only)) (by decide +kernel)) (fun _ _ _ _ _ => (pg_name (i := 2) sc_has_only.nd rfl (by first | exact .inl rfl | exact .inr rfl))) (fun _ _ _ _ _ => pts_nil) (fun _ _ _ _ _ => (pe_cmpR op_inS (pv 2) (pv 1) (by rfl)))) pa_nil)))), ?_⟩
    walk_at "st"
    intro D hD
    have hx2 : x.cps.size ≤ 1000 := hx
    refine lc_map (walk_str (z := x)) (by omega) hD (fun i y _ => ∃ c, x.cps[i]? = some c ∧ y = .bl (decide (c ∈ cs z))) (fun _ _ _ _ h _ => h) (fun _ _ _ _ _ h _ => h) (fun _ _ => trivial) (fun i H1 x H2 y => by rw [y.1]; exact Same.refl _)
      (fun i x' H1 H2 Y No hi sm y hY => ?_) (fun ys H' el sm eD hys => ?_)
    · obtain ⟨rfl, c, ec, rfl⟩ := y
      refine ⟨rfl, ?_⟩
      walk_at "st"
      exact hY _ _ (Same.refl _) ⟨c, ec, rfl⟩
    · have eys : ys = ((cs x).map fun c => decide (c ∈ cs z)).map V.bl := by
        apply List.ext_getElem?
        intro i
        cases e2 : ys[i]? with
        | none =>
          rw [List.getElem?_eq_none_iff] at e2
          rw [List.getElem?_eq_none_iff.mpr (by simp [cs]; omega)]
        | some y =>
          obtain ⟨c, ec, rfl⟩ := hys i y e2
          have : (cs x)[i]? = some c := by unfold cs; rw [Array.getElem?_toList]; exact ec
          rw [List.getElem?_map, List.getElem?_map, this]; rfl
      subst eys
      walk_at "st"
      have := q H' sm
      rw [List.all_map]
      exact this
end
local macro_rules | `(tactic| walk_at "ssz") => `(tactic| first | decide | exact str_small (by assumption) | (have : (1000000 : Nat) ≤ sizeLine := (by decide); omega))
local macro_rules | `(tactic| walk_at "st1") => `(tactic| first
  | with_reducible refine' r_nt ?_ | with_reducible refine' r_nf ?_
  | ((with_reducible refine r_lenS ?e1 ?_); (case e1 => walk_at "ssz"))
  | with_reducible refine r_inS ?_
  | with_reducible refine r_ninS ?_
  | ((with_reducible refine r_addS ?e1 ?_); (case e1 => walk_at "ssz"))
  | ((with_reducible refine' r_ixS ?e1 ?e2 ?_); (case e1 => walk_at "ssz"); (case e2 => first | assumption | rfl))
  | with_reducible refine r_istr ?_
  | with_reducible refine r_is ?_
  | with_reducible refine r_un ?_
  | with_reducible refine r_u ?_)
/-! ### texts by their codes -/
abbrev Sx (a : List Nat) : Str := SX.S a
theorem Sx_cs (z : Str) : Sx (cs z) = z := SX.S_tl z
theorem cs_Sx (a : List Nat) : cs (Sx a) = a := rfl
theorem Sx_len (a : List Nat) : (Sx a).length = a.length := SX.S_len a
def digC (c : Nat) : Bool := decide (48 ≤ c) && decide (c ≤ 57)
def numC (n : Int) : List Nat := TL.numL n.toNat
/-- a number that is told by figures, at most so many, none with a 0 ahead of others -/
def figC (a : List Nat) (m : Int) : Option Int :=
  if (1 ≤ a.length ∧ (a.length : Int) ≤ m) ∧ a.all digC = true ∧ ¬ (a.head? = some 48 ∧ 1 < a.length) then some ((NumText.digitsVal a : Nat) : Int) else none
def optV : Option Int → V
  | none => .non
  | some n => .int n
theorem digC_iff (c : Nat) : digC c = decide (c ∈ cs "0123456789") := by
  have e : cs "0123456789" = [48, 49, 50, 51, 52, 53, 54, 55, 56, 57] := by decide
  rw [e]
  unfold digC
  by_cases h : 48 ≤ c ∧ c ≤ 57
  · have : c = 48 ∨ c = 49 ∨ c = 50 ∨ c = 51 ∨ c = 52 ∨ c = 53 ∨ c = 54 ∨ c = 55 ∨ c = 56 ∨ c = 57 := by omega
    rcases this with h | h | h | h | h | h | h | h | h | h <;> subst h <;> decide
  · have h1 : (decide (48 ≤ c) && decide (c ≤ 57)) = false := by
      rw [Bool.and_eq_false_iff]
      by_cases d : 48 ≤ c
      · exact .inr (decide_eq_false fun z => h ⟨d, z⟩)
      · exact .inl (decide_eq_false d)
    rw [h1]
    symm
    refine decide_eq_false fun m => ?_
    simp at m
    omega
theorem numC_digits (n : Int) : (numC n).all digC = true := by
  refine List.all_eq_true.mpr fun c m => ?_
  have := TL.numL_digits n.toNat c m
  unfold digC
  rw [decide_eq_true this.1, decide_eq_true this.2]; rfl
theorem numC_ne (n : Int) : numC n ≠ [] := TL.numL_ne _
theorem numC_val {n : Int} (h : 0 ≤ n) : ((NumText.digitsVal (numC n) : Nat) : Int) = n := by
  unfold numC; rw [TL.numL_val]; omega
def rStrOf : List V → Hp → VK → Prop := fun xs H Q => ∃ i, xs = [.int i] ∧ i.natAbs.log2 < 1920 ∧ Q (.str (toString i)) H
theorem cr_strOf {X : Cx} : CallR X (.type "str") rStrOf := call_str_int
def tTru (K : PySem.W.Frag) (ta : TE) : TT := fun σ H Q => ta σ H fun x H' => ∃ k, TruV K x H' k ∧ Q k H'
theorem pt_truthK {X : Cx} {K : PySem.W.Frag} {a : Expr} {ta : TE} (ha : PE X a ta) (he : ∀ whole, isTrue a X.env whole = (do let v ← whole; standAt a.pos; holding [v] (truthy v))) (q : X.K = K := by rfl) : PT X a (tTru K ta) := q ▸ pt_truth ha he
def rIntS : List V → Hp → VK → Prop := fun xs H Q => ∃ a n, xs = [.str a] ∧ PySem.intText? a = some n ∧ a.length ≤ 640 ∧ Q (.int n) H
theorem cr_intS {X : Cx} : CallR X (.type "int") rIntS := call_int_str
def rLstC : V → List V → Hp → VK → Prop := fun x xs H Q => ∃ a b, x = .str a ∧ xs = [.str b] ∧ a.length ≤ sizeLine ∧ Q (.str (Txt.lstripChars a b)) H
def rSplS : V → List V → Hp → VK → Prop := fun x xs H Q => ∃ a b, x = .str a ∧ xs = [.str b] ∧ (b.length == 0) = false ∧ a.length + 2 ≤ sizeLine ∧ ∀ p, H p = none → Q (.ref p) (upd H p (.lst ((Txt.split a b).map V.str)))
theorem mt_lstK {X : Cx} : MtR X "str.lstrip" rLstC := mt_lstripChars
theorem mt_splK {X : Cx} : MtR X "str.split" rSplS := mt_split
def rSlTx : V → Option Int → Option Int → Hp → VK → Prop := fun x lo hi H Q => ∃ z, x = .str z ∧ z.length ≤ sizeLine ∧ Q (.str (Txt.slice z lo hi)) H
theorem sl_txtK {X : Cx} : SlR X rSlTx := C8.sl_txt
theorem take_tw (f : Nat → Bool) : ∀ a : List Nat, a.take (a.takeWhile f).length = a.takeWhile f
  | [] => rfl
  | c :: a => by
    rw [List.takeWhile_cons]
    cases f c with
    | true => rw [if_pos rfl, List.length_cons, List.take_succ_cons, take_tw f a]
    | false => rw [if_neg (by decide)]; rfl
theorem numC_of {p : Int} (h : 0 ≤ p) : (toString p : Str) = Sx (numC p) := by
  obtain ⟨n, rfl⟩ := Int.eq_ofNat_of_zero_le h
  exact SX.num_S n
theorem log_small {p : Int} (h0 : 0 ≤ p) (h : p ≤ 1000000) : p.natAbs.log2 < 1920 := by
  have h1 : p.natAbs < 2 ^ 20 := by
    have : (2 : Nat) ^ 20 = 1048576 := by decide
    omega
  by_cases c : p.natAbs = 0
  · rw [c]; decide
  · exact Nat.lt_of_lt_of_le ((Nat.log2_lt c).mpr h1) (by decide)
theorem numC_le {p : Int} (h : p ≤ 1000000) : (numC p).length ≤ 7 := by
  have e : (10 : Nat) ^ 7 = 10000000 := by decide
  exact TL.numL_len (by decide) (by rw [e]; omega)
theorem drop_tw (f : Nat → Bool) : ∀ a : List Nat, a.drop (a.takeWhile f).length = a.dropWhile f
  | [] => rfl
  | c :: a => by
    rw [List.takeWhile_cons, List.dropWhile_cons]
    cases f c with
    | true => rw [if_pos rfl, if_pos rfl, List.length_cons, List.drop_succ_cons, drop_tw f a]
    | false => rw [if_neg (by decide), if_neg (by decide)]; rfl
theorem lstrip_S (a b : List Nat) : Txt.lstripChars (SX.S a) (SX.S b) = SX.S (a.dropWhile fun c => decide (c ∈ b)) := by
  have e0 : (fun c => (SX.S b).cps.contains c) = fun c => decide (c ∈ b) := by
    funext c
    rw [Array.contains_eq_mem]
    exact decide_eq_decide.mpr ⟨fun h => by simpa [SX.S] using h, fun h => by simpa [SX.S] using h⟩
  unfold Txt.lstripChars
  rw [show (SX.S b).cps.contains = fun c => (SX.S b).cps.contains c from rfl, e0, PyProof.Rows.stripBy_eq]
  have e1 : stripLo (fun c => decide (c ∈ b)) true (SX.S a) = (a.takeWhile fun c => decide (c ∈ b)).length := by
    unfold stripLo
    rw [if_pos rfl]
  have e2 : stripHi (fun c => decide (c ∈ b)) false (SX.S a) (stripLo (fun c => decide (c ∈ b)) true (SX.S a)) = a.length := by
    unfold stripHi
    rw [if_neg (by decide)]
    exact SX.S_len a
  rw [e2, e1]
  refine TL.ext_tl ?_
  show ((SX.S a).cps.extract _ _).toList = _
  rw [Array.toList_extract]
  show (a.drop _).take _ = a.dropWhile _
  rw [← List.length_drop, List.take_length]
  exact drop_tw _ a
def rJoin (K : PySem.W.Frag) : V → List V → Hp → VK → Prop := fun x xs H Q => ∃ a p, ∃ ys : List Str, x = .str a ∧ xs = [.ref p] ∧ (SqL K H p (ys.map V.str) ∨ SqT K H p (ys.map V.str)) ∧ (ys.map (·.length)).sum + ys.length * a.length ≤ 16777216 ∧ Q (.str (Txt.join a ys)) H
theorem castM1 {X : Cx} {K : PySem.W.Frag} {e : Expr} {to te : TE} (h : PE X e (tM1 (rJoin X.K) to te)) (q : X.K = K := by rfl) : PE X e (tM1 (rJoin K) to te) := q ▸ h
def rIsNn : R2 := fun x y H Q => y = .non ∧ Q (.bl (decide (x = .non))) H
theorem op_isNn {X : Cx} : OpR X (compareOp .Is) rIsNn := op_isN
section
variable {K : PySem.W.Frag} {σ : L2.St} {H : Hp} {Q : VK}
theorem r_tru {ta : TE} {R : Bool → Hp → Prop} (h : ta σ H fun x H' => ∃ k, TruV K x H' k ∧ R k H') : tTru K ta σ H R := h
theorem r_truT {p : Addr} {xs : List V} {R : Bool → Prop} (h : SqT K H p xs) (q : R (!xs.isEmpty)) : ∃ k, TruV K (.ref p) H k ∧ R k := ⟨_, .inr (.inl ⟨xs, h, rfl⟩), q⟩
theorem r_tyS {z : Str} {A : Prop} (q : A) : tyV K "str" (.str z) H ∧ A := ⟨(rfl : "str" = "str"), q⟩
theorem r_lstC {a b : List Nat} (h : a.length ≤ 1000000) (q : Q (.str (Sx (a.dropWhile fun c => decide (c ∈ b)))) H) : rLstC (.str (Sx a)) [.str (Sx b)] H Q := ⟨_, _, rfl, rfl, by rw [Sx_len]; exact Nat.le_trans h (by decide), by rw [lstrip_S]; exact q⟩
theorem r_slTo {a : List Nat} {i : Int} (h : a.length ≤ 1000000) (h0 : 0 ≤ i) (q : Q (.str (Sx (a.take i.toNat))) H) : rSlTx (.str (Sx a)) none (some i) H Q := ⟨_, rfl, by rw [Sx_len]; exact Nat.le_trans h (by decide), by rw [SX.slice_to h0]; exact q⟩
theorem r_strC {i : Int} (h : 0 ≤ i ∧ i ≤ 1000000) (q : Q (.str (Sx (numC i))) H) : rStrOf [.int i] H Q := ⟨i, rfl, log_small h.1 h.2, by rw [numC_of h.1]; exact q⟩
theorem r_m1 {r : V → List V → Hp → VK → Prop} {to te : TE} (h : to σ H fun x H1 => (∃ a, x = .str a) ∧ te σ H1 fun y H2 => r x [y] H2 Q) : tM1 r to te σ H Q := h
theorem r_sx {z : Str} {B : Prop} (h : B) : (∃ a, V.str z = .str a) ∧ B := ⟨⟨z, rfl⟩, h⟩
theorem r_joinS {a : Str} {p : Addr} {ys : List Str} (h : SqL K H p (ys.map V.str)) (z : (ys.map (·.length)).sum + ys.length * a.length ≤ 16777216) (q : Q (.str (Txt.join a ys)) H) : rJoin K (.str a) [.ref p] H Q := ⟨a, p, ys, rfl, rfl, .inl h, z, q⟩
theorem r_ifG {c : TT} {t u : TE} (J : V → Hp → Prop) (hQ : ∀ x H', J x H' → Q x H') (h : ∀ Q' : VK, (∀ x H', J x H' → Q' x H') → tIf c t u σ H Q') : tIf c t u σ H Q := h Q hQ
theorem r_tjs {t : TE} {ts : List TE} {acc : Str} {R : Str → Hp → Prop} (h : t σ H fun x H1 => ∃ y : Str, x = .str y ∧ (acc ++ y).length ≤ sizeLine ∧ tJs ts (acc ++ y) σ H1 R) : tJs (t :: ts) acc σ H R := h
theorem r_fmtI {te : TE} (h : te σ H fun x H1 => ∃ i, x = .int i ∧ (0 ≤ i ∧ i ≤ 1000000) ∧ Q (.str (Sx (numC i))) H1) (hm : ∀ {Q1 Q2 : VK}, (∀ x H1, Q1 x H1 → Q2 x H1) → te σ H Q1 → te σ H Q2) : tFmt te σ H Q :=
  hm (fun x H1 z => by
    obtain ⟨i, rfl, hi, q⟩ := z
    exact .inr ⟨i, rfl, log_small hi.1 hi.2, by rw [numC_of hi.1]; exact q⟩) h
theorem r_fmtVI {i : Nat} {k : Int} (e : σ[i]? = some (some (.int k))) (hk : 0 ≤ k ∧ k ≤ 1000000) (q : Q (.str (Sx (numC k))) H) : tFmt (tVar i) σ H Q := ⟨_, e, .inr ⟨k, rfl, log_small hk.1 hk.2, by rw [numC_of hk.1]; exact q⟩⟩
theorem r_fmtVS {i : Nat} {z : Str} (e : σ[i]? = some (some (.str z))) (hz : z.length ≤ 1000000) (q : Q (.str z) H) : tFmt (tVar i) σ H Q := ⟨_, e, .inl ⟨z, rfl, Nat.le_trans hz (by decide), q⟩⟩
theorem r_isN {x : V} (q : Q (.bl (decide (x = .non))) H) : rIsNn x .non H Q := ⟨rfl, q⟩
end
local macro_rules | `(tactic| walk_at "st1") => `(tactic| first
  | with_reducible refine r_tru ?_
  | ((with_reducible refine' r_truT ?e1 ?_); (case e1 => walk_at "sq"))
  | with_reducible refine r_isN ?_
  | with_reducible refine r_tyS ?_
  | with_reducible refine r_m1 ?_
  | with_reducible refine r_sx ?_
  | ((with_reducible refine r_strC ?e1 ?_); (case e1 => omega)))
def sp_read_figures (_ : PySem.W.Frag) : Sp := fun vs H Q _ => ∃ (a : List Nat) (m : Int), vs = [.str (Sx a), .int m] ∧ a.length ≤ 1000000 ∧ m ≤ 600 ∧ ∀ H', Same H H' → Q (optV (figC a m)) H'
section
variable {P : Program} {w : World} {K : PySem.W.Frag} {mg : Str → Option Value} {base : Heap}
theorem ok_read_figures {c_PaperReader : Addr} {c_TraceError : Addr} {c_NoText : Addr} {c_NoFlow : Addr} {c_NoUnit : Addr} (T : Tx K mg c_PaperReader c_TraceError c_NoText c_NoFlow c_NoUnit) {f_has_only : Addr} {fd_has_only : FuncData} (C_has_only : Cal P w K mg base "has_only" 1 ["text", "signs"] (sp_has_only K) s_has_only f_has_only fd_has_only) {f : Addr} {fd : FuncData} (F : Here K mg "read_figures" s_read_figures ["text", "most"] f fd) : Cal P w K mg base "read_figures" 2 ["text", "most"] (sp_read_figures K) s_read_figures f fd := by
  refine F.cal sc_read_figures (fun vs H Q E h => ?_) (fun cdv A outer s H vs Q E hr h => ?_)
  · obtain ⟨a, m, rfl, _⟩ := h
    rfl
  · obtain ⟨a, m, rfl, ha, hm, q⟩ := h
    refine ⟨_, (pss_cons (ps_if (PW.pt (pw_or (pt_not (pt_chain op_le op_le pe_int (pe_callB cr_lenS (by rfl) T.m_len (by decide +kernel) (pa_cons (pv 0) pa_nil)) (pv 1))) (pw_or1 (pt_not (pt_val (pe_call C_has_only.ok (hr.mono (by decide)) (by rfl) C_has_only.at_ C_has_only.kp C_has_only.b .nil pass0 (pa_cons (pv 0) (pa_cons (pe_glob (v := .str "0123456789") (by rfl) (T.c_FIGURES).choose_spec ⟨_, rfl⟩) pa_nil)))))))) (pss_one (ps_ret pe_non)) pss_nil)
      (pss_cons (ps_if (PW.pt (pw_and (pt_cmpR op_eq (pe_ix ix_str (pv 0) pe_int (fun _ _ => rfl)) pe_str (nomark _)) (pw_and1 (pt_cmpR op_gt (pe_callB cr_lenS (by rfl) T.m_len (by decide +kernel) (pa_cons (pv 0) pa_nil)) pe_int (nomark _))))) (pss_one (ps_ret pe_non)) pss_nil)
      (pss_one (ps_ret (pe_callTy cr_intS (by rfl) T.m_int (by decide +kernel) (pa_cons (pv 0) pa_nil)))))), ?_⟩
    have hla : (Sx a).length ≤ sizeLine := by rw [Sx_len]; exact Nat.le_trans ha (by decide)
    walk_at "st"
    walk_at "if"
    rw [Sx_len]
    have no : figC a m = none → ∀ H', Same H H' → Q .non H' := fun e H' k => by
      have := q H' k
      rw [e] at this
      exact this
    refine r_ite (fun h1 => ?_) (fun h1 => ?_)
    · walk_at "st"
      cases h2 : decide ((a.length : Int) ≤ m) with
      | false =>
        walk_at "st"
        refine no ?_ H (Same.refl _)
        unfold figC
        rw [if_neg fun z => of_decide_eq_false h2 z.1.2]
      | true =>
        have hm2 := of_decide_eq_true h2
        walk_at "st"
        refine ⟨Sx a, _, rfl, by rw [Sx_len]; omega, fun H1 s1 => ?_⟩
        have e1 : onlyIn (Sx a) (Str.ofString "0123456789") = a.all digC := by
          unfold onlyIn
          show (cs (Sx a)).all _ = _
          rw [cs_Sx]
          congr 1
          funext c
          exact (digC_iff c).symm
        rw [e1]
        walk_at "st"
        cases h3 : a.all digC with
        | false =>
          walk_at "st"
          refine no ?_ H1 s1
          unfold figC
          rw [if_neg fun z => by rw [h3] at z; exact absurd z.2.1 (by decide)]
        | true =>
          walk_at "st"
          walk_at "if"
          obtain ⟨c, r, rfl⟩ : ∃ c r, a = c :: r := by
            cases a with
            | nil => simp at h1
            | cons c r => exact ⟨c, r, rfl⟩
          have ix : atI (Sx (c :: r)).cps.toList 0 = some c := (show atI (c :: r) ((0 : Nat) : Int) = some c from atI_nat rfl)
          have yes : ∀ H', Same H H' → ¬ ((c :: r).head? = some 48 ∧ 1 < (c :: r).length) → Q (.int ((NumText.digitsVal (c :: r) : Nat) : Int)) H' := fun H' k z => by
            have := q H' k
            unfold figC at this
            rw [if_pos ⟨⟨by simp, hm2⟩, h3, z⟩] at this
            exact this
          have fin : ∀ H', Same H H' → ¬ ((c :: r).head? = some 48 ∧ 1 < (c :: r).length) → rIntS [.str (Sx (c :: r))] H' Q := fun H' k z =>
            ⟨_, _, rfl, SX.int_S h3 (List.cons_ne_nil _ _) (by omega), by rw [Sx_len]; omega, yes H' k z⟩
          walk_at "st"
          have e2 : decide (V.str ⟨#[c]⟩ = V.str (Str.ofString "0")) = decide (c = 48) := by
            refine decide_eq_decide.mpr ⟨fun z => ?_, fun z => by rw [z]; rfl⟩
            injection z with z
            injection z with z
            have : #[c] = #[48] := z
            simpa using this
          rw [e2]
          refine r_ite (fun h4 => ?_) (fun h4 => ?_)
          · walk_at "st"
            rw [Sx_len]
            refine r_ite (fun h5 => ?_) (fun h5 => ?_)
            · walk_at "st"
              refine no ?_ H1 s1
              unfold figC
              rw [if_neg fun z => z.2.2 ⟨by rw [h4]; rfl, by omega⟩]
            · walk_at "st"
              exact fin H1 s1 fun z => h5 (by have := z.2; omega)
          · walk_at "st"
            exact fin H1 s1 fun z => h4 (Option.some.inj z.1)
    · walk_at "st"
      refine no ?_ H (Same.refl _)
      unfold figC
      rw [if_neg fun z => h1 (by have := z.1.1; omega)]
end
local macro_rules | `(tactic| walk_at "ssz") => `(tactic| first | decide | exact str_small (by assumption) | (have : (1000000 : Nat) ≤ sizeLine := (by decide); omega))
local macro_rules | `(tactic| walk_at "st1") => `(tactic| first
  | with_reducible refine' r_nt ?_ | with_reducible refine' r_nf ?_
  | ((with_reducible refine r_lenS ?e1 ?_); (case e1 => walk_at "ssz"))
  | with_reducible refine r_inS ?_
  | with_reducible refine r_ninS ?_
  | ((with_reducible refine r_addS ?e1 ?_); (case e1 => walk_at "ssz"))
  | ((with_reducible refine' r_ixS ?e1 ?e2 ?_); (case e1 => walk_at "ssz"); (case e2 => first | assumption | rfl))
  | with_reducible refine r_istr ?_
  | with_reducible refine r_is ?_
  | with_reducible refine r_un ?_
  | with_reducible refine r_u ?_)
local macro_rules | `(tactic| walk_at "st1") => `(tactic| first
  | with_reducible refine r_tru ?_
  | ((with_reducible refine' r_truT ?e1 ?_); (case e1 => walk_at "sq"))
  | with_reducible refine r_isN ?_
  | with_reducible refine r_tyS ?_
  | with_reducible refine r_m1 ?_
  | with_reducible refine r_sx ?_
  | ((with_reducible refine r_strC ?e1 ?_); (case e1 => omega)))
local macro_rules | `(tactic| walk_at "st1") => `(tactic| first
  | with_reducible refine r_par ?_
  | with_reducible refine r_parx ?_
  | ((with_reducible refine' r_gtup ?e1 ?e2 ?_); (case e1 => walk_at "sq"); (case e2 => rfl))
  | with_reducible refine r_gcons ?_
  | with_reducible refine r_gnil ?_
  | with_reducible refine r_ient ?_
  | ((with_reducible refine' r_ent ?e1 ?_); (case e1 => walk_at "sq")))
/-! ### NoText -/
def sp_NoText___init__ (K : PySem.W.Frag) (C : Addr) : Sp := fun vs H Q _ => ∃ (a : Addr) (n : Int), vs = [.ref a, .int n] ∧ (0 ≤ n ∧ n ≤ 1000000) ∧ OexC K C ∧ H a = some (exo a C none) ∧
  ∀ d, H d = none → d ≠ a → Q .non (upd (upd H d (exd d [(("row" : Str), .int n)])) a (exo a C (some d)))
section
variable {P : Program} {w : World} {K : PySem.W.Frag} {mg : Str → Option Value} {base : Heap}
theorem ok_NoText___init__ {c_PaperReader : Addr} {c_TraceError : Addr} {c_NoText : Addr} {c_NoFlow : Addr} {c_NoUnit : Addr} (T : Tx K mg c_PaperReader c_TraceError c_NoText c_NoFlow c_NoUnit)  {f : Addr} {fd : FuncData} (F : HereX K c_NoText "__init__" "NoText.__init__" s_NoText___init__ ["self", "row"] f fd) : CalX P w K mg base c_NoText "__init__" 1 ["self", "row"] (sp_NoText___init__ K c_NoText) s_NoText___init__ f fd := by
  refine F.cal sc_NoText___init__ (fun vs H Q E h => ?_) (fun cdv A outer s H vs Q E hr h => ?_)
  · obtain ⟨a, n, rfl, _⟩ := h
    rfl
  · obtain ⟨a, n, rfl, hn, oc, ea, q⟩ := h
    refine ⟨_, (pss_cons (ps_expr (castVeI (K := K) (pe_cinit (by rfl) T.g_TraceError T.rd_TraceError T.sg_TraceError T.fi_TraceError (pa_cons (pv 0) (pa_cons (pe_joined (.cons pe_str (.cons (pe_fmt (pv 1)) (.cons pe_str .nil)))) pa_nil)))))
      (pss_one (ps_ostK (K := K) (pv 0) (pv 1) rfl))), ?_⟩
    have sl : (1000000 : Nat) ≤ sizeLine := by decide
    have l7 := numC_le hn.2
    walk_at "st"
    refine ⟨_, rfl, ?_⟩
    refine r_tjs ⟨Str.ofString "row ", rfl, by decide +kernel, ?_⟩
    rw [show Str.empty ++ Str.ofString "row " = Sx [114, 111, 119, 32] from rfl]
    refine r_tjs (r_fmtVI (k := n) rfl hn ⟨_, rfl, by rw [SX.S_cat, Sx_len, List.length_append]; show 4 + _ ≤ _; omega, ?_⟩)
    rw [SX.S_cat]
    refine r_tjs ⟨Str.ofString " can't stand", rfl, by rw [show Str.ofString " can't stand" = Sx [32, 99, 97, 110, 39, 116, 32, 115, 116, 97, 110, 100] from rfl, SX.S_cat, Sx_len, List.length_append, List.length_append]; show 4 + _ + 12 ≤ _; omega, ?_⟩
    refine ⟨a, c_NoText, _, rfl, (by show 1 ≤ 1000; decide), oc, ea, ?_⟩
    refine ⟨_, rfl, _, rfl, a, c_NoText, rfl, oc, T.na_row, .inl ⟨ea, fun d hd ne => ?_⟩⟩
    exact q d hd ne
end
theorem mk_NT {K : PySem.W.Frag} {C : Addr} {n : Int} {H : Hp} {Q : XK} (hn : 0 ≤ n ∧ n ≤ 1000000) (oc : OexC K C) (q : ∀ d H', Same H H' → H d = none → H' d = some (.xd [(("row" : Str), V.int n)]) → Q (.ref C) (some d) H') :
    ([V.int n] : List V).length ≤ 1000 ∧ ∀ a, H a = none → sp_NoText___init__ K C (.ref a :: ([V.int n] ++ [])) (upd H a (exo a C none)) (fun v H2 => v = .non ∧ ∃ (d : Addr) (fs : List (Str × V)), H2 a = some (exo a C (some d)) ∧ H2 d = some (exd d fs) ∧ H d = none ∧ Q (.ref C) (some d) (upd (L2.del H2 a) d (.xd fs))) (fun _ _ _ => False) := by
  refine ⟨by show 1 ≤ 1000; decide, fun a ha => ⟨a, n, rfl, hn, oc, upd_same, fun d hd ne => ?_⟩⟩
  rw [upd_ne ne] at hd
  refine ⟨rfl, d, _, upd_same, by rw [upd_ne ne, upd_same], hd, q d _ (fun b o e => ?_) hd upd_same⟩
  have nd : b ≠ d := fun z => by rw [z, hd] at e; cases e
  have na : b ≠ a := fun z => by rw [z, ha] at e; cases e
  rw [upd_ne nd, del_ne na, upd_ne na, upd_ne nd, upd_ne na]
  exact e
theorem spl_rows (a : List Nat) : (Txt.split (Sx a) (Str.ofString "\n")).map V.str = (TL.spl [10] 0 [] a).map fun p => V.str (Sx p) := by
  have e := SX.split_S (a := a) (b := [10]) (by simp) (by decide)
  rw [show Txt.split (Sx a) (Str.ofString "\n") = _ from e, List.map_map]; rfl
theorem spl_some {S : List Nat} : ∀ (k : Nat) (acc xs : List Nat), TL.spl S k acc xs ≠ []
  | _, acc, [] => by unfold TL.spl; exact List.cons_ne_nil _ _
  | 0, acc, c :: r => by
    unfold TL.spl
    split
    · exact List.cons_ne_nil _ _
    · exact spl_some 0 _ r
  | k + 1, acc, _ :: r => by unfold TL.spl; exact spl_some k acc r
theorem spl_size {S : List Nat} : ∀ (k : Nat) (acc xs : List Nat), (TL.spl S k acc xs).length ≤ xs.length + 1
  | _, acc, [] => by unfold TL.spl; exact Nat.le_refl _
  | 0, acc, c :: r => by
    unfold TL.spl
    split
    · rw [List.length_cons, List.length_cons]; exact Nat.succ_le_succ (spl_size _ [] r)
    · exact Nat.le_succ_of_le (spl_size 0 _ r)
  | k + 1, acc, _ :: r => by unfold TL.spl; exact Nat.le_succ_of_le (spl_size k acc r)
def sp_text_rows (K : PySem.W.Frag) (C : Addr) : Sp := fun vs H Q E => ∃ v : V, vs = [v] ∧
  ((∃ a : List Nat, v = .str (Sx a) ∧ a.length ≤ 1000000 ∧ ∀ t l H', Same H H' → H' t = some (.tup [.ref l, .bl (decide ((TL.spl [10] 0 [] a).getLast? = some []))]) →
      H' l = some (.lst ((if (TL.spl [10] 0 [] a).getLast? = some [] then (TL.spl [10] 0 [] a).dropLast else TL.spl [10] 0 [] a).map fun p => V.str (Sx p))) → Q (.ref t) H') ∨
    (∃ t, TyX K H v t ∧ PySem.W.kitOne K t (.type "str") = some false) ∧ ∀ d H', Same H H' → H d = none → H' d = some (.xd [(("row" : Str), .int 0)]) → E (.ref C) (some d) H')
section
variable {P : Program} {w : World} {K : PySem.W.Frag} {mg : Str → Option Value} {base : Heap}
theorem ok_text_rows {c_PaperReader : Addr} {c_TraceError : Addr} {c_NoText : Addr} {c_NoFlow : Addr} {c_NoUnit : Addr} (T : Tx K mg c_PaperReader c_TraceError c_NoText c_NoFlow c_NoUnit) {f_NoText___init__ : Addr} {fd_NoText___init__ : FuncData} (C_NoText___init__ : CalX P w K mg base c_NoText "__init__" 1 ["self", "row"] (sp_NoText___init__ K c_NoText) s_NoText___init__ f_NoText___init__ fd_NoText___init__) {f : Addr} {fd : FuncData} (F : Here K mg "text_rows" s_text_rows ["text"] f fd) : CalR P w K mg base "text_rows" 3 ["text"] (sp_text_rows K c_NoText) s_text_rows f fd := by
  refine F.calR sc_text_rows (fun vs H Q E h => ?_) (fun cdv A outer s H vs Q E hr h => ?_)
  · obtain ⟨v, rfl, _⟩ := h
    rfl
  · obtain ⟨v, rfl, h⟩ := h
    refine ⟨_, (pss_cons (ps_if (pt_not (pt_val (pe_callB (cr_isiK (K := K)) (by rfl) T.m_isinstance (by decide +kernel) (pa_cons (pv 0) (pa_cons (pe_bltn (v := .ty "str") (by rfl) T.m_str (by decide +kernel) rfl) pa_nil))))) (pss_one (ps_raise rfl (takes_of rfl rfl rfl rfl) (pmk_oex C_NoText___init__.oc C_NoText___init__.iC C_NoText___init__.tI C_NoText___init__.ok (hr.mono (by decide)) C_NoText___init__.b .nil pass0 (by rfl) T.g_NoText (pa_cons pe_int pa_nil)))) pss_nil)
      (pss_cons (ps_set (i := 1) sc_text_rows.nd rfl (by first | exact .inl rfl | exact .inr rfl) (castBM (K := K) (pe_bm PySem.F.plainAttrs_str PySem.F.slot_str_split PySem.F.type_str_split mt_splK (pv 0) (pa_cons pe_str pa_nil))))
      (pss_cons (ps_set (i := 2) sc_text_rows.nd rfl (by first | exact .inl rfl | exact .inr rfl) (castBM0 (K := K) (pe_bm0 PySem.F.plainAttrs_list PySem.F.slot_list_pop PySem.F.type_list_pop mt_pop (pv 1))))
      (pss_one (ps_ret (pe_ifExp (pt_cmpR op_eq (pv 2) pe_str (nomark _)) (pe_tup (pa_cons (pv 1) (pa_cons pe_bl pa_nil))) (pe_tup (pa_cons (pe_op op_cat (pv 1) (pe_lst (pa_cons (pv 2) pa_nil))) (pa_cons pe_bl pa_nil))))))))), ?_⟩
    rcases h with ⟨a, rfl, ha, q⟩ | ⟨⟨t, ty, kt⟩, q⟩
    · walk_at "st"
      walk_at "if"
      refine ⟨_, _, rfl, rfl, rfl, by rw [Sx_len]; exact Nat.le_trans (show a.length + 2 ≤ 1000002 by omega) (by decide), fun l hl => ?_⟩
      rw [spl_rows]
      have s1 := Same.upd_new (x := .lst ((TL.spl [10] 0 [] a).map fun p => V.str (Sx p))) hl
      have e1 : upd H l (.lst ((TL.spl [10] 0 [] a).map fun p => V.str (Sx p))) l = some (.lst ((TL.spl [10] 0 [] a).map fun p => V.str (Sx p))) := upd_same
      obtain ⟨I, z, eI⟩ : ∃ I z, TL.spl [10] 0 [] a = I ++ [z] := by
        have ne : TL.spl [10] 0 [] a ≠ [] := spl_some 0 [] a
        exact ⟨_, _, (List.dropLast_concat_getLast ne).symm⟩
      rw [eI] at s1 e1 q ⊢
      generalize upd H l (.lst ((I ++ [z]).map fun p => V.str (Sx p))) = H1 at *
      rw [List.map_append] at e1
      walk_at "st"
      refine ⟨.ref l, rfl, .inl ⟨rfl, _, .inl (.inl e1)⟩, l, _, .str (Sx z), rfl, rfl, e1, by simp, ?_⟩
      rw [List.map_cons, List.map_nil, List.dropLast_concat]
      have s2 : Same H (upd H1 l (.lst (I.map fun p => V.str (Sx p)))) := fun b o e => hl_set (ne_of_none e hl) (s1 _ _ e)
      have e2 : upd H1 l (.lst (I.map fun p => V.str (Sx p))) l = some (.lst (I.map fun p => V.str (Sx p))) := upd_same
      generalize upd H1 l (.lst (I.map fun p => V.str (Sx p))) = H2 at *
      have el : (I ++ [z]).getLast? = some z := by rw [List.getLast?_append]; rfl
      rw [el] at q
      walk_at "st"
      by_cases hz : z = []
      · subst hz
        rw [if_pos rfl, List.dropLast_concat] at q
        rw [if_pos (by decide)]
        walk_at "st"
        intro t ht
        exact q t l _ (s2.trans (Same.upd_new ht)) upd_same (hl_new e2 ht)
      · rw [if_neg fun e => hz (Option.some.inj e), decide_eq_false fun e => hz (Option.some.inj e)] at q
        have nz : ¬ V.str (Sx z) = V.str (Str.ofString "") := fun e => by
          injection e with e
          have e : cs (Sx z) = cs (Str.ofString "") := by rw [e]
          exact hz e
        rw [if_neg (by simpa using nz)]
        walk_at "st"
        intro p hp
        have sz := spl_size (S := [10]) 0 [] a
        rw [eI, List.length_append] at sz
        have np : l ≠ p := fun e => by rw [e] at e2; rw [e2] at hp; cases hp
        have s3 := s2.trans (Same.upd_new (x := .lst [V.str (Sx z)]) hp)
        refine ⟨l, p, _, _, rfl, rfl, hl_new e2 hp, upd_same, by rw [List.length_map]; show I.length + 1 ≤ _; exact Nat.le_trans (show I.length + 1 ≤ 1000001 from Nat.le_trans sz (Nat.succ_le_succ ha)) (by decide), fun l2 hl2 => ?_⟩
        have s4 := s3.trans (Same.upd_new (x := .lst (I.map (fun p => V.str (Sx p)) ++ [V.str (Sx z)])) hl2)
        walk_at "st"
        intro t ht
        refine q t l2 _ (s4.trans (Same.upd_new ht)) upd_same (hl_new ?_ ht)
        rw [upd_same, List.map_append]; rfl
    · walk_at "st"
      refine ⟨v, rfl, v, .ty "str", t, _, false, rfl, .ty _, ty, kt, false, rfl, ?_⟩
      simp only [Bool.not_false, if_true]
      exact mk_NT (n := 0) ⟨by decide, by decide⟩ C_NoText___init__.oc q
end
local macro_rules | `(tactic| walk_at "ssz") => `(tactic| first | decide | exact str_small (by assumption) | (have : (1000000 : Nat) ≤ sizeLine := (by decide); omega))
local macro_rules | `(tactic| walk_at "st1") => `(tactic| first
  | with_reducible refine' r_nt ?_ | with_reducible refine' r_nf ?_
  | ((with_reducible refine r_lenS ?e1 ?_); (case e1 => walk_at "ssz"))
  | with_reducible refine r_inS ?_
  | with_reducible refine r_ninS ?_
  | ((with_reducible refine r_addS ?e1 ?_); (case e1 => walk_at "ssz"))
  | ((with_reducible refine' r_ixS ?e1 ?e2 ?_); (case e1 => walk_at "ssz"); (case e2 => first | assumption | rfl))
  | with_reducible refine r_istr ?_
  | with_reducible refine r_is ?_
  | with_reducible refine r_un ?_
  | with_reducible refine r_u ?_)
local macro_rules | `(tactic| walk_at "st1") => `(tactic| first
  | with_reducible refine r_tru ?_
  | ((with_reducible refine' r_truT ?e1 ?_); (case e1 => walk_at "sq"))
  | with_reducible refine r_isN ?_
  | with_reducible refine r_tyS ?_
  | with_reducible refine r_m1 ?_
  | with_reducible refine r_sx ?_
  | ((with_reducible refine r_strC ?e1 ?_); (case e1 => omega)))
theorem op_inSeqK {X : Cx} {K : PySem.W.Frag} (q : X.K = K := by rfl) : OpR X (compareOp .In) (rIn K false) := q ▸ op_in_seq
/-! ### the numbers that words tell -/
def numsC : List (List Nat) → Option (List Int)
  | [] => some []
  | p :: r => match figC p 5, numsC r with
    | some n, some ns => some (n :: ns)
    | _, _ => none
theorem numsC_cons (p : List Nat) (r : List (List Nat)) : numsC (p :: r) = match figC p 5, numsC r with
    | some n, some ns => some (n :: ns)
    | _, _ => none := rfl
def toldV (ps : List (List Nat)) : List V := ps.map fun p => optV (figC p 5)
theorem nums_some : ∀ {ps : List (List Nat)} {ns : List Int}, numsC ps = some ns → toldV ps = ns.map V.int
  | [], _, e => by
    cases e; rfl
  | p :: r, ns, e => by
    rw [numsC_cons] at e
    cases e1 : figC p 5 with
    | none => rw [e1] at e; cases e
    | some n =>
      cases e2 : numsC r with
      | none => rw [e1, e2] at e; cases e
      | some ms =>
        rw [e1, e2] at e
        cases e
        show optV (figC p 5) :: toldV r = _
        rw [e1, nums_some e2]; rfl
theorem nums_in : ∀ ps : List (List Nat), inV .non (toldV ps) = (numsC ps).isNone
  | [] => rfl
  | p :: r => by
    have ih := nums_in r
    have e1 : inV .non (toldV (p :: r)) = (eqV (optV (figC p 5)) .non || inV .non (toldV r)) := rfl
    rw [e1, ih, numsC_cons]
    cases figC p 5 <;> cases numsC r <;> simp [optV, eqV]
theorem told_flat (ps : List (List Nat)) : (toldV ps).all flatV = true := List.all_eq_true.mpr fun x m => by
  obtain ⟨p, _, rfl⟩ := List.mem_map.mp m
  cases figC p 5 <;> rfl
def sp_numbers_told (_ : PySem.W.Frag) : Sp := fun vs H Q _ => ∃ (l : Addr) (ps : List (List Nat)), vs = [.ref l] ∧ H l = some (.lst (ps.map fun p => V.str (Sx p))) ∧ ps.length ≤ 20000 ∧ (∀ p ∈ ps, p.length ≤ 10000) ∧
  (numsC ps = none → ∀ H', Same H H' → Q .non H') ∧ ∀ ns, numsC ps = some ns → ∀ t H', Same H H' → H' t = some (.tup (ns.map .int)) → Q (.ref t) H'
section
variable {P : Program} {w : World} {K : PySem.W.Frag} {mg : Str → Option Value} {base : Heap}
theorem ok_numbers_told {c_PaperReader : Addr} {c_TraceError : Addr} {c_NoText : Addr} {c_NoFlow : Addr} {c_NoUnit : Addr} (T : Tx K mg c_PaperReader c_TraceError c_NoText c_NoFlow c_NoUnit) {f_read_figures : Addr} {fd_read_figures : FuncData} (C_read_figures : Cal P w K mg base "read_figures" 2 ["text", "most"] (sp_read_figures K) s_read_figures f_read_figures fd_read_figures) {f : Addr} {fd : FuncData} (F : Here K mg "numbers_told" s_numbers_told ["words"] f fd) : Cal P w K mg base "numbers_told" 3 ["words"] (sp_numbers_told K) s_numbers_told f fd := by
  refine F.cal sc_numbers_told (fun vs H Q E h => ?_) (fun cdv A outer s H vs Q E hr h => ?_)
  · obtain ⟨l, ps, rfl, _⟩ := h
    rfl
  · obtain ⟨l, ps, rfl, hl, lp, sz, qn, qs⟩ := h
    refine ⟨_, (pss_cons (ps_set (i := 1) sc_numbers_told.nd rfl (by first | exact .inl rfl | exact .inr rfl) (pe_callTy (cr_tupOfK (K := K)) (by rfl) T.m_tuple (by decide +kernel) (pa_cons (pe_lc rfl sc_numbers_told.nd (pi_listK (K := K) (pv 0)) (blkOk_by (own := [("word", 2)]) (N := ["words", "numbers", "word"]) (sc := (defScope s_numbers_told)) (by decide +kernel)) (fun _ _ _ _ _ => (pg_name (i := 2) sc_numbers_told.nd rfl (by first | exact .inl rfl | exact .inr rfl))) (fun _ _ _ _ _ => pts_nil) (fun _ _ _ _ _ => (pe_call C_read_figures.ok (hr.mono (by decide)) (by rfl) C_read_figures.at_ C_read_figures.kp C_read_figures.b .nil pass0 (pa_cons (pv 2) (pa_cons (pe_glob (v := .int 5) (by rfl) (T.c_MOST_FIGURES).choose_spec ⟨_, rfl⟩) pa_nil))))) pa_nil)))
      (pss_one (ps_ret (pe_ifExp (pt_cmpR (op_inSeqK (K := K)) pe_non (pv 1) (by rfl)) pe_non (pv 1))))), ?_⟩
    walk_at "st"
    intro D hD
    refine lc_map (walk_list (xs := ps.map fun p => V.str (Sx p))) (by rw [List.length_map]; omega) hD (fun i y _ => ∃ p, ps[i]? = some p ∧ y = optV (figC p 5)) (fun _ _ _ _ h _ => h) (fun _ _ _ _ _ h _ => h) (fun H' k => SqL.of (k _ _ hl)) (fun i H1 x H2 y => by rw [y.1]; exact Same.refl _)
      (fun i x H1 H2 Y No hi s1 y hY => ?_) (fun ys H' el s1 eD hys => ?_)
    · obtain ⟨rfl, ex⟩ := y
      rw [List.getElem?_map] at ex
      cases er : ps[i]? with
      | none => rw [er] at ex; cases ex
      | some p =>
        rw [er] at ex
        obtain rfl : V.str (Sx p) = x := Option.some.inj ex
        have hp := sz p (List.mem_of_getElem? er)
        refine ⟨rfl, ?_⟩
        walk_at "st"
        exact ⟨p, 5, rfl, Nat.le_trans hp (by decide), by decide, fun H3 s3 => hY _ _ s3 ⟨p, er, rfl⟩⟩
    · obtain rfl : ys = toldV ps := by
        unfold toldV
        apply List.ext_getElem?
        intro i
        cases e : ys[i]? with
        | none =>
          rw [List.getElem?_eq_none_iff] at e
          rw [List.getElem?_eq_none_iff.mpr (by rw [List.length_map]; rw [el, List.length_map] at e; exact e)]
        | some y =>
          obtain ⟨p, ep, rfl⟩ := hys i y e
          rw [List.getElem?_map, ep]; rfl
      walk_at "st"
      intro t ht
      have st := s1.trans (Same.upd_new (x := .tup (toldV ps)) ht)
      walk_at "st"
      refine ⟨t, toldV ps, rfl, .inr (SqT.of upd_same), rfl, told_flat ps, ?_⟩
      rw [nums_in]
      cases e : numsC ps with
      | none =>
        refine ⟨true, rfl, ?_⟩
        rw [if_pos rfl]
        walk_at "st"
        exact qn e _ st
      | some ns =>
        rw [if_neg (by simp)]
        refine ⟨false, rfl, ?_⟩
        rw [if_neg (by simp)]
        walk_at "st"
        exact qs ns e t _ st (by rw [upd_same, nums_some e])
end
local macro_rules | `(tactic| walk_at "ssz") => `(tactic| first | decide | exact str_small (by assumption) | (have : (1000000 : Nat) ≤ sizeLine := (by decide); omega))
local macro_rules | `(tactic| walk_at "st1") => `(tactic| first
  | with_reducible refine' r_nt ?_ | with_reducible refine' r_nf ?_
  | ((with_reducible refine r_lenS ?e1 ?_); (case e1 => walk_at "ssz"))
  | with_reducible refine r_inS ?_
  | with_reducible refine r_ninS ?_
  | ((with_reducible refine r_addS ?e1 ?_); (case e1 => walk_at "ssz"))
  | ((with_reducible refine' r_ixS ?e1 ?e2 ?_); (case e1 => walk_at "ssz"); (case e2 => first | assumption | rfl))
  | with_reducible refine r_istr ?_
  | with_reducible refine r_is ?_
  | with_reducible refine r_un ?_
  | with_reducible refine r_u ?_)
local macro_rules | `(tactic| walk_at "st1") => `(tactic| first
  | with_reducible refine r_tru ?_
  | ((with_reducible refine' r_truT ?e1 ?_); (case e1 => walk_at "sq"))
  | with_reducible refine r_isN ?_
  | with_reducible refine r_tyS ?_
  | with_reducible refine r_m1 ?_
  | with_reducible refine r_sx ?_
  | ((with_reducible refine r_strC ?e1 ?_); (case e1 => omega)))
local macro_rules | `(tactic| walk_at "st1") => `(tactic| first
  | with_reducible refine r_fld ?_
  | with_reducible refine r_sfld ?_
  | ((with_reducible refine' r_fldr ?e1 ?e2 ?e3 ?e4 ?_); (case e1 => walk_at "hl"); (case e2 => assumption); (case e3 => assumption); (case e4 => assumption)))
/-! ### tuples of rows, as they stand -/
def RowV (H : Hp) (v : V) (r : List Int) : Prop := ∃ c, v = .ref c ∧ H c = some (.tup (r.map .int))
def Rws (H : Hp) (us : List V) (rows : List (List Int)) : Prop := us.length = rows.length ∧ ∀ (i : Nat) (v : V), us[i]? = some v → ∃ r, rows[i]? = some r ∧ RowV H v r
theorem RowV.same {H H' : Hp} {v : V} {x : List Int} (h : RowV H v x) (k : Same H H') : RowV H' v x := by
  obtain ⟨c, e, h1⟩ := h
  exact ⟨c, e, k _ _ h1⟩
theorem Rws.same {H H' : Hp} {us : List V} {rows : List (List Int)} (h : Rws H us rows) (k : Same H H') : Rws H' us rows :=
  ⟨h.1, fun i v e => (h.2 i v e).imp fun _ y => ⟨y.1, y.2.same k⟩⟩
theorem St.tupOut {s c a : Addr} {H : Hp} {xs : List V} (h : St s c H) (e : H a = some (.tup xs)) : a ∉ [s, c] := by
  obtain ⟨_, cs, j, r, h⟩ := h
  intro z
  rcases List.mem_cons.mp z with e1 | z
  · rw [e1, h.hs] at e; cases e
  · rw [List.mem_singleton.mp z, h.hc] at e; cases e
theorem Rws.kp {S : List Addr} {H H' : Hp} {us : List V} {rows : List (List Int)} (h : Rws H us rows) (k : Kp S H H') (o : ∀ a xs, H a = some (.tup xs) → a ∉ S) : Rws H' us rows :=
  ⟨h.1, fun i v e => by
    obtain ⟨r, er, c, e1, hc⟩ := h.2 i v e
    exact ⟨r, er, c, e1, k _ _ hc (o _ _ hc)⟩⟩
theorem Rws.kpSt {s c : Addr} {H H' : Hp} {us : List V} {rows : List (List Int)} (h : Rws H us rows) (k : Kp [s, c] H H') (t : St s c H) : Rws H' us rows := h.kp k fun _ _ e => t.tupOut e
theorem Rws.upd {H : Hp} {us : List V} {rows : List (List Int)} {l : Addr} {xs ys : List V} (h : Rws H us rows) (e : H l = some (.lst xs)) : Rws (upd H l (.lst ys)) us rows :=
  ⟨h.1, fun i v ev => by
    obtain ⟨r, er, c, e1, hc⟩ := h.2 i v ev
    exact ⟨r, er, c, e1, hl_set (fun z => by rw [z, e] at hc; cases hc) hc⟩⟩
theorem Rws.append {H : Hp} {us vs : List V} {rows qs : List (List Int)} (h : Rws H us rows) (k : Rws H vs qs) : Rws H (us ++ vs) (rows ++ qs) :=
  ⟨by rw [List.length_append, List.length_append, h.1, k.1], fun i v e => by
    by_cases lt : i < us.length
    · rw [List.getElem?_append_left lt] at e
      rw [List.getElem?_append_left (by rw [← h.1]; exact lt)]
      exact h.2 i v e
    · rw [List.getElem?_append_right (by omega)] at e
      rw [List.getElem?_append_right (by rw [← h.1]; omega), ← h.1]
      exact k.2 _ v e⟩
theorem Rws.row {H : Hp} {us : List V} {rows : List (List Int)} {i : Nat} {v : V} {r : List Int} (h : Rws H us rows) (e : us[i]? = some v) (f : rows[i]? = some r) : RowV H v r := by
  obtain ⟨q, eq, pv⟩ := h.2 i v e
  rw [f] at eq; cases eq; exact pv
def Lot (H : Hp) (a : Addr) (rows : List (List Int)) : Prop := ∃ us, H a = some (.tup us) ∧ Rws H us rows
theorem Lot.same {H H' : Hp} {a : Addr} {rows : List (List Int)} (h : Lot H a rows) (k : Same H H') : Lot H' a rows := h.imp fun _ z => ⟨k _ _ z.1, z.2.same k⟩
theorem Lot.kpSt {s c : Addr} {H H' : Hp} {a : Addr} {rows : List (List Int)} (h : Lot H a rows) (k : Kp [s, c] H H') (t : St s c H) : Lot H' a rows := h.imp fun _ z => ⟨k _ _ z.1 (t.tupOut z.1), z.2.kpSt k t⟩
theorem op_leTK {X : Cx} {K : PySem.W.Frag} (hu : X.A.units + 64 < cLine) (q : X.K = K := by rfl) : OpR X (compareOp .LtE) (rLeT K) := q ▸ op_leT (by omega)
abbrev Sheet := List ((Int × Int) × List (List Int))
/-! ### the reader of papers -/
def PrsAt (H : Hp) (us : List V) (ps : List (Int × Int)) : Prop := us.length = ps.length ∧ ∀ (i : Nat) (v : V), us[i]? = some v → ∃ p, ps[i]? = some p ∧ ∃ t, v = .ref t ∧ H t = some (.tup [.int p.1, .int p.2])
theorem PrsAt.same {H H' : Hp} {us : List V} {ps : List (Int × Int)} (h : PrsAt H us ps) (k : ∀ t xs, H t = some (.tup xs) → H' t = some (.tup xs)) : PrsAt H' us ps :=
  ⟨h.1, fun i v e => by
    obtain ⟨p, ep, t, rfl, ht⟩ := h.2 i v e
    exact ⟨p, ep, t, rfl, k _ _ ht⟩⟩
theorem PrsAt.snoc {H : Hp} {us : List V} {ps : List (Int × Int)} {t : Addr} {p : Int × Int} (h : PrsAt H us ps) (ht : H t = some (.tup [.int p.1, .int p.2])) : PrsAt H (us ++ [.ref t]) (ps ++ [p]) :=
  ⟨by rw [List.length_append, List.length_append, h.1]; rfl, fun i v e => by
    by_cases c : i < us.length
    · rw [List.getElem?_append_left c] at e
      rw [List.getElem?_append_left (by rw [← h.1]; exact c)]
      exact h.2 i v e
    · rw [List.getElem?_append_right (by omega)] at e
      rw [List.getElem?_append_right (by rw [← h.1]; omega), ← h.1]
      cases hi : i - us.length with
      | zero => rw [hi] at e; exact ⟨p, rfl, t, (Option.some.inj (show some (V.ref t) = some v from e)).symm, ht⟩
      | succ n => rw [hi] at e; simp at e⟩
theorem Rws.tups {H H' : Hp} {us : List V} {rows : List (List Int)} (h : Rws H us rows) (k : ∀ t xs, H t = some (.tup xs) → H' t = some (.tup xs)) : Rws H' us rows :=
  ⟨h.1, fun i v e => by
    obtain ⟨r, er, c, rfl, hc⟩ := h.2 i v e
    exact ⟨r, er, c, rfl, k _ _ hc⟩⟩
def rdF (A B : Addr) : List (Str × V) := putF "rows_told" (.ref B) (putF "pairs_told" (.ref A) [])
theorem rd_ne : ¬ (("pairs_told" : Str) = "rows_told") := by decide +kernel
theorem rdF_eq (A B : Addr) : rdF A B = ([("pairs_told", V.ref A), ("rows_told", V.ref B)] : List (Str × V)) := by
  show (if ("pairs_told" : Str) = "rows_told" then [(("pairs_told" : Str), V.ref B)] else (("pairs_told" : Str), V.ref A) :: putF "rows_told" (V.ref B) []) = _
  rw [if_neg rd_ne]
  all_goals rfl
theorem rdF_p (A B : Addr) : (rdF A B).lookup ("pairs_told" : Str) = some (.ref A) := by
  unfold rdF
  rw [lookup_putF, if_neg rd_ne, lookup_putF, if_pos rfl]
theorem rdF_r (A B : Addr) : (rdF A B).lookup ("rows_told" : Str) = some (.ref B) := by
  unfold rdF
  rw [lookup_putF, if_pos rfl]
theorem rdF_no (A B : Addr) {m : Str} (h1 : ¬ m = "rows_told") (h2 : ¬ m = "pairs_told") : (rdF A B).lookup m = none := by
  unfold rdF
  rw [lookup_putF, if_neg h1, lookup_putF, if_neg h2]
  all_goals rfl
structure RdS (C : Addr) (H : Hp) (p A B : Addr) (ls : List Addr) (d : Sheet) : Prop where
  ob : ∃ dx, H p = some (.ins C dx (rdF A B))
  nd : (A :: B :: ls).Nodup
  prs : ∃ ua, H A = some (.lst ua) ∧ PrsAt H ua (d.map fun x => x.1)
  lst : H B = some (.lst (ls.map V.ref))
  len : ls.length = d.length
  row : ∀ (i : Nat) (l : Addr), ls[i]? = some l → ∃ x us, d[i]? = some x ∧ H l = some (.lst us) ∧ Rws H us x.2
theorem RdS.same {C : Addr} {H H' : Hp} {p A B : Addr} {ls : List Addr} {d : Sheet} (h : RdS C H p A B ls d) (k : Same H H') : RdS C H' p A B ls d := by
  obtain ⟨⟨dx, hp⟩, nd, ⟨ua, hA, pr⟩, hB, len, row⟩ := h
  exact ⟨⟨dx, k _ _ hp⟩, nd, ⟨ua, k _ _ hA, pr.same fun t xs e => k _ _ e⟩, k _ _ hB, len, fun i l e => by
    obtain ⟨x, us, ex, hl, r⟩ := row i l e
    exact ⟨x, us, ex, k _ _ hl, r.same k⟩⟩
def sp_PaperReader___init__ (_ : PySem.W.Frag) (C : Addr) : Sp := fun vs H Q _ => ∃ (p dx : Addr), vs = [.ref p] ∧ H p = some (.ins C dx []) ∧
  ∀ (A B : Addr) (H' : Hp), (∀ b o, H b = some o → b ≠ p → H' b = some o) → H A = none → H B = none → RdS C H' p A B [] [] → Q .non H'
def ltP2 (p q : Int × Int) : Prop := p.1 < q.1 ∨ (p.1 = q.1 ∧ p.2 < q.2)
def Ahead (d : Sheet) (pr : Int × Int) : Prop := ∀ x, d.getLast? = some x → ltP2 x.1 pr
def sp_PaperReader_reads_pair (_ : PySem.W.Frag) (C : Addr) : Sp := fun vs H Q _ => ∃ (p A B : Addr) (v : V) (ls : List Addr) (d : Sheet), vs = [.ref p, v] ∧ RdS C H p A B ls d ∧ d.length ≤ 3000 ∧
  ((v = .non ∧ Q (.bl false) H) ∨ ∃ (t : Addr) (ns : List Int), v = .ref t ∧ H t = some (.tup (ns.map .int)) ∧ ns.length ≤ 20000 ∧ ((∀ pr : Int × Int, ns = [pr.1, pr.2] → ¬ Ahead d pr) → Q (.bl false) H) ∧
    ∀ pr : Int × Int, ns = [pr.1, pr.2] → Ahead d pr → ∀ (l : Addr) (H' : Hp), H l = none → Kp (A :: B :: ls) H H' → RdS C H' p A B (ls ++ [l]) (d ++ [(pr, [])]) → Q (.bl true) H')
section
variable {P : Program} {w : World} {K : PySem.W.Frag} {mg : Str → Option Value} {base : Heap}
theorem ok_PaperReader___init__ {c_PaperReader : Addr} {c_TraceError : Addr} {c_NoText : Addr} {c_NoFlow : Addr} {c_NoUnit : Addr} (T : Tx K mg c_PaperReader c_TraceError c_NoText c_NoFlow c_NoUnit)  {f : Addr} {fd : FuncData} (F : HereI K c_PaperReader "__init__" "PaperReader.__init__" s_PaperReader___init__ ["self"] f fd) : CalI P w K mg base c_PaperReader "__init__" 1 ["self"] (sp_PaperReader___init__ K c_PaperReader) s_PaperReader___init__ f fd := by
  refine F.cal sc_PaperReader___init__ (fun vs H Q E h => ?_) (fun cdv A outer s H vs Q E hr h => ?_)
  · obtain ⟨p, dx, rfl, _⟩ := h
    rfl
  · obtain ⟨p, dx, rfl, hp, q⟩ := h
    refine ⟨_, (pss_cons (ps_fldK (K := K) (pv 0) (pe_lst pa_nil) rfl)
      (pss_one (ps_fldK (K := K) (pv 0) (pe_lst pa_nil) rfl))), ?_⟩
    walk_at "st"
    intro a ha
    have npa : p ≠ a := ne_of_none hp ha
    walk_at "st"
    refine r_sfr (hl_set npa hp) T.cl_PaperReader T.na_pairs_told (by show 0 < 1000; decide) ?_
    walk_at "st"
    intro b hb
    have nbp : p ≠ b := fun e => by rw [e, upd_same] at hb; cases hb
    have nba : a ≠ b := fun e => by rw [← e, upd_ne npa.symm, upd_same] at hb; cases hb
    walk_at "st"
    refine r_sfr (hl_set nbp upd_same) T.cl_PaperReader T.na_rows_told (by show 1 < 1000; decide) ?_
    have hb0 : H b = none := by
      rw [upd_ne nbp.symm, upd_ne nba.symm] at hb
      exact hb
    refine q a b _ (fun c o e ne => hl_set ne (hl_set (ne_of_none e hb0) (hl_set ne (hl_set (ne_of_none e ha) e)))) ha hb0 ⟨⟨dx, upd_same⟩, ?_, ⟨[], hl_set npa.symm (hl_set nba (hl_set npa.symm upd_same)), rfl, fun i v e => by simp at e⟩, hl_set nbp.symm upd_same, rfl, fun i l e => by simp at e⟩
    simp [nba]
theorem ok_PaperReader_reads_pair {c_PaperReader : Addr} {c_TraceError : Addr} {c_NoText : Addr} {c_NoFlow : Addr} {c_NoUnit : Addr} (T : Tx K mg c_PaperReader c_TraceError c_NoText c_NoFlow c_NoUnit)  {f : Addr} {fd : FuncData} (F : HereM K c_PaperReader "reads_pair" "PaperReader.reads_pair" s_PaperReader_reads_pair ["self", "pair"] f fd) : CalM P w K mg base c_PaperReader "reads_pair" 1 ["self", "pair"] (sp_PaperReader_reads_pair K c_PaperReader) s_PaperReader_reads_pair f fd := by
  refine F.cal sc_PaperReader_reads_pair (fun vs H Q E h => ?_) (fun cdv A' outer s H vs Q E hr h => ?_)
  · obtain ⟨p, A, B, v, ls, d, rfl, _⟩ := h
    rfl
  · obtain ⟨p, A, B, v, ls, d, rfl, R, hlen, h⟩ := h
    refine ⟨_, (pss_cons (ps_if (PW.pt (pw_or (pt_cmpR op_isNn (pv 1) pe_non (nomark _)) (pw_or (pt_cmpR op_ne (pe_callB (cr_lenK (K := K)) (by rfl) T.m_len (by decide +kernel) (pa_cons (pv 1) pa_nil)) pe_int (nomark _)) (pw_or1 (PW.pt (pw_and (pt_truthK (K := K) (pe_fldK (K := K) (pv 0) rfl) (by intro _; rfl)) (pw_and1 (pt_cmpR (op_leTK (K := K) (hu_of64 hr)) (pv 1) (pe_ix (ix_listK (K := K)) (pe_fldK (K := K) (pv 0) rfl) (pe_un un_neg pe_int) (fun _ _ => rfl)) (nomark _))))))))) (pss_one (ps_ret pe_bl)) pss_nil)
      (pss_cons (ps_expr (castBM (K := K) (pe_bm PySem.F.plainAttrs_list PySem.F.slot_list_append PySem.F.type_list_append mt_append (pe_fldK (K := K) (pv 0) rfl) (pa_cons (pv 1) pa_nil))))
      (pss_cons (ps_expr (castBM (K := K) (pe_bm PySem.F.plainAttrs_list PySem.F.slot_list_append PySem.F.type_list_append mt_append (pe_fldK (K := K) (pv 0) rfl) (pa_cons (pe_lst pa_nil) pa_nil))))
      (pss_one (ps_ret pe_bl))))), ?_⟩
    obtain ⟨⟨dx, hp⟩, nd, ⟨ua, hA, pa⟩, hB, len, row⟩ := R
    have cl := T.cl_PaperReader
    have n1 := T.na_pairs_told
    have n2 := T.na_rows_told
    have l1 := rdF_p A B
    have l2 := rdF_r A B
    rcases h with ⟨rfl, q⟩ | ⟨t, ns, rfl, ht, hns, qn, q⟩
    · walk_at "st"
      walk_at "if"
      rw [if_pos (by simp), if_pos rfl]
      walk_at "st"
      exact q
    walk_at "st"
    walk_at "if"
    walk_at "st"
    rw [if_neg (by simp)]
    walk_at "st"
    by_cases h2 : ns.length = 2
    case neg =>
      rw [if_pos (by rw [List.length_map]; simp; omega), if_pos rfl]
      walk_at "st"
      exact qn fun pr e => by rw [e] at h2; exact absurd rfl h2
    obtain ⟨pr, rfl⟩ : ∃ pr : Int × Int, ns = [pr.1, pr.2] := by
      match ns, h2 with
      | [i, j], _ => exact ⟨(i, j), rfl⟩
    rw [if_neg (by simp)]
    refine r_joinT (fun b H' => (b = false ↔ Ahead d pr) ∧ H' = H) (fun v H' g => ?_) (fun R' hR => ?_)
    · obtain ⟨g, rfl⟩ := g
      rcases v with _ | _
      case true =>
        rw [if_pos rfl]
        walk_at "st"
        exact qn fun pr' e z => by
          have e1 : pr = pr' := by
            injection e with e1 e2
            injection e2 with e2
            exact Prod.ext e1 e2
          subst e1
          exact absurd (g.mpr z) (by decide)
      have hah := g.mp rfl
      rw [if_neg (by decide)]
      replace q := q pr rfl hah
      have lua : ua.length ≤ 3000 := by rw [pa.1, List.length_map]; exact hlen
      have lls : ls.length ≤ 3000 := by rw [len]; exact hlen
      have nAB : A ≠ B := fun e => (List.nodup_cons.mp nd).1 (by rw [e]; exact List.mem_cons_self)
      have nAl : A ∉ ls := fun m => (List.nodup_cons.mp nd).1 (List.mem_cons_of_mem _ m)
      have nBl : B ∉ ls := fun m => (List.nodup_cons.mp (List.nodup_cons.mp nd).2).1 m
      have npA : p ≠ A := ne_of hp hA (by intro z; cases z)
      have npB : p ≠ B := ne_of hp hB (by intro z; cases z)
      have z1 : ua.length < sizeLine := Nat.lt_of_le_of_lt lua (by decide)
      have z2 : (ls.map V.ref).length < sizeLine := Nat.lt_of_le_of_lt (by rw [List.length_map]; exact lls) (by decide)
      walk_at "st"
      intro l hl
      have hl0 : H' l = none := by
        by_cases c : l = A
        · rw [c, upd_same] at hl; cases hl
        · rwa [upd_ne c] at hl
      have nlA : l ≠ A := (ne_of_none hA hl0).symm
      have nlB : l ≠ B := (ne_of_none hB hl0).symm
      have hp2 : upd (upd H' A (.lst (ua ++ [.ref t]))) l (.lst []) p = some (.ins _ dx (rdF A B)) := hl_set (ne_of_none hp hl0) (hl_set npA hp)
      have hB2 : upd (upd H' A (.lst (ua ++ [.ref t]))) l (.lst []) B = some (.lst (ls.map V.ref)) := hl_set nlB.symm (hl_set nAB.symm hB)
      walk_at "st"
      have keep : ∀ c o, H' c = some o → c ≠ A → c ≠ B → upd (upd (upd H' A (.lst (ua ++ [.ref t]))) l (.lst [])) B (.lst (ls.map V.ref ++ [.ref l])) c = some o := fun c o e n1 n2 => hl_set n2 (hl_set (ne_of_none e hl0) (hl_set n1 e))
      have tups : ∀ c xs, H' c = some (.tup xs) → upd (upd (upd H' A (.lst (ua ++ [.ref t]))) l (.lst [])) B (.lst (ls.map V.ref ++ [.ref l])) c = some (.tup xs) := fun c xs e => keep c _ e (fun z => by rw [z, hA] at e; cases e) (fun z => by rw [z, hB] at e; cases e)
      have hl2 : upd (upd (upd H' A (.lst (ua ++ [.ref t]))) l (.lst [])) B (.lst (ls.map V.ref ++ [.ref l])) l = some (.lst []) := hl_set nlB upd_same
      have hA2 : upd (upd (upd H' A (.lst (ua ++ [.ref t]))) l (.lst [])) B (.lst (ls.map V.ref ++ [.ref l])) A = some (.lst (ua ++ [.ref t])) := hl_set nAB (hl_set nlA.symm upd_same)
      have hB3 : upd (upd (upd H' A (.lst (ua ++ [.ref t]))) l (.lst [])) B (.lst (ls.map V.ref ++ [.ref l])) B = some (.lst ((ls ++ [l]).map V.ref)) := by rw [upd_same, List.map_append]; rfl
      have hp3 := keep p _ hp npA npB
      generalize upd (upd (upd H' A (.lst (ua ++ [.ref t]))) l (.lst [])) B (.lst (ls.map V.ref ++ [.ref l])) = HZ at *
      refine q l HZ hl0 (fun c o e nm => keep c o e (fun z => nm (by rw [z]; exact List.mem_cons_self)) fun z => nm (by rw [z]; simp)) ⟨⟨dx, hp3⟩, ?_, ⟨_, hA2, ?_⟩, hB3, by rw [List.length_append, List.length_append, len]; rfl, fun i k e => ?_⟩
      · have e : A :: B :: (ls ++ [l]) = (A :: B :: ls) ++ [l] := rfl
        rw [e]
        refine List.nodup_append.mpr ⟨nd, List.pairwise_singleton _ _, fun x hx y hy => ?_⟩
        rw [List.mem_singleton.mp hy]
        intro z
        rw [z] at hx
        rcases List.mem_cons.mp hx with z | hx
        · exact nlA z
        · rcases List.mem_cons.mp hx with z | hx
          · exact nlB z
          · obtain ⟨j, ej⟩ := List.getElem?_of_mem hx
            obtain ⟨_, us, _, h1, _⟩ := row j l ej
            rw [hl0] at h1; cases h1
      · rw [List.map_append]
        exact (pa.same tups).snoc (tups _ _ ht)
      · by_cases c : i < ls.length
        · rw [List.getElem?_append_left c] at e
          obtain ⟨x, us, ex, h1, r1⟩ := row i k e
          have mk := List.mem_of_getElem? e
          exact ⟨x, us, by rw [List.getElem?_append_left (by rw [← len]; exact c)]; exact ex, keep k _ h1 (fun z => nAl (z ▸ mk)) (fun z => nBl (z ▸ mk)), r1.tups tups⟩
        · rw [List.getElem?_append_right (by omega)] at e
          have e0 : i - ls.length = 0 := by
            cases h0 : i - ls.length with
            | zero => rfl
            | succ n => rw [h0] at e; simp at e
          rw [e0] at e
          obtain rfl : l = k := Option.some.inj (show some l = some k from e)
          refine ⟨(pr, []), [], ?_, hl2, rfl, fun i v e => by simp at e⟩
          rw [List.getElem?_append_right (by rw [← len]; omega), ← len, e0]; rfl
    · walk_at "st"
      refine ⟨!ua.isEmpty, .inl ⟨ua, SqL.of hA, rfl⟩, ?_⟩
      rcases List.eq_nil_or_concat ua with e | ⟨ua', v, e⟩
      · subst e
        refine hR _ _ ⟨⟨fun _ x ex => ?_, fun _ => rfl⟩, rfl⟩
        have z := pa.1
        rw [List.length_map] at z
        have dn : d = [] := List.length_eq_zero_iff.mp z.symm
        rw [dn] at ex; cases ex
      · rw [List.concat_eq_append] at e
        subst e
        rw [if_pos (by simp)]
        have ix := atI_last ua' v
        obtain ⟨pp, ep, tl, rfl, htl⟩ := pa.2 ua'.length v (by rw [List.getElem?_append_right (Nat.le_refl _), Nat.sub_self]; rfl)
        walk_at "st"
        have hlast : d.getLast?.map (fun x => x.1) = some pp := by
          rw [← List.getLast?_map]
          have l := pa.1
          rw [List.length_append] at l
          rw [List.getLast?_eq_getElem?, ← l]
          exact ep
        obtain ⟨x, ex, exp⟩ := Option.map_eq_some_iff.mp hlast
        have lt : Ahead d pr ↔ ltP2 pp pr := ⟨fun z => exp ▸ z x ex, fun z y ey => by rw [ex] at ey; cases ey; rw [exp]; exact z⟩
        refine ⟨t, tl, [pr.1, pr.2], [pp.1, pp.2], rfl, rfl, SqT.of ht, SqT.of htl, ?_⟩
        refine ⟨_, rfl, hR _ _ ⟨?_, rfl⟩⟩
        rw [lt]
        show (if decide (pr.1 = pp.1) = true then (if decide (pr.2 = pp.2) = true then decide (2 ≤ 2) else decide (pr.2 ≤ pp.2)) else decide (pr.1 ≤ pp.1)) = false ↔ _
        unfold ltP2
        by_cases c : pr.1 = pp.1
        · rw [if_pos (decide_eq_true c)]
          by_cases c2 : pr.2 = pp.2
          · rw [if_pos (decide_eq_true c2)]
            exact ⟨fun z => Bool.noConfusion (show true = false from z), fun z => by omega⟩
          · rw [if_neg fun z => c2 (of_decide_eq_true z), decide_eq_false_iff_not]
            omega
        · rw [if_neg fun z => c (of_decide_eq_true z), decide_eq_false_iff_not]
          omega
end
local macro_rules | `(tactic| walk_at "ssz") => `(tactic| first | decide | exact str_small (by assumption) | (have : (1000000 : Nat) ≤ sizeLine := (by decide); omega))
local macro_rules | `(tactic| walk_at "st1") => `(tactic| first
  | with_reducible refine' r_nt ?_ | with_reducible refine' r_nf ?_
  | ((with_reducible refine r_lenS ?e1 ?_); (case e1 => walk_at "ssz"))
  | with_reducible refine r_inS ?_
  | with_reducible refine r_ninS ?_
  | ((with_reducible refine r_addS ?e1 ?_); (case e1 => walk_at "ssz"))
  | ((with_reducible refine' r_ixS ?e1 ?e2 ?_); (case e1 => walk_at "ssz"); (case e2 => first | assumption | rfl))
  | with_reducible refine r_istr ?_
  | with_reducible refine r_is ?_
  | with_reducible refine r_un ?_
  | with_reducible refine r_u ?_)
local macro_rules | `(tactic| walk_at "st1") => `(tactic| first
  | with_reducible refine r_tru ?_
  | ((with_reducible refine' r_truT ?e1 ?_); (case e1 => walk_at "sq"))
  | with_reducible refine r_isN ?_
  | with_reducible refine r_tyS ?_
  | with_reducible refine r_m1 ?_
  | with_reducible refine r_sx ?_
  | ((with_reducible refine r_strC ?e1 ?_); (case e1 => omega)))
local macro_rules | `(tactic| walk_at "st1") => `(tactic| first
  | with_reducible refine r_fld ?_
  | with_reducible refine r_sfld ?_
  | ((with_reducible refine' r_fldr ?e1 ?e2 ?e3 ?e4 ?_); (case e1 => walk_at "hl"); (case e2 => assumption); (case e3 => assumption); (case e4 => assumption)))
/-! ### a row is read -/
def aheadB (d : Sheet) (pr : Int × Int) : Bool := match d.getLast? with
  | none => true
  | some x => decide (x.1.1 < pr.1 ∨ (x.1.1 = pr.1 ∧ x.1.2 < pr.2))
theorem ahead_iff {d : Sheet} {pr : Int × Int} : aheadB d pr = true ↔ Ahead d pr := by
  unfold aheadB Ahead
  cases d.getLast? with
  | none => exact Iff.intro (fun _ x e => by cases e) fun _ => rfl
  | some y =>
    show decide _ = true ↔ _
    rw [decide_eq_true_iff]
    exact Iff.intro (fun z x e => by cases e; exact z) fun z => z y rfl
def pairS : List Nat := [112, 97, 105, 114]
def pairOf (d : Sheet) : Option (List Int) → Option Sheet
  | some [i, j] => if aheadB d (i, j) = true then some (d ++ [((i, j), [])]) else none
  | _ => none
def rowOf (d : Sheet) : Option (List Int) → Option Sheet
  | some ns => match d.getLast? with
    | none => none
    | some x => some (d.dropLast ++ [(x.1, x.2 ++ [ns])])
  | none => none
def readRow (d : Sheet) (a : List Nat) : Option Sheet := if (TL.spl [32] 0 [] a).head? = some pairS then pairOf d (numsC (TL.spl [32] 0 [] a).tail) else rowOf d (numsC (TL.spl [32] 0 [] a))
theorem spl_words (a : List Nat) : (Txt.split (Sx a) (Str.ofString " ")).map V.str = (TL.spl [32] 0 [] a).map fun p => V.str (Sx p) := by
  have e := SX.split_S (a := a) (b := [32]) (by simp) (by decide)
  rw [show Txt.split (Sx a) (Str.ofString " ") = _ from e, List.map_map]; rfl
theorem spl_part {S : List Nat} : ∀ (k : Nat) (acc xs : List Nat), ∀ p ∈ TL.spl S k acc xs, p.length ≤ acc.length + xs.length
  | _, acc, [] => by
    unfold TL.spl
    intro p m
    rw [List.mem_singleton.mp m]; exact Nat.le_refl _
  | 0, acc, c :: r => by
    unfold TL.spl
    intro p m
    split at m
    · rcases List.mem_cons.mp m with e | m
      · rw [e]; exact Nat.le_add_right _ _
      · have := spl_part _ [] r p m
        rw [List.length_nil] at this
        rw [List.length_cons]; omega
    · have := spl_part 0 _ r p m
      rw [List.length_append] at this
      rw [List.length_cons]
      have : p.length ≤ acc.length + 1 + r.length := this
      omega
  | k + 1, acc, _ :: r => by
    unfold TL.spl
    intro p m
    have := spl_part k acc r p m
    rw [List.length_cons]; omega
theorem cut_one (v : V) (xs : List V) : cutV (v :: xs) (some 1) none = xs := by
  unfold cutV
  rw [show HT.sIx (v :: xs).length 0 (some 1) = min 1 (v :: xs).length from HT.sIx_nat _ 0 1, HT.sIx_none, List.length_cons, show min 1 (xs.length + 1) = 1 by omega]
  show xs.take (xs.length + 1 - 1) = xs
  rw [Nat.add_sub_cancel, List.take_length]
def sp_PaperReader_reads (_ : PySem.W.Frag) (C : Addr) : Sp := fun vs H Q _ => ∃ (p A B : Addr) (ls : List Addr) (d : Sheet) (a : List Nat), vs = [.ref p, .str (Sx a)] ∧ RdS C H p A B ls d ∧ d.length ≤ 3000 ∧ (∀ x ∈ d, x.2.length ≤ 3000) ∧ a.length ≤ 10000 ∧
  (readRow d a = none → ∀ H', Same H H' → Q (.bl false) H') ∧ ∀ d', readRow d a = some d' → ∀ (m : List Addr) (H' : Hp), (∀ l ∈ m, H l = none) → Kp (A :: B :: ls) H H' → RdS C H' p A B (ls ++ m) d' → Q (.bl true) H'
section
variable {P : Program} {w : World} {K : PySem.W.Frag} {mg : Str → Option Value} {base : Heap}
theorem ok_PaperReader_reads {c_PaperReader : Addr} {c_TraceError : Addr} {c_NoText : Addr} {c_NoFlow : Addr} {c_NoUnit : Addr} (T : Tx K mg c_PaperReader c_TraceError c_NoText c_NoFlow c_NoUnit) {f_numbers_told : Addr} {fd_numbers_told : FuncData} (C_numbers_told : Cal P w K mg base "numbers_told" 3 ["words"] (sp_numbers_told K) s_numbers_told f_numbers_told fd_numbers_told) {f_PaperReader_reads_pair : Addr} {fd_PaperReader_reads_pair : FuncData} (C_PaperReader_reads_pair : CalM P w K mg base c_PaperReader "reads_pair" 1 ["self", "pair"] (sp_PaperReader_reads_pair K c_PaperReader) s_PaperReader_reads_pair f_PaperReader_reads_pair fd_PaperReader_reads_pair) {f : Addr} {fd : FuncData} (F : HereM K c_PaperReader "reads" "PaperReader.reads" s_PaperReader_reads ["self", "row"] f fd) : CalM P w K mg base c_PaperReader "reads" 4 ["self", "row"] (sp_PaperReader_reads K c_PaperReader) s_PaperReader_reads f fd := by
  refine F.cal sc_PaperReader_reads (fun vs H Q E h => ?_) (fun cdv A' outer s H vs Q E hr h => ?_)
  · obtain ⟨p, A, B, ls, d, a, rfl, _⟩ := h
    rfl
  · obtain ⟨p, A, B, ls, d, a, rfl, R, hlen, hx2, ha, qn, q⟩ := h
    refine ⟨_, (pss_cons (ps_set (i := 2) sc_PaperReader_reads.nd rfl (by first | exact .inl rfl | exact .inr rfl) (castBM (K := K) (pe_bm PySem.F.plainAttrs_str PySem.F.slot_str_split PySem.F.type_str_split mt_splK (pv 1) (pa_cons pe_str pa_nil))))
      (pss_cons (ps_if (pt_cmpR op_eq (pe_ix (ix_listK (K := K)) (pv 2) pe_int (fun _ _ => rfl)) pe_str (nomark _)) (pss_one (ps_ret (pe_meth (pv 0) T.cl_PaperReader C_PaperReader_reads_pair.me C_PaperReader_reads_pair.ok (hr.mono (by decide)) C_PaperReader_reads_pair.b .nil pass0 (pa_cons (pe_call C_numbers_told.ok (hr.mono (by decide)) (by rfl) C_numbers_told.at_ C_numbers_told.kp C_numbers_told.b .nil pass0 (pa_cons (pe_slice (sl_listK (K := K)) (pv 2) (po_some pe_int) po_none) pa_nil)) pa_nil)))) pss_nil)
      (pss_cons (ps_set (i := 3) sc_PaperReader_reads.nd rfl (by first | exact .inl rfl | exact .inr rfl) (pe_call C_numbers_told.ok (hr.mono (by decide)) (by rfl) C_numbers_told.at_ C_numbers_told.kp C_numbers_told.b .nil pass0 (pa_cons (pv 2) pa_nil)))
      (pss_cons (ps_if (PW.pt (pw_or (pt_cmpR op_isNn (pv 3) pe_non (nomark _)) (pw_or1 (pt_not (pt_truthK (K := K) (pe_fldK (K := K) (pv 0) rfl) (by intro _; rfl)))))) (pss_one (ps_ret pe_bl)) pss_nil)
      (pss_cons (ps_expr (castBM (K := K) (pe_bm PySem.F.plainAttrs_list PySem.F.slot_list_append PySem.F.type_list_append mt_append (pe_ix (ix_listK (K := K)) (pe_fldK (K := K) (pv 0) rfl) (pe_un un_neg pe_int) (fun _ _ => rfl)) (pa_cons (pv 3) pa_nil))))
      (pss_one (ps_ret pe_bl))))))), ?_⟩
    walk_at "st"
    refine ⟨_, _, rfl, rfl, rfl, by rw [Sx_len]; exact Nat.le_trans (show a.length + 2 ≤ 10002 by omega) (by decide), fun lw hlw => ?_⟩
    rw [spl_words]
    have wl := spl_size (S := [32]) 0 [] a
    have wp : ∀ z ∈ TL.spl [32] 0 [] a, z.length ≤ 10000 := fun z m => Nat.le_trans (spl_part 0 [] a z m) (by rw [List.length_nil]; omega)
    unfold readRow at qn q
    obtain ⟨w0, wr, ew⟩ := List.exists_cons_of_ne_nil (spl_some (S := [32]) 0 [] a)
    rw [ew] at wl wp qn q ⊢
    have s1 := Same.upd_new (x := .lst ((w0 :: wr).map fun p => V.str (Sx p))) hlw
    have ew : upd H lw (.lst ((w0 :: wr).map fun p => V.str (Sx p))) lw = some (.lst (V.str (Sx w0) :: wr.map fun p => V.str (Sx p))) := upd_same
    generalize upd H lw (.lst ((w0 :: wr).map fun p => V.str (Sx p))) = H1 at *
    have ix : atI (V.str (Sx w0) :: wr.map fun p => V.str (Sx p)) 0 = some (V.str (Sx w0)) := (show atI _ ((0 : Nat) : Int) = _ from atI_nat rfl)
    have wl2 : wr.length ≤ 10000 := by rw [List.length_cons] at wl; omega
    walk_at "st"
    walk_at "if"
    by_cases hp : w0 = pairS
    · subst hp
      rw [if_pos (decide_eq_true (show V.str (Sx pairS) = V.str (Str.ofString "pair") from rfl))]
      rw [show (pairS :: wr).head? = some pairS from rfl, if_pos rfl] at qn q
      have R1 := R.same s1
      obtain ⟨dx, hpp⟩ := R1.ob
      refine ⟨_, rfl, p, dx, _, rfl, hpp, rdF_no A B (by decide +kernel) (by decide +kernel), ?_⟩
      walk_at "st"
      intro l2 hl2
      have ec : cutV (V.str (Sx pairS) :: wr.map fun p => V.str (Sx p)) (some 1) none = wr.map fun p => V.str (Sx p) := cut_one _ _
      rw [ec]
      have s2 := Same.upd_new (x := .lst (wr.map fun p => V.str (Sx p))) hl2
      have e2 : upd H1 l2 (.lst (wr.map fun p => V.str (Sx p))) l2 = some (.lst (wr.map fun p => V.str (Sx p))) := upd_same
      generalize upd H1 l2 (.lst (wr.map fun p => V.str (Sx p))) = H2 at *
      walk_at "st"
      refine ⟨l2, wr, rfl, e2, by omega, fun z m => wp z (List.mem_cons_of_mem _ m), fun eN H3 s3 => ?_, fun ns eN t H3 s3 et => ?_⟩
      · rw [show (pairS :: wr).tail = wr from rfl, eN] at qn q
        have S3 := (s1.trans s2).trans s3
        walk_at "st"
        exact ⟨p, A, B, .non, ls, d, rfl, R.same S3, hlen, .inl ⟨rfl, qn rfl _ S3⟩⟩
      · rw [show (pairS :: wr).tail = wr from rfl, eN] at qn q
        have S3 := (s1.trans s2).trans s3
        have ln : ns.length ≤ 20000 := by
          have z := congrArg List.length (nums_some eN)
          unfold toldV at z
          rw [List.length_map, List.length_map] at z
          omega
        walk_at "st"
        refine ⟨p, A, B, .ref t, ls, d, rfl, R.same S3, hlen, .inr ⟨t, ns, rfl, et, ln, fun no => qn ?_ _ S3, fun pr e ah l H' hl k R' => ?_⟩⟩
        · unfold pairOf
          split
          · rename_i i j e
            obtain rfl := Option.some.inj e
            rw [if_neg fun z => no (i, j) rfl (ahead_iff.mp z)]
          · rfl
        · refine q (d ++ [(pr, [])]) ?_ [l] H' ?_ (fun b o e n => k b o (S3 _ _ e) n) R'
          · rw [e]
            show (if aheadB d (pr.1, pr.2) = true then some (d ++ [((pr.1, pr.2), [])]) else none) = _
            rw [if_pos (ahead_iff.mpr ah)]
          · intro b m
            rw [List.mem_singleton.mp m]
            cases hh : H l with
            | none => rfl
            | some o => rw [S3 _ _ hh] at hl; cases hl
    · have nq : ¬ V.str (Sx w0) = V.str (Str.ofString "pair") := fun e => by
        injection e with e
        exact hp (congrArg cs e)
      rw [if_neg (fun e => nq (of_decide_eq_true e))]
      rw [show (w0 :: wr).head? = some w0 from rfl, if_neg fun e => hp (Option.some.inj e)] at qn q
      walk_at "st"
      refine ⟨lw, w0 :: wr, rfl, ew, by rw [List.length_cons]; omega, wp, fun eN H2 s2 => ?_, fun ns eN t H2 s2 et => ?_⟩
      · rw [eN] at qn q
        have S2 := s1.trans s2
        walk_at "st"
        walk_at "if"
        walk_at "st"
        rw [if_pos (by simp), if_pos rfl]
        walk_at "st"
        exact qn rfl _ S2
      rw [eN] at qn q
      have S2 := s1.trans s2
      have R2 := R.same S2
      obtain ⟨⟨dx, hp⟩, nd, ⟨ua, hA, pa⟩, hB, len, row⟩ := R2
      have cl := T.cl_PaperReader
      have n1 := T.na_pairs_told
      have n2 := T.na_rows_told
      have l1 := rdF_p A B
      have l2 := rdF_r A B
      walk_at "st"
      walk_at "if"
      walk_at "st"
      rw [if_neg (by simp)]
      walk_at "st"
      refine ⟨!ua.isEmpty, .inl ⟨ua, SqL.of hA, rfl⟩, ?_⟩
      rcases List.eq_nil_or_concat d with e | ⟨d0, x, e⟩
      · subst e
        have ue : ua = [] := List.length_eq_zero_iff.mp pa.1
        rw [ue]
        walk_at "st"
        rw [if_pos (by simp)]
        walk_at "st"
        exact qn rfl _ S2
      rw [List.concat_eq_append] at e
      subst e
      have lx := hx2 x (by simp)
      have une : ua ≠ [] := fun z => by
        have := pa.1
        rw [z, List.length_map, List.length_append] at this
        simp at this
      have ue : ua.isEmpty = false := by cases ua with
        | nil => exact absurd rfl une
        | cons _ _ => rfl
      rw [ue]
      walk_at "st"
      rw [if_neg (by simp)]
      rcases List.eq_nil_or_concat ls with e | ⟨ls0, l, e⟩
      · rw [e, List.length_append] at len
        simp at len
      rw [List.concat_eq_append] at e
      subst e
      have ll : ls0.length = d0.length := by rw [List.length_append, List.length_append] at len; simpa using len
      obtain ⟨x', us, ex, hl, r1⟩ := row ls0.length l (by rw [List.getElem?_append_right (Nat.le_refl _), Nat.sub_self]; rfl)
      have exx : x = x' := by
        rw [ll, List.getElem?_append_right (Nat.le_refl _), Nat.sub_self] at ex
        exact Option.some.inj ex
      subst exx
      have lus : us.length < sizeLine := by rw [r1.1]; exact Nat.lt_of_le_of_lt lx (by decide)
      rw [List.map_append] at hB
      have ix2 := atI_last (ls0.map V.ref) (V.ref l)
      have hB2 : H2 B = some (.lst (ls0.map V.ref ++ [V.ref l])) := hB
      walk_at "st"
      have nAl : A ≠ l := fun z => (List.nodup_cons.mp nd).1 (by rw [z]; simp)
      have nBl : B ≠ l := fun z => (List.nodup_cons.mp (List.nodup_cons.mp nd).2).1 (by rw [z]; simp)
      have nls := (List.nodup_cons.mp (List.nodup_cons.mp nd).2).2
      have keep : ∀ c o, H2 c = some o → c ≠ l → upd H2 l (.lst (us ++ [.ref t])) c = some o := fun c o e n => hl_set n e
      have tups : ∀ c xs, H2 c = some (.tup xs) → upd H2 l (.lst (us ++ [.ref t])) c = some (.tup xs) := fun c xs e => keep c _ e fun z => by rw [z, hl] at e; cases e
      have ed : rowOf (d0 ++ [x]) (some ns) = some (d0 ++ [(x.1, x.2 ++ [ns])]) := by
        unfold rowOf
        rw [List.getLast?_append, List.dropLast_concat]; rfl
      have qq : ∀ H', Kp (A :: B :: (ls0 ++ [l])) H H' → RdS c_PaperReader H' p A B (ls0 ++ [l]) (d0 ++ [(x.1, x.2 ++ [ns])]) → Q (.bl true) H' := fun H' k R' => q _ ed [] H' (fun b m => by cases m) k (by rw [List.append_nil]; exact R')
      refine qq _ (fun b o e n => keep b o (S2 _ _ e) fun z => n (by rw [z]; simp)) ⟨⟨dx, keep _ _ hp fun z => by rw [z, hl] at hp; cases hp⟩, nd, ⟨ua, keep _ _ hA nAl, ?_⟩, keep _ _ (by rw [List.map_append]; exact hB) nBl, by rw [List.length_append, List.length_append, ll]; rfl, fun i k e => ?_⟩
      · have e : (d0 ++ [(x.1, x.2 ++ [ns])]).map (fun x => x.1) = (d0 ++ [x]).map fun x => x.1 := by rw [List.map_append, List.map_append]; rfl
        rw [e]
        exact pa.same tups
      · by_cases c : i < ls0.length
        · obtain ⟨y, vs', ey, h1, r2⟩ := row i k e
          rw [List.getElem?_append_left c] at e
          have nk : k ≠ l := fun z => (List.nodup_append.mp nls).2.2 k (List.mem_of_getElem? e) l List.mem_cons_self z
          rw [List.getElem?_append_left (by rw [← ll]; exact c)] at ey
          exact ⟨y, vs', by rw [List.getElem?_append_left (by rw [← ll]; exact c)]; exact ey, keep _ _ h1 nk, r2.tups tups⟩
        · rw [List.getElem?_append_right (by omega)] at e
          have e0 : i - ls0.length = 0 := by
            cases h0 : i - ls0.length with
            | zero => rfl
            | succ n => rw [h0] at e; simp at e
          rw [e0] at e
          obtain rfl : l = k := Option.some.inj (show some l = some k from e)
          refine ⟨(x.1, x.2 ++ [ns]), us ++ [.ref t], by rw [List.getElem?_append_right (by rw [← ll]; omega), ← ll, e0]; rfl, upd_same, (r1.tups tups).append ⟨rfl, fun j v ev => ?_⟩⟩
          cases j with
          | zero => exact ⟨ns, rfl, t, (Option.some.inj (show some (V.ref t) = some v from ev)).symm, tups _ _ et⟩
          | succ j => simp at ev
end
local macro_rules | `(tactic| walk_at "ssz") => `(tactic| first | decide | exact str_small (by assumption) | (have : (1000000 : Nat) ≤ sizeLine := (by decide); omega))
local macro_rules | `(tactic| walk_at "st1") => `(tactic| first
  | with_reducible refine' r_nt ?_ | with_reducible refine' r_nf ?_
  | ((with_reducible refine r_lenS ?e1 ?_); (case e1 => walk_at "ssz"))
  | with_reducible refine r_inS ?_
  | with_reducible refine r_ninS ?_
  | ((with_reducible refine r_addS ?e1 ?_); (case e1 => walk_at "ssz"))
  | ((with_reducible refine' r_ixS ?e1 ?e2 ?_); (case e1 => walk_at "ssz"); (case e2 => first | assumption | rfl))
  | with_reducible refine r_istr ?_
  | with_reducible refine r_is ?_
  | with_reducible refine r_un ?_
  | with_reducible refine r_u ?_)
local macro_rules | `(tactic| walk_at "st1") => `(tactic| first
  | with_reducible refine r_tru ?_
  | ((with_reducible refine' r_truT ?e1 ?_); (case e1 => walk_at "sq"))
  | with_reducible refine r_isN ?_
  | with_reducible refine r_tyS ?_
  | with_reducible refine r_m1 ?_
  | with_reducible refine r_sx ?_
  | ((with_reducible refine r_strC ?e1 ?_); (case e1 => omega)))
local macro_rules | `(tactic| walk_at "st1") => `(tactic| first
  | with_reducible refine r_fld ?_
  | with_reducible refine r_sfld ?_
  | ((with_reducible refine' r_fldr ?e1 ?e2 ?e3 ?e4 ?_); (case e1 => walk_at "hl"); (case e2 => assumption); (case e3 => assumption); (case e4 => assumption)))
local macro_rules | `(tactic| walk_at "st1") => `(tactic| first
  | with_reducible refine r_par ?_
  | with_reducible refine r_parx ?_
  | ((with_reducible refine' r_gtup ?e1 ?e2 ?_); (case e1 => walk_at "sq"); (case e2 => rfl))
  | with_reducible refine r_gcons ?_
  | with_reducible refine r_gnil ?_
  | with_reducible refine r_ient ?_
  | ((with_reducible refine' r_ent ?e1 ?_); (case e1 => walk_at "sq")))
local macro_rules | `(tactic| walk_at "st1") => `(tactic| first
  | ((with_reducible refine' r_izl ?e1 ?e2 ?_); (case e1 => walk_at "sq"); (case e2 => walk_at "sq"))
  | with_reducible refine r_dcT ?_)
/-! ### sheets as they stand: dicts -/
def keyP (p : Int × Int) : List Key := [Sum.inl p.1, Sum.inl p.2]
theorem keyP_kV (p : Int × Int) : (keyP p).map kV = [V.int p.1, V.int p.2] := rfl
theorem keyP_inj {p q : Int × Int} (h : keyP p = keyP q) : p = q := by
  injection h with h1 h2
  injection h2 with h2 _
  exact Prod.ext (Sum.inl.inj h1) (Sum.inl.inj h2)
def ShV (H : Hp) (kvs : List (List Key × V)) (sh : Sheet) : Prop := kvs.length = sh.length ∧ ∀ (i : Nat) (kv : List Key × V), kvs[i]? = some kv → ∃ x, sh[i]? = some x ∧ kv.1 = keyP x.1 ∧ ∃ t, kv.2 = .ref t ∧ Lot H t x.2
def ShD (H : Hp) (d : Addr) (sh : Sheet) : Prop := ∃ kvs, H d = some (.dT kvs) ∧ ShV H kvs sh
theorem ShV.to {H H' : Hp} {kvs : List (List Key × V)} {sh : Sheet} (h : ShV H kvs sh) (k : ∀ t xs, H t = some (.tup xs) → H' t = some (.tup xs)) : ShV H' kvs sh :=
  ⟨h.1, fun i kv e => by
    obtain ⟨x, ex, ek, t, et, us, h1, r⟩ := h.2 i kv e
    exact ⟨x, ex, ek, t, et, us, k _ _ h1, r.tups k⟩⟩
theorem ShD.same {H H' : Hp} {d : Addr} {sh : Sheet} (h : ShD H d sh) (k : Same H H') : ShD H' d sh := h.imp fun _ z => ⟨k _ _ z.1, z.2.to fun t xs e => k _ _ e⟩
theorem ShV.keys {H : Hp} : ∀ {kvs : List (List Key × V)} {sh : Sheet}, ShV H kvs sh → kvs.map (fun kv => kv.1) = sh.map fun x => keyP x.1
  | [], [], _ => rfl
  | [], _ :: _, h => by have := h.1; simp at this
  | _ :: _, [], h => by have := h.1; simp at this
  | kv :: kvs, x :: sh, h => by
    obtain ⟨y, ey, ek, _⟩ := h.2 0 kv rfl
    obtain rfl := Option.some.inj ey
    rw [List.map_cons, List.map_cons, ek, ShV.keys (kvs := kvs) (sh := sh) ⟨by have := h.1; simpa using this, fun i v e => h.2 (i + 1) v (by simpa using e)⟩]
theorem valV_no {kvs : List (List Key × V)} {k : List Key} (h : k ∉ kvs.map fun kv => kv.1) : valV kvs k = none := by
  unfold valV
  rw [List.find?_eq_none.mpr fun kv m e => h (by rw [← of_decide_eq_true e]; exact List.mem_map.mpr ⟨kv, m, rfl⟩)]; rfl
theorem ShV.snoc {H : Hp} {kvs : List (List Key × V)} {sh : Sheet} {x : (Int × Int) × List (List Int)} {t : Addr} (h : ShV H kvs sh) (l : Lot H t x.2) : ShV H (kvs ++ [(keyP x.1, .ref t)]) (sh ++ [x]) :=
  ⟨by rw [List.length_append, List.length_append, h.1]; rfl, fun i kv e => by
    by_cases c : i < kvs.length
    · rw [List.getElem?_append_left c] at e
      rw [List.getElem?_append_left (by rw [← h.1]; exact c)]
      exact h.2 i kv e
    · rw [List.getElem?_append_right (by omega)] at e
      rw [List.getElem?_append_right (by rw [← h.1]; omega), ← h.1]
      cases hi : i - kvs.length with
      | zero =>
        rw [hi] at e
        obtain rfl := Option.some.inj (show some (keyP x.1, V.ref t) = some kv from e)
        exact ⟨x, rfl, rfl, t, rfl, l⟩
      | succ n => rw [hi] at e; simp at e⟩
/-! ### a text is read -/
def readRows (d : Sheet) (k : Nat) : List (List Nat) → Nat ⊕ Sheet
  | [] => .inr d
  | a :: r => match readRow d a with
    | none => .inl k
    | some d' => readRows d' (k + 1) r
theorem readRows_bad {d : Sheet} {k : Nat} {a : List Nat} {r : List (List Nat)} (e : readRow d a = none) : readRows d k (a :: r) = .inl k := by
  show (match readRow d a with
    | none => (Sum.inl k : Nat ⊕ Sheet)
    | some d' => readRows d' (k + 1) r) = _
  rw [e]
theorem readRows_good {d d' : Sheet} {k : Nat} {a : List Nat} {r : List (List Nat)} (e : readRow d a = some d') : readRows d k (a :: r) = readRows d' (k + 1) r := by
  show (match readRow d a with
    | none => (Sum.inl k : Nat ⊕ Sheet)
    | some d' => readRows d' (k + 1) r) = _
  rw [e]
def wholeT (a : List Nat) : Bool := decide ((TL.spl [10] 0 [] a).getLast? = some [])
def rowsT (a : List Nat) : List (List Nat) := if (TL.spl [10] 0 [] a).getLast? = some [] then (TL.spl [10] 0 [] a).dropLast else TL.spl [10] 0 [] a
def readT (a : List Nat) : Nat ⊕ Sheet := match readRows [] 0 (rowsT a) with
  | .inl k => .inl k
  | .inr d => if wholeT a = true then .inr d else .inl (rowsT a).length
def Low (n : Nat) (d : Sheet) : Prop := (d.length ≤ n ∧ ∀ x ∈ d, x.2.length ≤ n) ∧ (d.map fun x => x.1).Pairwise ltP2
theorem Low.zero : Low 0 [] := ⟨⟨Nat.le_refl _, fun x m => by cases m⟩, List.Pairwise.nil⟩
theorem ahead_all {d : Sheet} {pr : Int × Int} (h : (d.map fun x => x.1).Pairwise ltP2) (a : Ahead d pr) : ∀ x ∈ d, ltP2 x.1 pr := by
  rcases List.eq_nil_or_concat d with e | ⟨d0, y, e⟩
  · subst e
    intro x m
    cases m
  · rw [List.concat_eq_append] at e
    subst e
    have l := a y List.getLast?_concat
    intro x m
    rcases List.mem_append.mp m with m | m
    · rw [List.map_append] at h
      have k := (List.pairwise_append.mp h).2.2 x.1 (List.mem_map.mpr ⟨x, m, rfl⟩) y.1 (by simp)
      unfold ltP2 at k l ⊢
      omega
    · rw [List.mem_singleton.mp m]; exact l
theorem Low.row {n : Nat} {d d' : Sheet} {a : List Nat} (h : Low n d) (e : readRow d a = some d') : Low (n + 1) d' := by
  have up : ∀ x ∈ d, x.2.length ≤ n + 1 := fun x m => Nat.le_succ_of_le (h.1.2 x m)
  unfold readRow at e
  split at e
  · unfold pairOf at e
    split at e
    · split at e
      · rename_i hb
        cases e
        refine ⟨⟨by rw [List.length_append]; exact Nat.succ_le_succ h.1.1, fun x m => ?_⟩, ?_⟩
        · rcases List.mem_append.mp m with m | m
          · exact up x m
          · rw [List.mem_singleton.mp m]; exact Nat.zero_le _
        · rw [List.map_append]
          refine List.pairwise_append.mpr ⟨h.2, List.pairwise_singleton _ _, fun p mp q mq => ?_⟩
          obtain ⟨x, mx, rfl⟩ := List.mem_map.mp mp
          have mq : q ∈ [_] := mq
          rw [List.mem_singleton.mp mq]
          exact ahead_all h.2 (ahead_iff.mp hb) x mx
      · cases e
    · cases e
  · unfold rowOf at e
    split at e
    · split at e
      · cases e
      · rename_i y ey
        cases e
        have my := List.mem_of_getLast? ey
        refine ⟨⟨by rw [List.length_append, List.length_dropLast]; have := h.1.1; show d.length - 1 + 1 ≤ _; omega, fun x m => ?_⟩, ?_⟩
        · rcases List.mem_append.mp m with m | m
          · exact up x (List.dropLast_subset _ m)
          · rw [List.mem_singleton.mp m, List.length_append]
            exact Nat.succ_le_succ (h.1.2 y my)
        · have k := h.2
          rcases List.eq_nil_or_concat d with e | ⟨d0, z, e⟩
          · rw [e] at my; cases my
          · rw [List.concat_eq_append] at e
            subst e
            rw [List.getLast?_concat] at ey
            obtain rfl := Option.some.inj ey
            rw [List.dropLast_concat, List.map_append]
            rw [List.map_append] at k
            exact k
    · cases e
theorem Low.nd {n : Nat} {d : Sheet} (h : Low n d) : (d.map fun x => x.1).Nodup := List.Pairwise.imp (fun {a b} l e => by rw [e] at l; unfold ltP2 at l; omega) h.2
def sp_read_paper (K : PySem.W.Frag) (C : Addr) : Sp := fun vs H Q E => ∃ v : V, vs = [v] ∧
  ((∃ a : List Nat, v = .str (Sx a) ∧ a.length ≤ 10000 ∧ (rowsT a).length ≤ 2900 ∧
      (∀ k, readT a = .inl k → ∀ d H', Same H H' → H d = none → H' d = some (.xd [(("row" : Str), .int (k : Nat))]) → E (.ref C) (some d) H') ∧
      ∀ sh, readT a = .inr sh → ∀ (d : Addr) (H' : Hp), Same H H' → H d = none → ShD H' d sh → Q (.ref d) H') ∨
    (∃ t, TyX K H v t ∧ PySem.W.kitOne K t (.type "str") = some false) ∧ ∀ d H', Same H H' → H d = none → H' d = some (.xd [(("row" : Str), .int 0)]) → E (.ref C) (some d) H')
section
variable {P : Program} {w : World} {K : PySem.W.Frag} {mg : Str → Option Value} {base : Heap}
theorem ok_read_paper {c_PaperReader : Addr} {c_TraceError : Addr} {c_NoText : Addr} {c_NoFlow : Addr} {c_NoUnit : Addr} (T : Tx K mg c_PaperReader c_TraceError c_NoText c_NoFlow c_NoUnit) {f_text_rows : Addr} {fd_text_rows : FuncData} (C_text_rows : CalR P w K mg base "text_rows" 3 ["text"] (sp_text_rows K c_NoText) s_text_rows f_text_rows fd_text_rows) {f_PaperReader___init__ : Addr} {fd_PaperReader___init__ : FuncData} (C_PaperReader___init__ : CalI P w K mg base c_PaperReader "__init__" 1 ["self"] (sp_PaperReader___init__ K c_PaperReader) s_PaperReader___init__ f_PaperReader___init__ fd_PaperReader___init__) {f_NoText___init__ : Addr} {fd_NoText___init__ : FuncData} (C_NoText___init__ : CalX P w K mg base c_NoText "__init__" 1 ["self", "row"] (sp_NoText___init__ K c_NoText) s_NoText___init__ f_NoText___init__ fd_NoText___init__) {f_PaperReader_reads : Addr} {fd_PaperReader_reads : FuncData} (C_PaperReader_reads : CalM P w K mg base c_PaperReader "reads" 4 ["self", "row"] (sp_PaperReader_reads K c_PaperReader) s_PaperReader_reads f_PaperReader_reads fd_PaperReader_reads) {f : Addr} {fd : FuncData} (F : Here K mg "read_paper" s_read_paper ["text"] f fd) : CalR P w K mg base "read_paper" 5 ["text"] (sp_read_paper K c_NoText) s_read_paper f fd := by
  refine F.calR sc_read_paper (fun vs H Q E h => ?_) (fun cdv A' outer s H vs Q E hr h => ?_)
  · obtain ⟨v, rfl, _⟩ := h
    rfl
  · obtain ⟨v, rfl, h⟩ := h
    refine ⟨_, (pss_cons (ps_asg (pe_callS C_text_rows.ok (hr.mono (by decide)) (by rfl) C_text_rows.at_ C_text_rows.kp C_text_rows.b (fun σ => passAt (takes_of rfl rfl rfl rfl) σ) (pa_cons (pv 0) pa_nil)) (castPG (K := K) (n := 2) (pg_tup rfl (pgs_cons (pg_name (i := 1) sc_read_paper.nd rfl (by first | exact .inl rfl | exact .inr rfl)) (pgs_cons (pg_name (i := 2) sc_read_paper.nd rfl (by first | exact .inl rfl | exact .inr rfl)) pgs_nil)))))
      (pss_cons (ps_set (i := 3) sc_read_paper.nd rfl (by first | exact .inl rfl | exact .inr rfl) (pe_make0 C_PaperReader___init__.mkk C_PaperReader___init__.ok (hr.mono (by decide)) (by rfl) T.g_PaperReader C_PaperReader___init__.b .nil pass0))
      (pss_cons (ps_for (passes_of rfl) rfl (castPI (K := K) (wi := fun K => iEnum K _) (pi_enum (by rfl) T.m_enumerate (pa_cons (pv 1) pa_nil))) (castPG (K := K) (n := 2) (pg_tup rfl (pgs_cons (pg_name (i := 4) sc_read_paper.nd rfl (by first | exact .inl rfl | exact .inr rfl)) (pgs_cons (pg_name (i := 5) sc_read_paper.nd rfl (by first | exact .inl rfl | exact .inr rfl)) pgs_nil)))) (pss_one (ps_if (pt_not (pt_val (pe_meth (pv 3) T.cl_PaperReader C_PaperReader_reads.me C_PaperReader_reads.ok (hr.mono (by decide)) C_PaperReader_reads.b .nil pass0 (pa_cons (pv 5) pa_nil)))) (pss_one (ps_raise rfl (takes_of rfl rfl rfl rfl) (pmk_oex C_NoText___init__.oc C_NoText___init__.iC C_NoText___init__.tI C_NoText___init__.ok (hr.mono (by decide)) C_NoText___init__.b .nil pass0 (by rfl) T.g_NoText (pa_cons (pv 4) pa_nil)))) pss_nil)))
      (pss_cons (ps_if (pt_not (pt_val (pv 2))) (pss_one (ps_raise rfl (takes_of rfl rfl rfl rfl) (pmk_oex C_NoText___init__.oc C_NoText___init__.iC C_NoText___init__.tI C_NoText___init__.ok (hr.mono (by decide)) C_NoText___init__.b .nil pass0 (by rfl) T.g_NoText (pa_cons (pe_callB (cr_lenK (K := K)) (by rfl) T.m_len (by decide +kernel) (pa_cons (pv 1) pa_nil)) pa_nil)))) pss_nil)
      (pss_one (ps_ret (pe_dcT (Nat.lt_of_le_of_lt (Nat.le_add_right _ 64) (hu_of64 hr)) rfl sc_read_paper.nd (castPI (K := K) (wi := fun K => iZipA K _) (pi_zipA (by rfl) T.m_zip (pa_cons (pe_fldK (K := K) (pv 3) rfl) (pa_cons (pe_fldK (K := K) (pv 3) rfl) pa_nil)))) (blkOk_by (own := [("pair", 6), ("told", 7)]) (N := ["text", "rows", "is_whole", "reader", "at", "row", "pair", "told"]) (sc := (defScope s_read_paper)) (by decide +kernel)) (fun _ _ _ _ _ => (castPG (K := K) (n := 2) (pg_tup rfl (pgs_cons (pg_name (i := 6) sc_read_paper.nd rfl (by first | exact .inl rfl | exact .inr rfl)) (pgs_cons (pg_name (i := 7) sc_read_paper.nd rfl (by first | exact .inl rfl | exact .inr rfl)) pgs_nil))))) (fun _ _ _ _ _ => pts_nil) (fun _ _ _ _ _ => (pv 6)) (fun _ _ _ _ _ => (pe_callTy (cr_tupOfK (K := K)) (by rfl) T.m_tuple (by decide +kernel) (pa_cons (pv 7) pa_nil)))))))))), ?_⟩
    rcases h with ⟨a, rfl, ha, hn, qe, q⟩ | ⟨hty, q⟩
    · walk_at "st"
      refine ⟨_, rfl, .str (Sx a), rfl, .inl ⟨a, rfl, by omega, fun t l H1 s1 et el => ?_⟩⟩
      have et : H1 t = some (.tup [.ref l, .bl (wholeT a)]) := et
      have el : H1 l = some (.lst ((rowsT a).map fun p => V.str (Sx p))) := el
      have rl : ∀ p ∈ rowsT a, p.length ≤ 10000 := fun p m => by
        have m2 : p ∈ TL.spl [10] 0 [] a := by
          unfold rowsT at m
          split at m
          · exact List.dropLast_subset _ m
          · exact m
        exact Nat.le_trans (spl_part 0 [] a p m2) (by rw [List.length_nil]; omega)
      unfold readT at qe q
      generalize rowsT a = rows at *
      generalize wholeT a = wh at *
      show gTup K 2 (gCons (gName 1) (gCons (gName 2) gNil)) (.ref t) _ _ _
      walk_at "st"
      intro x dx hx hdx nxd
      refine ⟨x, dx, rfl, upd_same, fun A B H2 k2 hA hB R => ⟨rfl, ?_⟩⟩
      have s2 : Same H1 H2 := fun b o e => k2 b o (hl_set (ne_of_none e hx) (hl_set (ne_of_none e hdx) e)) (ne_of_none e hx)
      have nA : H1 A = none := by
        cases hh : H1 A with
        | none => rfl
        | some o => rw [hl_set (ne_of_none hh hx) (hl_set (ne_of_none hh hdx) hh)] at hA; cases hA
      have nB : H1 B = none := by
        cases hh : H1 B with
        | none => rfl
        | some o => rw [hl_set (ne_of_none hh hx) (hl_set (ne_of_none hh hdx) hh)] at hB; cases hB
      clear k2 hA hB nxd
      have el2 := s2 _ _ el
      walk_at "st"
      refine ⟨_, rfl, l, _, rfl, SqL.of el2, ?_⟩
      refine lp_by (walk_enum (K := K) (a := l) (xs := rows.map fun p => V.str (Sx p))) (fun i σ' H' => ∃ x4 x5 ls dd, σ' = [some (.str (Sx a)), some (.ref l), some (.bl wh), some (.ref x), x4, x5, none, none] ∧ Same H1 H' ∧ RdS _ H' x A B ls dd ∧ (∀ b ∈ ls, H1 b = none) ∧ readRows [] 0 rows = readRows dd i (rows.drop i) ∧ Low i dd)
        ⟨_, _, [], [], rfl, s2, R, fun b m => (by cases m), rfl, Low.zero⟩ (fun i σ' H' _ z => by obtain ⟨_, _, _, _, _, z1, _⟩ := z; exact SqL.of (z1 _ _ el)) (fun i v σ' HX HX' hi z y => ?_) (fun σ' HX z => ?_)
      · obtain ⟨y4, y5, ls, dd, rfl, sm, R1, nls, er, low⟩ := z
        obtain ⟨tt, x1, y1, rfl, nt, rfl, e1, e2⟩ := y
        rw [List.length_map] at hi
        have e2 : (rows.map fun p => V.str (Sx p))[i]? = some y1 := e2
        rw [List.getElem?_map, List.getElem?_eq_getElem hi] at e2
        obtain rfl := Option.some.inj e1
        obtain rfl : V.str (Sx rows[i]) = y1 := Option.some.inj e2
        have R2 := R1.same (Same.upd_new (x := .tup [.int (i : Nat), .str (Sx rows[i])]) nt)
        have sm2 := sm.trans (Same.upd_new (x := .tup [.int (i : Nat), .str (Sx rows[i])]) nt)
        have ett : upd HX tt (.tup [.int (i : Nat), .str (Sx rows[i])]) tt = some (.tup [.int (i : Nat), .str (Sx rows[i])]) := upd_same
        generalize upd HX tt (.tup [.int (i : Nat), .str (Sx rows[i])]) = HY at *
        have rli := rl rows[i] (List.getElem_mem hi)
        have ed : rows.drop i = rows[i] :: rows.drop (i + 1) := List.drop_eq_getElem_cons hi
        rw [ed] at er
        generalize rows[i] = rw' at *
        refine ⟨tt, [.int (i : Nat), .str (Sx rw')], rfl, .inl (.inl ett), rfl, _, _, rfl, _, _, rfl, rfl, ?_⟩
        walk_at "st"
        walk_at "if"
        obtain ⟨dx2, hp⟩ := R2.ob
        refine ⟨_, rfl, x, dx2, _, rfl, hp, rdF_no A B (by decide +kernel) (by decide +kernel), ?_⟩
        walk_at "st"
        have own : ∀ b o, H1 b = some o → b ∉ A :: B :: ls := fun b o e m => by
          rcases List.mem_cons.mp m with z | m
          · rw [z, nA] at e; cases e
          · rcases List.mem_cons.mp m with z | m
            · rw [z, nB] at e; cases e
            · rw [nls b m] at e; cases e
        refine ⟨x, A, B, ls, dd, rw', rfl, R2, by have := low.1.1; omega, fun z m => by have := low.1.2 z m; omega, rli, fun en H3 s3 => ?_, fun d' en m H3 nm k3 R3 => ?_⟩
        · refine ⟨false, rfl, ?_⟩
          rw [if_pos (by rfl)]
          refine ⟨.int (i : Nat), rfl, ?_⟩
          have S4 := s1.trans (sm2.trans s3)
          refine mk_NT (n := (i : Nat)) ⟨by omega, by omega⟩ C_NoText___init__.oc fun e H4 s5 ne ee => ?_
          refine qe i ?_ e H4 (S4.trans s5) ?_ ee
          · rw [er, readRows_bad en]
          · cases hh : H e with
            | none => rfl
            | some o => rw [S4 _ _ hh] at ne; cases ne
        · walk_at "st"
          refine ⟨_, _, ls ++ m, d', rfl, fun b o e => k3 b o (sm2 _ _ e) (own b o e), R3, fun b mb => ?_, ?_, low.row en⟩
          · rcases List.mem_append.mp mb with mb | mb
            · exact nls b mb
            · cases hh : H1 b with
              | none => rfl
              | some o => have z := nm b mb; rw [sm2 _ _ hh] at z; cases z
          · rw [er, readRows_good en]
      · obtain ⟨y4, y5, ls, dd, rfl, sm, R1, nls, er, low⟩ := z
        rw [List.length_map] at er low
        rw [List.drop_length] at er
        have er : readRows [] 0 rows = .inr dd := er
        rw [er] at qe q
        walk_at "st"
        walk_at "if"
        cases wh with
        | false =>
          walk_at "st"
          refine ⟨.ref l, rfl, l, _, rfl, .inl (SqL.of (sm _ _ el)), ?_⟩
          rw [List.length_map]
          have S4 := s1.trans sm
          refine mk_NT (n := (rows.length : Nat)) ⟨by omega, by omega⟩ C_NoText___init__.oc fun e H4 s5 ne ee => ?_
          refine qe rows.length rfl e H4 (S4.trans s5) ?_ ee
          cases hh : H e with
          | none => rfl
          | some o => rw [S4 _ _ hh] at ne; cases ne
        | true =>
        walk_at "st"
        obtain ⟨⟨dx2, hp⟩, nd, ⟨ua, hA, pa⟩, hB, len, row⟩ := R1
        have cl := T.cl_PaperReader
        have n1 := T.na_pairs_told
        have n2 := T.na_rows_told
        have l1 := rdF_p A B
        have l2 := rdF_r A B
        walk_at "st"
        intro D hD
        have lua : ua.length = dd.length := by rw [pa.1, List.length_map]
        have emin : min ua.length (ls.map V.ref).length = dd.length := by rw [List.length_map, lua, len, Nat.min_self]
        refine dcT_by (walk_zipL (K := K) (a := A) (b := B) (xs := ua) (ys := ls.map V.ref) rfl) (fun i H' => Same HX H' ∧ ∃ kvs, H' D = some (.dT kvs) ∧ ShV H' kvs (dd.take i)) ⟨Same.upd_new hD, [], upd_same, rfl, fun i kv e => by simp at e⟩ (fun i H' _ z => ⟨SqL.of (z.1 _ _ hA), SqL.of (z.1 _ _ hB)⟩) (fun i v H5 H6 hi z y => ?_) (fun H5 z => ?_)
        · obtain ⟨sm5, kvs, eD, sv⟩ := z
          obtain ⟨tt, x1, y1, rfl, nt, rfl, e1, e2⟩ := y
          rw [emin] at hi
          obtain ⟨pp, ep, ta, rfl, hta⟩ := pa.2 i x1 e1
          have e2 : (ls.map V.ref)[i]? = some y1 := e2
          rw [List.getElem?_map] at e2
          cases el3 : ls[i]? with
          | none => rw [el3] at e2; cases e2
          | some lk =>
            rw [el3] at e2
            obtain rfl : V.ref lk = y1 := Option.some.inj e2
            obtain ⟨xx, us, exx, hlk, rw1⟩ := row i lk el3
            have epp : xx.1 = pp := by
              rw [List.getElem?_map, exx] at ep
              exact Option.some.inj ep
            subst epp
            have s6 : Same H5 (upd H5 tt (.tup [.ref ta, .ref lk])) := Same.upd_new nt
            have eD6 := s6 _ _ eD
            have sv6 := sv.to fun t xs e => s6 _ _ e
            have hlk6 := s6 _ _ (sm5 _ _ hlk)
            have hta6 := s6 _ _ (sm5 _ _ hta)
            have r6 := (rw1.same sm5).same s6
            have sm6 := sm5.trans s6
            have ett : upd H5 tt (.tup [.ref ta, .ref lk]) tt = some (.tup [.ref ta, .ref lk]) := upd_same
            generalize upd H5 tt (.tup [.ref ta, .ref lk]) = H7 at *
            refine ⟨tt, [.ref ta, .ref lk], rfl, .inl (.inl ett), rfl, _, _, rfl, _, _, rfl, rfl, ?_⟩
            refine ⟨rfl, ?_⟩
            walk_at "st"
            intro tp htp
            have s8 : Same H7 (upd H7 tp (.tup us)) := Same.upd_new htp
            have etp : upd H7 tp (.tup us) tp = some (.tup us) := upd_same
            generalize upd H7 tp (.tup us) = H8 at *
            have lk : kvs.length ≤ 2900 := by
              rw [sv.1]
              exact Nat.le_trans (List.length_take_le' ..) (Nat.le_trans low.1.1 (by omega))
            have tk : dd.take (i + 1) = dd.take i ++ [xx] := by rw [List.take_succ, exx]; rfl
            have nk : keyP xx.1 ∉ kvs.map fun kv => kv.1 := fun m => by
              rw [sv.keys] at m
              obtain ⟨z, hz, ez⟩ := List.mem_map.mp m
              have ndk := low.nd
              have e3 : dd = dd.take (i + 1) ++ dd.drop (i + 1) := (List.take_append_drop ..).symm
              rw [e3, tk, List.map_append, List.map_append] at ndk
              have n1 := (List.nodup_append.mp (List.nodup_append.mp ndk).1).2.2 z.1 (List.mem_map.mpr ⟨z, hz, rfl⟩) xx.1 (by simp)
              exact n1 (keyP_inj ez)
            have tups : ∀ t xs, H8 t = some (.tup xs) → upd H8 D (.dT (putK kvs (keyP xx.1) (.ref tp))) t = some (.tup xs) := fun t xs e => hl_set (fun z => by rw [z, s8 _ _ eD6] at e; cases e) e
            refine ⟨kvs, keyP xx.1, ta, rfl, s8 _ _ hta6, s8 _ _ eD6, Nat.lt_of_le_of_lt lk (by decide), fun b o e => hl_set (ne_of_none e hD) (s8 _ _ (sm6 _ _ e)), _, upd_same, ?_⟩
            rw [putK_new _ (valV_no nk), tk]
            rw [← putK_new _ (valV_no nk)]
            have sv8 := (sv6.to fun t xs e => s8 _ _ e).snoc (x := xx) (t := tp) ⟨us, etp, r6.same s8⟩
            rw [← putK_new _ (valV_no nk)] at sv8
            exact sv8.to tups
        · obtain ⟨sm5, kvs, eD, sv⟩ := z
          rw [emin, List.take_length] at sv
          have S0 := s1.trans (sm.trans sm5)
          refine q dd rfl D H5 S0 ?_ ⟨kvs, eD, sv⟩
          cases hh : H D with
          | none => rfl
          | some o => rw [(s1.trans sm) _ _ hh] at hD; cases hD
    · walk_at "st"
      exact ⟨v, rfl, v, rfl, .inr ⟨hty, q⟩⟩
end
local macro_rules | `(tactic| walk_at "ssz") => `(tactic| first | decide | exact str_small (by assumption) | (have : (1000000 : Nat) ≤ sizeLine := (by decide); omega))
local macro_rules | `(tactic| walk_at "st1") => `(tactic| first
  | with_reducible refine' r_nt ?_ | with_reducible refine' r_nf ?_
  | ((with_reducible refine r_lenS ?e1 ?_); (case e1 => walk_at "ssz"))
  | with_reducible refine r_inS ?_
  | with_reducible refine r_ninS ?_
  | ((with_reducible refine r_addS ?e1 ?_); (case e1 => walk_at "ssz"))
  | ((with_reducible refine' r_ixS ?e1 ?e2 ?_); (case e1 => walk_at "ssz"); (case e2 => first | assumption | rfl))
  | with_reducible refine r_istr ?_
  | with_reducible refine r_is ?_
  | with_reducible refine r_un ?_
  | with_reducible refine r_u ?_)
local macro_rules | `(tactic| walk_at "st1") => `(tactic| first
  | with_reducible refine r_tru ?_
  | ((with_reducible refine' r_truT ?e1 ?_); (case e1 => walk_at "sq"))
  | with_reducible refine r_isN ?_
  | with_reducible refine r_tyS ?_
  | with_reducible refine r_m1 ?_
  | with_reducible refine r_sx ?_
  | ((with_reducible refine r_strC ?e1 ?_); (case e1 => omega)))
local macro_rules | `(tactic| walk_at "st1") => `(tactic| first
  | with_reducible refine r_par ?_
  | with_reducible refine r_parx ?_
  | ((with_reducible refine' r_gtup ?e1 ?e2 ?_); (case e1 => walk_at "sq"); (case e2 => rfl))
  | with_reducible refine r_gcons ?_
  | with_reducible refine r_gnil ?_
  | with_reducible refine r_ient ?_
  | ((with_reducible refine' r_ent ?e1 ?_); (case e1 => walk_at "sq")))
local macro_rules | `(tactic| walk_at "st1") => `(tactic| first
  | with_reducible refine' r_nt ?_
  | with_reducible refine' r_nf ?_
  | with_reducible refine r_un ?_
  | with_reducible refine r_u ?_)
/-! ### the law's own numbers -/
def NumV (H : Hp) (v : V) (o : Option (List Int)) : Prop := (o = none ∧ v = .non) ∨ ∃ (ns : List Int) (t : Addr), o = some ns ∧ v = .ref t ∧ H t = some (.tup (ns.map .int))
theorem NumV.same {H H' : Hp} {v : V} {o : Option (List Int)} (h : NumV H v o) (k : Same H H') : NumV H' v o := by
  rcases h with ⟨e1, e2⟩ | ⟨ns, t, e1, e2, e3⟩
  · exact .inl ⟨e1, e2⟩
  · exact .inr ⟨ns, t, e1, e2, k _ _ e3⟩
theorem nums_none {p : List Nat} : ∀ {ps : List (List Nat)}, p ∈ ps → figC p 5 = none → numsC ps = none
  | q :: ps, m, e => by
    rw [numsC_cons]
    rcases List.mem_cons.mp m with rfl | m
    · rw [e]
    · rw [nums_none m e]
      cases figC q 5 <;> rfl
theorem fig_some {a : List Nat} {m n : Int} (e : figC a m = some n) : n = ((NumText.digitsVal a : Nat) : Int) ∧ a.all digC = true ∧ a ≠ [] ∧ (a.length : Int) ≤ m := by
  unfold figC at e
  split at e
  · rename_i h
    exact ⟨(Option.some.inj e).symm, h.2.1, fun z => by rw [z] at h; exact absurd h.1.1 (by decide), h.1.2⟩
  · cases e
def valsC (ps : List (List Nat)) : List Int := ps.map fun p => ((NumText.digitsVal p : Nat) : Int)
theorem nums_all : ∀ {ps : List (List Nat)}, (∀ p ∈ ps, (figC p 5).isSome = true) → numsC ps = some (valsC ps)
  | [], _ => rfl
  | p :: ps, h => by
    obtain ⟨n, e⟩ := Option.isSome_iff_exists.mp (h p List.mem_cons_self)
    rw [numsC_cons, e, nums_all fun q m => h q (List.mem_cons_of_mem _ m), (fig_some e).1]
    rfl
def sp_law_numbers (_ : PySem.W.Frag) : Sp := fun vs H Q _ => ∃ (l : Addr) (ps : List (List Nat)), vs = [.ref l] ∧ H l = some (.lst (ps.map fun p => V.str (Sx p))) ∧ ps.length ≤ 20000 ∧ (∀ p ∈ ps, p.length ≤ 10000) ∧
  ∀ v H', Same H H' → NumV H' v (numsC ps) → Q v H'
section
variable {P : Program} {w : World} {K : PySem.W.Frag} {mg : Str → Option Value} {base : Heap}
theorem ok_law_numbers {c_PaperReader : Addr} {c_TraceError : Addr} {c_NoText : Addr} {c_NoFlow : Addr} {c_NoUnit : Addr} (T : Tx K mg c_PaperReader c_TraceError c_NoText c_NoFlow c_NoUnit)  {f : Addr} {fd : FuncData} (F : Here K mg "_law_numbers" s_law_numbers ["words"] f fd) : Cal P w K mg base "_law_numbers" 1 ["words"] (sp_law_numbers K) s_law_numbers f fd := by
  refine F.cal sc_law_numbers (fun vs H Q E h => ?_) (fun cdv A outer s H vs Q E hr h => ?_)
  · obtain ⟨l, ps, rfl, _⟩ := h
    rfl
  · obtain ⟨l, ps, rfl, hl, lp, sz, q⟩ := h
    refine ⟨_, (pss_cons (ps_for PassesOwn.never rfl (pi_listK (K := K) (pv 0)) (pg_name (i := 1) sc_law_numbers.nd rfl (by first | exact .inl rfl | exact .inr rfl)) (pss_cons (ps_setLc (i := 2) rfl sc_law_numbers.nd rfl rfl (sw_true rfl rfl rfl (by decide +kernel)) (pi_str (pv 1)) (blkOk_by (own := [("sign", 3)]) (N := ["words", "word", "odd", "sign"]) (sc := (defScope s_law_numbers)) (by decide +kernel)) (fun _ _ _ _ _ => (pg_name (i := 3) sc_law_numbers.nd rfl (by first | exact .inl rfl | exact .inr rfl))) (fun _ _ _ _ _ => (pts_one (pt_cmpR op_ninS (pv 3) pe_str (by rfl)))) (fun _ _ _ _ _ => (pv 3)))
      (pss_one (ps_if (PW.pt (pw_or (pt_not (pt_chain op_le op_le pe_int (pe_callB cr_lenS (by rfl) T.m_len (by decide +kernel) (pa_cons (pv 1) pa_nil)) pe_int)) (pw_or (pt_cmpR (op_neNilK (K := K) (hu_of64 hr)) (pv 2) (pe_lst pa_nil) (nomark _)) (pw_or1 (PW.pt (pw_and (pt_cmpR op_eq (pe_ix ix_str (pv 1) pe_int (fun _ _ => rfl)) pe_str (nomark _)) (pw_and1 (pt_cmpR op_ne (pv 1) pe_str (nomark _))))))))) (pss_one (ps_ret pe_non)) pss_nil))))
      (pss_one (ps_ret (pe_callTy (cr_tupOfK (K := K)) (by rfl) T.m_tuple (by decide +kernel) (pa_cons (pe_lc rfl sc_law_numbers.nd (pi_listK (K := K) (pv 0)) (blkOk_by (own := [("word", 1)]) (N := ["words", "word", "odd", "sign"]) (sc := (defScope s_law_numbers)) (by decide +kernel)) (fun _ _ _ _ _ => (pg_name (i := 1) sc_law_numbers.nd rfl (by first | exact .inl rfl | exact .inr rfl))) (fun _ _ _ _ _ => pts_nil) (fun _ _ _ _ _ => (pe_callTy cr_intS (by rfl) T.m_int (by decide +kernel) (pa_cons (pv 1) pa_nil)))) pa_nil))))), ?_⟩
    walk_at "st"
    refine lp_by (walk_list (a := l) (xs := ps.map fun p => V.str (Sx p))) (fun i σ' H' => ∃ (x1 x2 x3 : Option V), σ' = [some (.ref l), x1, x2, x3] ∧ Same H H' ∧ ∀ p ∈ ps.take i, (figC p 5).isSome = true)
      ⟨_, _, _, rfl, Same.refl _, fun p m => by simp at m⟩ (fun i σ' H' _ z => by obtain ⟨_, _, _, _, z1, _⟩ := z; exact SqL.of (z1 _ _ hl)) (fun i v σ' HX HX' hi z y => ?_) (fun σ' HX z => ?_)
    · obtain ⟨y1, y2, y3, rfl, sm, good⟩ := z
      obtain ⟨rfl, ex⟩ := y
      rw [List.length_map] at hi
      rw [List.getElem?_map, List.getElem?_eq_getElem hi] at ex
      obtain rfl : V.str (Sx ps[i]) = v := Option.some.inj ex
      have hp := sz ps[i] (List.getElem_mem hi)
      have tk : ps.take (i + 1) = ps.take i ++ [ps[i]] := by rw [List.take_succ, List.getElem?_eq_getElem hi]; rfl
      have no : figC ps[i] 5 = none → ∀ H', Same H H' → Q .non H' := fun e H' k => q .non H' k (.inl ⟨nums_none (List.getElem_mem hi) e, rfl⟩)
      have yes : (figC ps[i] 5).isSome = true → ∀ p ∈ ps.take (i + 1), (figC p 5).isSome = true := fun e p m => by
        rw [tk] at m
        rcases List.mem_append.mp m with m | m
        · exact good p m
        · rw [List.mem_singleton.mp m]; exact e
      generalize ps[i] = p at *
      have hla : (Sx p).length ≤ sizeLine := by rw [Sx_len]; exact Nat.le_trans hp (by decide)
      have szp : (Sx p).cps.size = p.length := Sx_len p
      walk_at "st"
      intro D hD
      refine lc_filt (walk_str (z := Sx p)) (by omega) hD (fun i => !digC (p.getD i 0)) (fun _ _ => trivial) (fun i H1 x H2 y => by rw [y.1]; exact Same.refl _)
        (fun i x' H3 H4 Y No hi sm y hY hN => ?_) (fun ys H3 ey ly s3 eD => ?_)
      · obtain ⟨rfl, c, ec, rfl⟩ := y
        have gd : p.getD i 0 = c := by
          rw [List.getD_eq_getElem?_getD]
          have e0 := Array.getElem?_toList (xs := (Sx p).cps) (i := i)
          have : p[i]? = some c := (show p[i]? = _ from e0).trans ec
          rw [this]; rfl
        rw [gd] at hY hN
        refine ⟨rfl, ?_⟩
        walk_at "st"
        have e2 : decide (c ∈ (Str.ofString "0123456789").cps.toList) = digC c := (digC_iff c).symm
        rw [e2]
        cases hc : digC c with
        | true =>
          rw [hc] at hN
          walk_at "st"
          exact hN rfl _ (Same.refl _)
        | false =>
          rw [hc] at hY
          walk_at "st"
          exact hY rfl _ _ (Same.refl _)
      have ey2 : ys.isEmpty = p.all digC := by
        rw [ey]
        have e9 := range_all digC 0 p
        rw [← e9, szp]
        congr 1
        funext j
        rw [Bool.not_not]
      have S3 := sm.trans s3
      walk_at "st"
      walk_at "if"
      rw [Sx_len]
      refine r_ite (fun h1 => ?_) (fun h1 => ?_)
      · walk_at "st"
        cases h2 : decide ((p.length : Int) ≤ 5) with
        | false =>
          walk_at "st"
          refine no ?_ H3 S3
          unfold figC
          rw [if_neg fun z => of_decide_eq_false h2 z.1.2]
        | true =>
          have hm2 := of_decide_eq_true h2
          walk_at "st"
          intro pe hpe
          walk_at "st"
          rw [ey2]
          have S4 := S3.trans (Same.upd_new (x := .lst []) hpe)
          generalize upd H3 pe (.lst []) = H4 at *
          cases h3 : p.all digC with
          | false =>
            walk_at "st"
            refine no ?_ H4 S4
            unfold figC
            rw [if_neg fun z => by rw [h3] at z; exact absurd z.2.1 (by decide)]
          | true =>
            walk_at "st"
            obtain ⟨c, r, rfl⟩ : ∃ c r, p = c :: r := by
              cases p with
              | nil => simp at h1
              | cons c r => exact ⟨c, r, rfl⟩
            have ix : atI (Sx (c :: r)).cps.toList 0 = some c := (show atI (c :: r) ((0 : Nat) : Int) = some c from atI_nat rfl)
            walk_at "st"
            have e2 : decide (V.str ⟨#[c]⟩ = V.str (Str.ofString "0")) = decide (c = 48) := by
              refine decide_eq_decide.mpr ⟨fun z => ?_, fun z => by rw [z]; rfl⟩
              injection z with z
              injection z with z
              have : #[c] = #[48] := z
              simpa using this
            have e3 : decide (V.str (Sx (c :: r)) = V.str (Str.ofString "0")) = decide (c :: r = [48]) := by
              refine decide_eq_decide.mpr ⟨fun z => ?_, fun z => by rw [z]; rfl⟩
              injection z with z
              exact congrArg cs z
            have fs : ¬ ((c :: r).head? = some 48 ∧ 1 < (c :: r).length) → (figC (c :: r) 5).isSome = true := fun z => by
              unfold figC
              rw [if_pos ⟨⟨by simp, hm2⟩, h3, z⟩]; rfl
            rw [e2]
            refine r_ite (fun h4 => ?_) (fun h4 => ?_)
            · walk_at "st"
              rw [e3]
              by_cases h5 : c :: r = [48]
              · rw [decide_eq_true h5]
                walk_at "st"
                exact ⟨_, _, _, rfl, S4, yes (fs fun z => by rw [h5] at z; exact absurd z.2 (by decide))⟩
              · rw [decide_eq_false h5]
                walk_at "st"
                have l2 : 1 < (c :: r).length := by
                  cases r with
                  | nil => exact absurd (by rw [h4]) h5
                  | cons _ _ => simp
                refine no ?_ H4 S4
                unfold figC
                rw [if_neg fun z => z.2.2 ⟨by rw [h4]; rfl, l2⟩]
            · walk_at "st"
              exact ⟨_, _, _, rfl, S4, yes (fs fun z => h4 (Option.some.inj z.1))⟩
      · walk_at "st"
        refine no ?_ H3 S3
        unfold figC
        rw [if_neg fun z => h1 (by have := z.1.1; omega)]
    · obtain ⟨y1, y2, y3, rfl, sm, good⟩ := z
      rw [List.length_map, List.take_length] at good
      have en := nums_all good
      rw [en] at q
      walk_at "st"
      intro D hD
      refine lc_map (walk_list (a := l) (xs := ps.map fun p => V.str (Sx p))) (by rw [List.length_map]; omega) hD (fun i y _ => ∃ p, ps[i]? = some p ∧ y = .int ((NumText.digitsVal p : Nat) : Int)) (fun _ _ _ _ h _ => h) (fun _ _ _ _ _ h _ => h) (fun H' k => SqL.of (k _ _ (sm _ _ hl))) (fun i H1 x H2 y => by rw [y.1]; exact Same.refl _)
        (fun i x H1 H2 Y No hi s1 y hY => ?_) (fun ys H' el s1 eD hys => ?_)
      · obtain ⟨rfl, ex⟩ := y
        rw [List.getElem?_map] at ex
        cases er : ps[i]? with
        | none => rw [er] at ex; cases ex
        | some p =>
          rw [er] at ex
          obtain rfl : V.str (Sx p) = x := Option.some.inj ex
          obtain ⟨n, e⟩ := Option.isSome_iff_exists.mp (good p (List.mem_of_getElem? er))
          obtain ⟨_, f2, f3, f4⟩ := fig_some e
          refine ⟨rfl, ?_⟩
          walk_at "st"
          exact ⟨_, _, rfl, SX.int_S f2 f3 (by omega), by rw [Sx_len]; omega, hY _ _ (Same.refl _) ⟨p, er, rfl⟩⟩
      · obtain rfl : ys = (valsC ps).map V.int := by
          refine list_ext_int (by rw [el, List.length_map]; unfold valsC; rw [List.length_map]) fun i y e => ?_
          obtain ⟨p, ep, rfl⟩ := hys i y e
          exact ⟨_, by unfold valsC; rw [List.getElem?_map, ep]; rfl, rfl⟩
        walk_at "st"
        intro t ht
        exact q (.ref t) _ ((sm.trans s1).trans (Same.upd_new ht)) (.inr ⟨_, t, rfl, rfl, upd_same⟩)
end
local macro_rules | `(tactic| walk_at "ssz") => `(tactic| first | decide | exact str_small (by assumption) | (have : (1000000 : Nat) ≤ sizeLine := (by decide); omega))
local macro_rules | `(tactic| walk_at "st1") => `(tactic| first
  | with_reducible refine' r_nt ?_ | with_reducible refine' r_nf ?_
  | ((with_reducible refine r_lenS ?e1 ?_); (case e1 => walk_at "ssz"))
  | with_reducible refine r_inS ?_
  | with_reducible refine r_ninS ?_
  | ((with_reducible refine r_addS ?e1 ?_); (case e1 => walk_at "ssz"))
  | ((with_reducible refine' r_ixS ?e1 ?e2 ?_); (case e1 => walk_at "ssz"); (case e2 => first | assumption | rfl))
  | with_reducible refine r_istr ?_
  | with_reducible refine r_is ?_
  | with_reducible refine r_un ?_
  | with_reducible refine r_u ?_)
local macro_rules | `(tactic| walk_at "st1") => `(tactic| first
  | with_reducible refine r_tru ?_
  | ((with_reducible refine' r_truT ?e1 ?_); (case e1 => walk_at "sq"))
  | with_reducible refine r_isN ?_
  | with_reducible refine r_tyS ?_
  | with_reducible refine r_m1 ?_
  | with_reducible refine r_sx ?_
  | ((with_reducible refine r_strC ?e1 ?_); (case e1 => omega)))
local macro_rules | `(tactic| walk_at "st1") => `(tactic| first
  | with_reducible refine r_par ?_
  | with_reducible refine r_parx ?_
  | ((with_reducible refine' r_gtup ?e1 ?e2 ?_); (case e1 => walk_at "sq"); (case e2 => rfl))
  | with_reducible refine r_gcons ?_
  | with_reducible refine r_gnil ?_
  | with_reducible refine r_ient ?_
  | ((with_reducible refine' r_ent ?e1 ?_); (case e1 => walk_at "sq")))
local macro_rules | `(tactic| walk_at "st1") => `(tactic| first
  | with_reducible refine' r_nt ?_
  | with_reducible refine' r_nf ?_
  | with_reducible refine r_un ?_
  | with_reducible refine r_u ?_)
/-! ### the texts that the law draws: how long they are -/
theorem cs_append (x y : Str) : cs (x ++ y) = cs x ++ cs y := by
  show (x.cps ++ y.cps).toList = _
  rw [Array.toList_append]; rfl
theorem cs_len (x : Str) : (cs x).length = x.length := by
  show x.cps.toList.length = x.cps.size
  rw [Array.length_toList]
theorem len_app (x y : Str) : (x ++ y).length = x.length + y.length := by rw [← cs_len, cs_append, List.length_append, cs_len, cs_len]
theorem join_len (s : List Nat) : ∀ ps : List (List Nat), (TL.joinL s ps).length ≤ (ps.map fun p => p.length + s.length).sum
  | [] => by simp [TL.joinL]
  | [p] => by simp [TL.joinL]
  | p :: q :: ps => by
    have ih := join_len s (q :: ps)
    have e : TL.joinL s (p :: q :: ps) = p ++ s ++ TL.joinL s (q :: ps) := by first | rfl | simp [TL.joinL]
    rw [e, List.length_append, List.length_append, List.map_cons, List.sum_cons]
    omega
def wtS (zs : List Str) : Nat := (zs.map fun z => z.length + 1).sum
theorem wtS_eq : ∀ zs : List Str, wtS zs = (zs.map (·.length)).sum + zs.length
  | [] => rfl
  | z :: zs => by
    have ih := wtS_eq zs
    unfold wtS at ih ⊢
    rw [List.map_cons, List.sum_cons, ih, List.map_cons, List.sum_cons, List.length_cons]; omega
theorem wtS_app (a b : List Str) : wtS (a ++ b) = wtS a + wtS b := by unfold wtS; rw [List.map_append, List.sum_append]
theorem wtS_cons (z : Str) (b : List Str) : wtS (z :: b) = z.length + 1 + wtS b := by unfold wtS; rw [List.map_cons, List.sum_cons]
theorem wtS_len : ∀ zs : List Str, zs.length ≤ wtS zs
  | [] => Nat.le_refl _
  | z :: zs => by rw [wtS_cons, List.length_cons]; have := wtS_len zs; omega
theorem join_wt (c : Nat) (zs : List Str) : (Txt.join (Sx [c]) zs).length ≤ wtS zs := by
  have e : zs = (zs.map cs).map Sx := by
    rw [List.map_map]
    conv => lhs; rw [← List.map_id zs]
    exact List.map_congr_left fun z _ => (Sx_cs z).symm
  have e2 : Txt.join (Sx [c]) zs = Sx (TL.joinL [c] (zs.map cs)) := by
    conv => lhs; rw [e]
    exact SX.join_S [c] (zs.map cs)
  rw [e2, Sx_len]
  refine Nat.le_trans (join_len [c] (zs.map cs)) (Nat.le_of_eq ?_)
  unfold wtS
  rw [List.map_map]
  exact congrArg List.sum (List.map_congr_left fun z _ => by
    show (cs z).length + 1 = z.length + 1
    rw [cs_len])
/-- a text of at most so many signs -/
def LeS (n : Nat) (z : Str) : Prop := z.length ≤ n
theorem LeS.mk {n : Nat} {z : Str} (h : z.length ≤ n) : LeS n z := h
theorem LeS.mono {n m : Nat} {z : Str} (h : LeS n z) (l : n ≤ m) : LeS m z := Nat.le_trans h l
/-- a text joined by one sign -/
theorem r_joinW {K : PySem.W.Frag} {H : Hp} {Q : VK} {c : Nat} {p : Addr} {ys : List Str} {n : Nat} (h : SqL K H p (ys.map V.str)) (l : wtS ys ≤ n) (hn : n ≤ 1000000) (q : ∀ z : Str, LeS n z → Q (.str z) H) : rJoin K (.str (Sx [c])) [.ref p] H Q :=
  ⟨_, p, ys, rfl, rfl, .inl h, by rw [show (Sx [c]).length = 1 from rfl]; have := wtS_eq ys; omega, q _ (Nat.le_trans (join_wt c ys) l)⟩
theorem r_addN {H : Hp} {Q : VK} {a b : Str} {n m : Nat} (h1 : LeS n a) (h2 : LeS m b) (l : n + m ≤ 1000000) (q : ∀ z : Str, LeS (n + m) z → Q (.str z) H) : rAddS (.str a) (.str b) H Q := by
  have h1 : a.length ≤ n := h1
  have h2 : b.length ≤ m := h2
  have : (1000000 : Nat) ≤ sizeLine := by decide
  exact r_addS (by omega) (q _ (show (a ++ b).length ≤ _ by rw [len_app]; omega))
def sp_law_text (_ : PySem.W.Frag) : Sp := fun vs H Q _ => ∃ s c : Addr, vs = [.ref s] ∧ St s c H ∧ ∀ (z : Str) H', Kp [s, c] H H' → St s c H' → z.length ≤ 625 → Q (.str z) H'
section
variable {P : Program} {w : World} {K : PySem.W.Frag} {mg : Str → Option Value} {base : Heap}
theorem ok_law_text {c_PaperReader : Addr} {c_TraceError : Addr} {c_NoText : Addr} {c_NoFlow : Addr} {c_NoUnit : Addr} (T : Tx K mg c_PaperReader c_TraceError c_NoText c_NoFlow c_NoUnit) {f_law_draw : Addr} {fd_law_draw : FuncData} (C_law_draw : Cal P w K mg base "_law_draw" 1 ["state", "many"] (sp_law_draw K) s_law_draw f_law_draw fd_law_draw) {f : Addr} {fd : FuncData} (F : Here K mg "_law_text" s_law_text ["state"] f fd) : Cal P w K mg base "_law_text" 2 ["state"] (sp_law_text K) s_law_text f fd := by
  refine F.cal sc_law_text (fun vs H Q E h => ?_) (fun cdv A outer s' H vs Q E hr h => ?_)
  · obtain ⟨s, c, rfl, _⟩ := h
    rfl
  · obtain ⟨s, c, rfl, st0, q⟩ := h
    have sl : (1000000 : Nat) ≤ sizeLine := by decide
    refine ⟨_, (pss_cons (ps_asg (pe_tup (pa_cons pe_str (pa_cons pe_int pa_nil))) (castPG (K := K) (n := 2) (pg_tup rfl (pgs_cons (pg_name (i := 1) sc_law_text.nd rfl (by first | exact .inl rfl | exact .inr rfl)) (pgs_cons (pg_name (i := 2) sc_law_text.nd rfl (by first | exact .inl rfl | exact .inr rfl)) pgs_nil)))))
      (pss_cons (ps_for PassesOwn.never rfl (pi_range1 (by rfl) T.m_range (pa_cons (pe_call C_law_draw.ok (hr.mono (by decide)) (by rfl) C_law_draw.at_ C_law_draw.kp C_law_draw.b .nil pass0 (pa_cons (pv 0) (pa_cons pe_int pa_nil))) pa_nil)) (pg_name (i := 3) sc_law_text.nd rfl (by first | exact .inl rfl | exact .inr rfl)) (pss_cons (ps_set (i := 2) sc_law_text.nd rfl (by first | exact .inl rfl | exact .inr rfl) (pe_op op_add (pv 2) (pe_call C_law_draw.ok (hr.mono (by decide)) (by rfl) C_law_draw.at_ C_law_draw.kp C_law_draw.b .nil pass0 (pa_cons (pv 0) (pa_cons pe_int pa_nil)))))
      (pss_cons (ps_set (i := 1) sc_law_text.nd rfl (by first | exact .inl rfl | exact .inr rfl) (pe_op op_addS (pe_op op_addS (pv 1) (castM1 (K := K) (pe_join pe_str (pe_lst (pa_cons pe_str (pa_cons (pe_callTy cr_strOf (by rfl) T.m_str (by decide +kernel) (pa_cons (pv 2) pa_nil)) (pa_cons (pe_callTy cr_strOf (by rfl) T.m_str (by decide +kernel) (pa_cons (pe_op op_add (pe_op op_mul pe_int (pv 3)) (pe_call C_law_draw.ok (hr.mono (by decide)) (by rfl) C_law_draw.at_ C_law_draw.kp C_law_draw.b .nil pass0 (pa_cons (pv 0) (pa_cons pe_int pa_nil)))) pa_nil)) pa_nil))))))) pe_str))
      (pss_one (ps_for PassesOwn.never rfl (pi_range1 (by rfl) T.m_range (pa_cons (pe_call C_law_draw.ok (hr.mono (by decide)) (by rfl) C_law_draw.at_ C_law_draw.kp C_law_draw.b .nil pass0 (pa_cons (pv 0) (pa_cons pe_int pa_nil))) pa_nil)) (pg_name (i := 4) sc_law_text.nd rfl (by first | exact .inl rfl | exact .inr rfl)) (pss_one (ps_set (i := 1) sc_law_text.nd rfl (by first | exact .inl rfl | exact .inr rfl) (pe_op op_addS (pe_op op_addS (pv 1) (castM1 (K := K) (pe_join pe_str (pe_lc rfl sc_law_text.nd (pi_range1 (by rfl) T.m_range (pa_cons (pe_op op_add pe_int (pe_call C_law_draw.ok (hr.mono (by decide)) (by rfl) C_law_draw.at_ C_law_draw.kp C_law_draw.b .nil pass0 (pa_cons (pv 0) (pa_cons pe_int pa_nil)))) pa_nil)) (blkOk_by (own := [("at", 5)]) (N := ["state", "made", "first", "k", "line", "at"]) (sc := (defScope s_law_text)) (by decide +kernel)) (fun _ _ _ _ _ => (pg_name (i := 5) sc_law_text.nd rfl (by first | exact .inl rfl | exact .inr rfl))) (fun _ _ _ _ _ => pts_nil) (fun _ _ _ _ _ => (pe_callTy cr_strOf (by rfl) T.m_str (by decide +kernel) (pa_cons (pe_call C_law_draw.ok (hr.mono (by decide)) (by rfl) C_law_draw.at_ C_law_draw.kp C_law_draw.b .nil pass0 (pa_cons (pv 0) (pa_cons pe_int pa_nil))) pa_nil))))))) pe_str))))))))
      (pss_one (ps_ret (pv 1))))), ?_⟩
    walk_at "st"
    intro p0 hp0
    have K0 : Kp [s, c] H (upd H p0 (.tup [.str (Str.ofString ""), .int 0])) := Kp.new hp0
    have st0 := st0.new hp0 (x := .tup [.str (Str.ofString ""), .int 0])
    have e0 : upd H p0 (.tup [.str (Str.ofString ""), .int 0]) p0 = some (.tup [.str (Str.ofString ""), .int 0]) := upd_same
    generalize upd H p0 (.tup [.str (Str.ofString ""), .int 0]) = H0 at *
    walk_at "st"
    refine ⟨s, c, 5, rfl, st0, by omega, fun d H1 k1 st1 hd => ?_⟩
    walk_at "st"
    refine lp_by (walk_range (lo := 0) (n := d.toNat)) (fun i σ' H' => ∃ (z : Str) (f : Int) (x3 x4 x5 : Option V), σ' = [some (.ref s), some (.str z), some (.int f), x3, x4, x5] ∧ Kp [s, c] H H' ∧ St s c H' ∧ LeS (125 * i) z ∧ 0 ≤ f ∧ f ≤ 2 * i)
      ⟨_, _, _, _, _, rfl, K0.trans k1, st1, .mk (by decide), by omega, by omega⟩ (fun _ _ _ _ _ => trivial) (fun i x σ' H2 H2' hi z y => ?_) (fun σ' H2 z => ?_)
    · obtain ⟨z, f, x3, x4, x5, rfl, K2, st2, lz, f0, f1⟩ := z
      obtain ⟨rfl, rfl⟩ := y
      walk_at "st"
      refine ⟨s, c, 3, rfl, st2, by omega, fun d1 H3 k3 st3 hd1 => ?_⟩
      walk_at "st"
      refine ⟨s, c, 10, rfl, st3, by omega, fun d2 H4 k4 st4 hd2 => ?_⟩
      have K4 := (K2.trans k3).trans k4
      clear k3 k4 st2 st3
      walk_at "st"
      intro l hl
      have n1 : (numC (f + d1)).length ≤ 7 := numC_le (by omega)
      have n2 : (numC (10 * (0 + (i : Int)) + d2)).length ≤ 7 := numC_le (by omega)
      walk_at "st"
      refine r_joinW (c := 32) (ys := [Str.ofString "pair", Sx (numC (f + d1)), Sx (numC (10 * (0 + (i : Int)) + d2))]) (n := 21) (SqL.of upd_same) ?_ (by decide) fun y ly => ?_
      · have z1 : (Sx (numC (f + d1))).length ≤ 7 := by rw [Sx_len]; exact n1
        have z2 : (Sx (numC (10 * (0 + (i : Int)) + d2))).length ≤ 7 := by rw [Sx_len]; exact n2
        show (4 + 1) + ((Sx (numC (f + d1))).length + 1 + ((Sx (numC (10 * (0 + (i : Int)) + d2))).length + 1 + 0)) ≤ 21
        omega
      refine r_addN lz ly (by omega) fun u lu => ?_
      walk_at "st"
      refine r_addN (m := 1) lu (.mk (by decide)) (by omega) fun v lv => ?_
      walk_at "st"
      refine ⟨s, c, 4, rfl, st4.new hl, by omega, fun d3 H5 k5 st5 hd3 => ?_⟩
      have K5 := (K4.trans (Kp.new hl)).trans k5
      clear K4 k5 st4 hl K2
      walk_at "st"
      refine lp_by (walk_range (lo := 0) (n := d3.toNat)) (fun j σ' H' => ∃ (z : Str) (x4 x5 : Option V), σ' = [some (.ref s), some (.str z), some (.int (f + d1)), some (.int (0 + (i : Int))), x4, x5] ∧ Kp [s, c] H H' ∧ St s c H' ∧ LeS (125 * i + 22 + 33 * j) z)
        ⟨_, _, _, rfl, K5, st5, lv.mono (by omega)⟩ (fun _ _ _ _ _ => trivial) (fun j x σ' H6 H6' hj z y => ?_) (fun σ' H6 z => ?_)
      · obtain ⟨z2, y4, y5, rfl, K6, st6, lz2⟩ := z
        obtain ⟨rfl, rfl⟩ := y
        walk_at "st"
        refine ⟨s, c, 4, rfl, st6, by omega, fun d4 H7 k7 st7 hd4 => ?_⟩
        have K7 := K6.trans k7
        walk_at "st"
        intro D hD
        have oD := st7.out hD
        refine lc_by (walk_range (lo := 0) (n := (1 + d4).toNat)) (fun q H' => Kp [s, c] H H' ∧ St s c H' ∧ ∃ zs : List Str, H' D = some (.lst (zs.map V.str)) ∧ zs.length = q ∧ wtS zs ≤ 8 * q)
          ⟨K7.trans (Kp.new hD), st7.new hD, [], upd_same, rfl, by decide⟩ (fun _ _ _ _ => trivial) (fun q x H8 H8' hq z y => ?_) (fun H8 z => ?_)
        · obtain ⟨K8, st8, zs, eD, lq, lw⟩ := z
          obtain ⟨rfl, rfl⟩ := y
          refine ⟨rfl, ?_⟩
          walk_at "st"
          refine ⟨s, c, 997, rfl, st8, by omega, fun d5 H9 k9 st9 hd5 => ?_⟩
          have n3 : (numC d5).length ≤ 7 := numC_le (by omega)
          walk_at "st"
          have eD9 := k9 _ _ eD oD
          refine ⟨zs.map V.str, eD9, by rw [List.length_map]; omega, (K8.trans k9).own ?_, st9.set oD, zs ++ [Sx (numC d5)], by rw [upd_same, List.map_append]; rfl, by rw [List.length_append, lq]; rfl, ?_⟩
          · exact K7.free hD oD
          · rw [wtS_app, wtS_cons, Sx_len]
            show _ + (_ + 1 + 0) ≤ _
            omega
        · obtain ⟨K8, st8, zs, eD, lq, lw⟩ := z
          walk_at "st"
          refine r_joinW (c := 32) (ys := zs) (n := 32) (SqL.of eD) (by omega) (by decide) fun y ly => ?_
          refine r_addN lz2 ly (by omega) fun u2 lu2 => ?_
          walk_at "st"
          refine r_addN (m := 1) lu2 (.mk (by decide)) (by omega) fun v2 lv2 => ?_
          walk_at "st"
          exact ⟨_, _, _, rfl, K8, st8, lv2.mono (by omega)⟩
      · obtain ⟨z2, y4, y5, rfl, K6, st6, lz2⟩ := z
        exact ⟨_, _, _, _, _, rfl, K6, st6, lz2.mono (by omega), by omega, by omega⟩
    · obtain ⟨z, f, x3, x4, x5, rfl, K2, st2, lz, f0, f1⟩ := z
      walk_at "st"
      exact q _ _ K2 st2 (lz.mono (by omega))
end
local macro_rules | `(tactic| walk_at "ssz") => `(tactic| first | decide | exact str_small (by assumption) | (have : (1000000 : Nat) ≤ sizeLine := (by decide); omega))
local macro_rules | `(tactic| walk_at "st1") => `(tactic| first
  | with_reducible refine' r_nt ?_ | with_reducible refine' r_nf ?_
  | ((with_reducible refine r_lenS ?e1 ?_); (case e1 => walk_at "ssz"))
  | with_reducible refine r_inS ?_
  | with_reducible refine r_ninS ?_
  | ((with_reducible refine r_addS ?e1 ?_); (case e1 => walk_at "ssz"))
  | ((with_reducible refine' r_ixS ?e1 ?e2 ?_); (case e1 => walk_at "ssz"); (case e2 => first | assumption | rfl))
  | with_reducible refine r_istr ?_
  | with_reducible refine r_is ?_
  | with_reducible refine r_un ?_
  | with_reducible refine r_u ?_)
local macro_rules | `(tactic| walk_at "st1") => `(tactic| first
  | with_reducible refine r_tru ?_
  | ((with_reducible refine' r_truT ?e1 ?_); (case e1 => walk_at "sq"))
  | with_reducible refine r_isN ?_
  | with_reducible refine r_tyS ?_
  | with_reducible refine r_m1 ?_
  | with_reducible refine r_sx ?_
  | ((with_reducible refine r_strC ?e1 ?_); (case e1 => omega)))
local macro_rules | `(tactic| walk_at "st1") => `(tactic| first
  | with_reducible refine r_par ?_
  | with_reducible refine r_parx ?_
  | ((with_reducible refine' r_gtup ?e1 ?e2 ?_); (case e1 => walk_at "sq"); (case e2 => rfl))
  | with_reducible refine r_gcons ?_
  | with_reducible refine r_gnil ?_
  | with_reducible refine r_ient ?_
  | ((with_reducible refine' r_ent ?e1 ?_); (case e1 => walk_at "sq")))
local macro_rules | `(tactic| walk_at "st1") => `(tactic| first
  | with_reducible refine' r_nt ?_
  | with_reducible refine' r_nf ?_
  | with_reducible refine r_un ?_
  | with_reducible refine r_u ?_)
/-! ### a text with one thing otherwise: how long it is -/
theorem wtS_cut (zs : List Str) (n : Nat) : wtS zs = wtS (zs.take n) + wtS (zs.drop n) := by rw [← wtS_app, List.take_append_drop]
theorem wtS_dropS : ∀ (zs : List Str) (n : Nat), wtS (zs.drop (n + 1)) ≤ wtS (zs.drop n)
  | [], n => by simp
  | z :: zs, 0 => by rw [List.drop_succ_cons, List.drop_zero, List.drop_zero, wtS_cons]; omega
  | z :: zs, n + 1 => by rw [List.drop_succ_cons, List.drop_succ_cons]; exact wtS_dropS zs n
theorem cut_drop (xs : List V) (m : Nat) : cutV xs (some (m : Int)) none = xs.drop m := by
  unfold cutV
  have e1 : HT.sIx xs.length 0 (some (m : Int)) = min m xs.length := by
    simp [HT.sIx]; omega
  have e2 : HT.sIx xs.length xs.length none = xs.length := rfl
  rw [e1, e2]
  by_cases h : m ≤ xs.length
  · rw [Nat.min_eq_left h, List.take_of_length_le (by rw [List.length_drop]; omega)]
  · rw [Nat.min_eq_right (by omega), List.drop_of_length_le (show xs.length ≤ xs.length from Nat.le_refl _), List.drop_of_length_le (by omega)]; simp
theorem cut_take (xs : List V) (m : Nat) : cutV xs none (some (m : Int)) = xs.take m := by
  unfold cutV
  have e1 : HT.sIx xs.length 0 none = 0 := rfl
  have e2 : HT.sIx xs.length xs.length (some (m : Int)) = min m xs.length := by
    simp [HT.sIx]; omega
  rw [e1, e2, List.drop_zero, Nat.sub_zero]
  by_cases h : m ≤ xs.length
  · rw [Nat.min_eq_left h]
  · rw [Nat.min_eq_right (by omega), List.take_of_length_le (Nat.le_refl _), List.take_of_length_le (by omega)]
theorem cut_some (zs : List Str) (lo hi : Option Int) : ∃ ys : List Str, cutV (zs.map V.str) lo hi = ys.map V.str ∧ wtS ys ≤ wtS zs := by
  unfold cutV
  generalize HT.sIx (zs.map V.str).length 0 lo = m
  generalize HT.sIx (zs.map V.str).length (zs.map V.str).length hi - m = n
  refine ⟨(zs.drop m).take n, by rw [← List.map_drop, ← List.map_take], ?_⟩
  have h1 := wtS_cut zs m
  have h2 := wtS_cut (zs.drop m) n
  omega
theorem r_slN {z : Str} {lo hi : Option Int} {H : Hp} {Q : VK} {n : Nat} (h : LeS n z) (hn : n ≤ 1000000) (q : ∀ y : Str, LeS n y → Q (.str y) H) : rSlS (.str z) lo hi H Q :=
  ⟨z, rfl, Nat.le_trans h (Nat.le_trans hn (by decide)), q _ (Nat.le_trans (cutS_length z lo hi) h)⟩
theorem r_catW {a b : Addr} {zs ys : List Str} {H : Hp} {Q : VK} (h : H a = some (.lst (zs.map V.str))) (h2 : H b = some (.lst (ys.map V.str))) (z : wtS zs + wtS ys ≤ 1000000) (q : ∀ p, H p = none → Q (.ref p) (upd H p (.lst ((zs ++ ys).map V.str)))) : rCat (.ref a) (.ref b) H Q :=
  ⟨a, b, _, _, rfl, rfl, h, h2, by rw [List.length_map, List.length_map]; have h1 := wtS_len zs; have h3 := wtS_len ys; have : (1000000 : Nat) ≤ sizeLine := by decide
                                   omega, by rw [← List.map_append]; exact q⟩
def sp_law_bent (_ : PySem.W.Frag) : Sp := fun vs H Q _ => ∃ (s c : Addr) (a : Str), vs = [.ref s, .str a] ∧ St s c H ∧ a.length ≤ 2000 ∧ ∀ (z : Str) H', Kp [s, c] H H' → St s c H' → LeS (2 * a.length + 20) z → Q (.str z) H'
section
variable {P : Program} {w : World} {K : PySem.W.Frag} {mg : Str → Option Value} {base : Heap}
set_option maxHeartbeats 0 in
theorem ok_law_bent {c_PaperReader : Addr} {c_TraceError : Addr} {c_NoText : Addr} {c_NoFlow : Addr} {c_NoUnit : Addr} (T : Tx K mg c_PaperReader c_TraceError c_NoText c_NoFlow c_NoUnit) {f_law_draw : Addr} {fd_law_draw : FuncData} (C_law_draw : Cal P w K mg base "_law_draw" 1 ["state", "many"] (sp_law_draw K) s_law_draw f_law_draw fd_law_draw) {f : Addr} {fd : FuncData} (F : Here K mg "_law_bent" s_law_bent ["state", "written"] f fd) : Cal P w K mg base "_law_bent" 2 ["state", "written"] (sp_law_bent K) s_law_bent f fd := by
  refine F.cal sc_law_bent (fun vs H Q E h => ?_) (fun cdv A outer s' H vs Q E hr h => ?_)
  · obtain ⟨s, c, a, rfl, _⟩ := h
    rfl
  · obtain ⟨s, c, a, rfl, st0, la, q⟩ := h
    have sl : (1000000 : Nat) ≤ sizeLine := by decide
    have ha : LeS a.length a := Nat.le_refl _
    refine ⟨_, (pss_cons (ps_par (i := 2) (j := 3) rfl sc_law_bent.nd rfl rfl (by decide) rfl rfl (pa_cons (pe_call C_law_draw.ok (hr.mono (by decide)) (by rfl) C_law_draw.at_ C_law_draw.kp C_law_draw.b .nil pass0 (pa_cons (pv 0) (pa_cons pe_int pa_nil))) (pa_cons (pe_call C_law_draw.ok (hr.mono (by decide)) (by rfl) C_law_draw.at_ C_law_draw.kp C_law_draw.b .nil pass0 (pa_cons (pv 0) (pa_cons (pe_op op_add (pe_callB cr_lenS (by rfl) T.m_len (by decide +kernel) (pa_cons (pv 1) pa_nil)) pe_int) pa_nil))) pa_nil)) (by rfl))
      (pss_cons (ps_set (i := 4) sc_law_bent.nd rfl (by first | exact .inl rfl | exact .inr rfl) pe_str)
      (pss_cons (ps_set (i := 5) sc_law_bent.nd rfl (by first | exact .inl rfl | exact .inr rfl) (pe_ix ix_str (pv 4) (pe_call C_law_draw.ok (hr.mono (by decide)) (by rfl) C_law_draw.at_ C_law_draw.kp C_law_draw.b .nil pass0 (pa_cons (pv 0) (pa_cons (pe_callB cr_lenS (by rfl) T.m_len (by decide +kernel) (pa_cons (pv 4) pa_nil)) pa_nil))) (fun _ _ => rfl)))
      (pss_cons (ps_set (i := 6) sc_law_bent.nd rfl (by first | exact .inl rfl | exact .inr rfl) (castBM (K := K) (pe_bm PySem.F.plainAttrs_str PySem.F.slot_str_split PySem.F.type_str_split mt_splK (pv 1) (pa_cons pe_str pa_nil))))
      (pss_cons (ps_par (i := 7) (j := 8) rfl sc_law_bent.nd rfl rfl (by decide) rfl rfl (pa_cons (pe_call C_law_draw.ok (hr.mono (by decide)) (by rfl) C_law_draw.at_ C_law_draw.kp C_law_draw.b .nil pass0 (pa_cons (pv 0) (pa_cons (pe_callB (cr_lenK (K := K)) (by rfl) T.m_len (by decide +kernel) (pa_cons (pv 6) pa_nil)) pa_nil))) (pa_cons (pe_call C_law_draw.ok (hr.mono (by decide)) (by rfl) C_law_draw.at_ C_law_draw.kp C_law_draw.b .nil pass0 (pa_cons (pv 0) (pa_cons (pe_callB (cr_lenK (K := K)) (by rfl) T.m_len (by decide +kernel) (pa_cons (pv 6) pa_nil)) pa_nil))) pa_nil)) (by rfl))
      (pss_cons (ps_par (i := 9) (j := 10) rfl sc_law_bent.nd rfl rfl (by decide) rfl rfl (pa_cons (pe_slice sl_str (pv 1) po_none (po_some (pv 3))) (pa_cons (pe_slice sl_str (pv 1) (po_some (pv 3)) po_none) pa_nil)) (by rfl))
      (pss_cons (ps_if (pt_cmpR op_lt (pv 2) pe_int (nomark _)) (pss_one (ps_ret (pe_ix (ix_listK (K := K)) (pe_lst (pa_cons (pe_op op_addS (pe_op op_addS (pv 9) (pv 5)) (pv 10)) (pa_cons (pe_op op_addS (pe_op op_addS (pv 9) (pv 5)) (pe_slice sl_str (pv 10) (po_some pe_int) po_none)) (pa_cons (pe_op op_addS (pv 9) (pe_slice sl_str (pv 10) (po_some pe_int) po_none)) (pa_cons (pe_op op_addS (pe_op op_addS (pv 9) pe_str) (pv 10)) pa_nil))))) (pv 2) (fun _ _ => rfl)))) pss_nil)
      (pss_cons (ps_if (pt_cmpR op_eq (pv 2) pe_int (nomark _)) (pss_one (ps_ret (castM1 (K := K) (pe_join pe_str (pe_op op_cat (pe_slice (sl_listK (K := K)) (pv 6) po_none (po_some (pe_op op_add (pv 7) pe_int))) (pe_slice (sl_listK (K := K)) (pv 6) (po_some (pv 7)) po_none)))))) pss_nil)
      (pss_cons (ps_if (pt_cmpR op_eq (pv 2) pe_int (nomark _)) (pss_one (ps_ret (castM1 (K := K) (pe_join pe_str (pe_op op_cat (pe_slice (sl_listK (K := K)) (pv 6) po_none (po_some (pv 7))) (pe_slice (sl_listK (K := K)) (pv 6) (po_some (pe_op op_add (pv 7) pe_int)) po_none)))))) pss_nil)
      (pss_cons (ps_if (pt_cmpR op_eq (pv 2) pe_int (nomark _)) (pss_cons (ps_set (i := 11) sc_law_bent.nd rfl (by first | exact .inl rfl | exact .inr rfl) (pe_op op_cat (pe_slice (sl_listK (K := K)) (pv 6) po_none (po_some (pv 7))) (pe_slice (sl_listK (K := K)) (pv 6) (po_some (pe_op op_add (pv 7) pe_int)) po_none)))
      (pss_one (ps_ret (castM1 (K := K) (pe_join pe_str (pe_op op_cat (pe_op op_cat (pe_slice (sl_listK (K := K)) (pv 11) po_none (po_some (pv 8))) (pe_slice (sl_listK (K := K)) (pv 6) (po_some (pv 7)) (po_some (pe_op op_add (pv 7) pe_int)))) (pe_slice (sl_listK (K := K)) (pv 11) (po_some (pv 8)) po_none))))))) pss_nil)
      (pss_cons (ps_set (i := 12) sc_law_bent.nd rfl (by first | exact .inl rfl | exact .inr rfl) (pe_lst (pa_cons pe_str (pa_cons pe_str (pa_cons pe_str (pa_cons pe_str (pa_cons pe_str (pa_cons pe_str (pa_cons pe_str (pa_cons pe_str (pa_cons pe_str (pa_cons pe_str (pa_cons pe_str pa_nil)))))))))))))
      (pss_cons (ps_if (pt_cmpR op_eq (pv 2) pe_int (nomark _)) (pss_one (ps_ret (castM1 (K := K) (pe_join pe_str (pe_op op_cat (pe_op op_cat (pe_slice (sl_listK (K := K)) (pv 6) po_none (po_some (pv 7))) (pe_lst (pa_cons (pe_ix (ix_listK (K := K)) (pv 12) (pe_call C_law_draw.ok (hr.mono (by decide)) (by rfl) C_law_draw.at_ C_law_draw.kp C_law_draw.b .nil pass0 (pa_cons (pv 0) (pa_cons pe_int pa_nil))) (fun _ _ => rfl)) pa_nil))) (pe_slice (sl_listK (K := K)) (pv 6) (po_some (pv 7)) po_none)))))) pss_nil)
      (pss_one (ps_ret (pe_slice sl_str (pv 1) po_none (po_some (pe_un un_neg pe_int))))))))))))))))), ?_⟩
    walk_at "st"
    refine ⟨s, c, 9, rfl, st0, by omega, fun way H1 k1 st1 hw => ?_⟩
    walk_at "st"
    refine ⟨s, c, _, rfl, st1, by omega, fun at0 H2 k2 st2 hat => ?_⟩
    walk_at "st"
    refine ⟨s, c, _, rfl, st2, by decide, fun d3 H3 k3 st3 hd3 => ?_⟩
    obtain ⟨c3, ec3, mc3⟩ := atI_in (xs := (Str.ofString "0123456789 pair\n-+_.").cps.toList) hd3.1 hd3.2
    have K3 : Kp [s, c] H H3 := (k1.trans k2).trans k3
    clear k1 k2 k3 st1 st2
    walk_at "st"
    have es : Txt.split a (Str.ofString "\n") = (TL.spl [10] 0 [] (cs a)).map Sx := by
      have e := SX.split_S (a := cs a) (b := [10]) (by simp) (by decide)
      rw [show SX.S (cs a) = a from Sx_cs a] at e
      exact e
    have wt := PyProof.Rows.split_weight a (Str.ofString "\n") (by decide)
    have p1 := PyProof.Rows.split_pos a (Str.ofString "\n")
    refine ⟨_, _, rfl, rfl, rfl, by omega, fun l hl => ?_⟩
    generalize Txt.split a (Str.ofString "\n") = zs at *
    have wz : wtS zs ≤ a.length + 1 := by
      rw [wtS_eq zs]; exact wt
    have lz2 := wtS_len zs
    have ol := st3.out hl
    have el : upd H3 l (.lst (zs.map V.str)) l = some (.lst (zs.map V.str)) := upd_same
    have st4 := st3.new hl (x := .lst (zs.map V.str))
    have K4 : Kp [s, c] H (upd H3 l (.lst (zs.map V.str))) := K3.trans (Kp.new hl)
    clear K3 st3
    generalize upd H3 l (.lst (zs.map V.str)) = H4 at *
    walk_at "st"
    rw [List.length_map]
    refine ⟨s, c, _, rfl, st4, by omega, fun one H5 k5 st5 h1 => ?_⟩
    replace el := k5 _ _ el ol
    walk_at "st"
    rw [List.length_map]
    refine ⟨s, c, _, rfl, st5, by omega, fun other H6 k6 st6 h2 => ?_⟩
    replace el := k6 _ _ el ol
    have K6 : Kp [s, c] H H6 := (K4.trans k5).trans k6
    clear k5 k6 st4 st5 K4
    obtain ⟨i1, rfl⟩ : ∃ n : Nat, one = n := ⟨one.toNat, by omega⟩
    obtain ⟨i2, rfl⟩ : ∃ n : Nat, other = n := ⟨other.toNat, by omega⟩
    walk_at "st"
    refine r_slN ha (by omega) fun y1 l1 => ?_
    walk_at "st"
    refine r_slN ha (by omega) fun y2 l2 => ?_
    walk_at "st"
    walk_at "if"
    refine r_ite (fun hw3 => ?_) (fun hw3 => ?_)
    · walk_at "st"
      refine r_addN (m := 1) l1 (Nat.le_refl _) (by omega) fun u1 b1 => ?_
      walk_at "st"
      refine r_addN b1 l2 (by omega) fun u2 b2 => ?_
      walk_at "st"
      refine r_addN (m := 1) l1 (Nat.le_refl _) (by omega) fun u3 b3 => ?_
      walk_at "st"
      refine r_slN l2 (by omega) fun u4 b4 => ?_
      walk_at "st"
      refine r_addN b3 b4 (by omega) fun u5 b5 => ?_
      walk_at "st"
      refine r_slN l2 (by omega) fun u6 b6 => ?_
      walk_at "st"
      refine r_addN l1 b6 (by omega) fun u7 b7 => ?_
      walk_at "st"
      refine r_addN (m := 1) l1 (.mk (by decide)) (by omega) fun u8 b8 => ?_
      walk_at "st"
      refine r_addN b8 l2 (by omega) fun u9 b9 => ?_
      walk_at "st"
      intro p hp
      obtain ⟨v, ev, mv⟩ := atI_in (xs := [V.str u2, V.str u5, V.str u7, V.str u9]) hw.1 (by show way < 4; omega)
      obtain ⟨y, rfl, ly⟩ : ∃ y : Str, v = .str y ∧ LeS (2 * a.length + 20) y := by
        simp at mv
        rcases mv with h | h | h | h
        · exact ⟨_, h, b2.mono (by omega)⟩
        · exact ⟨_, h, b5.mono (by omega)⟩
        · exact ⟨_, h, b7.mono (by omega)⟩
        · exact ⟨_, h, b9.mono (by omega)⟩
      walk_at "st"
      exact q _ _ (K6.trans (Kp.new hp)) (st6.new hp) ly
    · walk_at "st"
      walk_at "if"
      have ev : ∀ k : Int, decide (V.int way = V.int k) = decide (way = k) := fun k => decide_eq_decide.mpr ⟨fun h => by injection h, fun h => by rw [h]⟩
      have lmz : (zs.map V.str).length ≤ 3000 := by rw [List.length_map]; omega
      rw [ev]
      refine r_ite (fun h => ?_) (fun h => ?_)
      · walk_at "st"
        intro p1 hp1
        rw [show (i1 : Int) + 1 = ((i1 + 1 : Nat) : Int) by omega, cut_take, ← List.map_take]
        have el1 := hl_new (u := .lst ((zs.take (i1 + 1)).map V.str)) el hp1
        walk_at "st"
        intro p2 hp2
        rw [cut_drop, ← List.map_drop]
        have w1 := wtS_cut zs (i1 + 1)
        have w2 := wtS_cut zs i1
        refine r_catW (hl_new upd_same hp2) upd_same (by omega) fun p3 hp3 => ?_
        walk_at "st"
        refine r_joinW (c := 10) (n := 2 * a.length + 20) (SqL.of upd_same) (by rw [wtS_app]; omega) (by omega) fun y ly => ?_
        walk_at "st"
        exact q _ _ (((K6.trans (Kp.new hp1)).trans (Kp.new hp2)).trans (Kp.new hp3)) (((st6.new hp1).new hp2).new hp3) ly
      · walk_at "st"
        walk_at "if"
        rw [ev]
        refine r_ite (fun h => ?_) (fun h => ?_)
        · walk_at "st"
          intro p1 hp1
          rw [cut_take, ← List.map_take]
          have el1 := hl_new (u := .lst ((zs.take i1).map V.str)) el hp1
          walk_at "st"
          intro p2 hp2
          rw [show (i1 : Int) + 1 = ((i1 + 1 : Nat) : Int) by omega, cut_drop, ← List.map_drop]
          have w1 := wtS_cut zs i1
          have w2 := wtS_dropS zs i1
          refine r_catW (hl_new upd_same hp2) upd_same (by omega) fun p3 hp3 => ?_
          walk_at "st"
          refine r_joinW (c := 10) (n := 2 * a.length + 20) (SqL.of upd_same) (by rw [wtS_app]; omega) (by omega) fun y ly => ?_
          walk_at "st"
          exact q _ _ (((K6.trans (Kp.new hp1)).trans (Kp.new hp2)).trans (Kp.new hp3)) (((st6.new hp1).new hp2).new hp3) ly
        · walk_at "st"
          walk_at "if"
          rw [ev]
          refine r_ite (fun h => ?_) (fun h => ?_)
          · walk_at "st"
            intro p1 hp1
            rw [cut_take, ← List.map_take]
            have el1 := hl_new (u := .lst ((zs.take i1).map V.str)) el hp1
            have K7 := K6.trans (Kp.new (x := .lst ((zs.take i1).map V.str)) hp1)
            have st7 := st6.new (x := .lst ((zs.take i1).map V.str)) hp1
            have ep1 : upd H6 p1 (.lst ((zs.take i1).map V.str)) p1 = some (.lst ((zs.take i1).map V.str)) := upd_same
            clear K6 st6 el
            generalize upd H6 p1 (.lst ((zs.take i1).map V.str)) = H7 at *
            walk_at "st"
            intro p2 hp2
            rw [show (i1 : Int) + 1 = ((i1 + 1 : Nat) : Int) by omega, cut_drop, ← List.map_drop]
            have w1 := wtS_cut zs i1
            have w2 := wtS_dropS zs i1
            refine r_catW (hl_new ep1 hp2) upd_same (by omega) fun p3 hp3 => ?_
            have K8 := (K7.trans (Kp.new (x := .lst ((zs.drop (i1 + 1)).map V.str)) hp2)).trans (Kp.new (x := .lst ((zs.take i1 ++ zs.drop (i1 + 1)).map V.str)) hp3)
            have st8 := (st7.new (x := .lst ((zs.drop (i1 + 1)).map V.str)) hp2).new (x := .lst ((zs.take i1 ++ zs.drop (i1 + 1)).map V.str)) hp3
            have el8 := hl_new (u := .lst ((zs.take i1 ++ zs.drop (i1 + 1)).map V.str)) (hl_new (u := .lst ((zs.drop (i1 + 1)).map V.str)) el1 hp2) hp3
            have e3 : upd (upd H7 p2 (.lst ((zs.drop (i1 + 1)).map V.str))) p3 (.lst ((zs.take i1 ++ zs.drop (i1 + 1)).map V.str)) p3 = some (.lst ((zs.take i1 ++ zs.drop (i1 + 1)).map V.str)) := upd_same
            clear K7 st7 el1 ep1
            generalize upd (upd H7 p2 (.lst ((zs.drop (i1 + 1)).map V.str))) p3 (.lst ((zs.take i1 ++ zs.drop (i1 + 1)).map V.str)) = H8 at *
            have wL : wtS (zs.take i1 ++ zs.drop (i1 + 1)) ≤ wtS zs := by rw [wtS_app]; omega
            generalize zs.take i1 ++ zs.drop (i1 + 1) = L at *
            have w3 := wtS_cut L i2
            walk_at "st"
            intro p4 hp4
            rw [cut_take, ← List.map_take]
            have el9 := hl_new (u := .lst ((L.take i2).map V.str)) el8 hp4
            have e39 := hl_new (u := .lst ((L.take i2).map V.str)) e3 hp4
            walk_at "st"
            intro p5 hp5
            obtain ⟨ys, ey, wy⟩ := cut_some zs (some (i1 : Int)) (some ((i1 : Int) + 1))
            rw [ey]
            refine r_catW (hl_new upd_same hp5) upd_same (by omega) fun p6 hp6 => ?_
            have e3a := hl_new (u := .lst ((L.take i2 ++ ys).map V.str)) (hl_new (u := .lst (ys.map V.str)) e39 hp5) hp6
            walk_at "st"
            intro p7 hp7
            rw [cut_drop, ← List.map_drop]
            refine r_catW (hl_new upd_same hp7) upd_same (by rw [wtS_app]; omega) fun p8 hp8 => ?_
            walk_at "st"
            refine r_joinW (c := 10) (n := 2 * a.length + 20) (SqL.of upd_same) (by rw [wtS_app, wtS_app]; omega) (by omega) fun y ly => ?_
            walk_at "st"
            exact q _ _ (((((K8.trans (Kp.new hp4)).trans (Kp.new hp5)).trans (Kp.new hp6)).trans (Kp.new hp7)).trans (Kp.new hp8)) (((((st8.new hp4).new hp5).new hp6).new hp7).new hp8) ly
          · walk_at "st"
            intro pm hpm
            have om := st6.out hpm
            generalize hmo : ([.str (Str.ofString "pair 1"), .str (Str.ofString "pair 1 2 3"), .str (Str.ofString "pair 0 0"), .str (Str.ofString "99999"), .str (Str.ofString "100000"), .str (Str.ofString "00"), .str (Str.ofString ""), .str (Str.ofString " "), .str (Str.ofString "pair 2 100000"), .str (Str.ofString "pairs 1 2"), .str (Str.ofString "1  2")] : List V) = mo at *
            have em : upd H6 pm (.lst mo) pm = some (.lst mo) := upd_same
            have el7 := hl_new (u := .lst mo) el hpm
            have K7 := K6.trans (Kp.new (x := .lst mo) hpm)
            have st7 := st6.new (x := .lst mo) hpm
            clear K6 st6 el
            generalize upd H6 pm (.lst mo) = H7 at *
            walk_at "st"
            walk_at "if"
            rw [ev]
            refine r_ite (fun h => ?_) (fun h => ?_)
            · walk_at "st"
              intro p1 hp1
              have o1 := st7.out hp1
              rw [cut_take, ← List.map_take]
              have el8 := hl_new (u := .lst ((zs.take i1).map V.str)) el7 hp1
              have em8 := hl_new (u := .lst ((zs.take i1).map V.str)) em hp1
              walk_at "st"
              refine ⟨s, c, 11, rfl, st7.new hp1, by omega, fun d8 H8 k8 st8 hd8 => ?_⟩
              have e18 := k8 _ _ upd_same o1
              replace el8 := k8 _ _ el8 ol
              replace em8 := k8 _ _ em8 om
              obtain ⟨v, ev2, mv⟩ := atI_in (xs := mo) hd8.1 (by rw [← hmo]; exact hd8.2)
              obtain ⟨y, rfl, ly⟩ : ∃ y : Str, v = .str y ∧ y.length ≤ 13 := by
                rw [← hmo] at mv
                simp at mv
                rcases mv with h | h | h | h | h | h | h | h | h | h | h
                all_goals exact ⟨_, h, by decide⟩
              walk_at "st"
              intro p2 hp2
              have w1 := wtS_cut zs i1
              have wy : wtS [y] = y.length + 1 := rfl
              refine r_catW (ys := [y]) (hl_new e18 hp2) upd_same (by omega) fun p3 hp3 => ?_
              have el9 := hl_new (u := .lst ((zs.take i1 ++ [y]).map V.str)) (hl_new (u := .lst [V.str y]) el8 hp2) hp3
              walk_at "st"
              intro p4 hp4
              rw [cut_drop, ← List.map_drop]
              refine r_catW (hl_new upd_same hp4) upd_same (by rw [wtS_app]; omega) fun p5 hp5 => ?_
              walk_at "st"
              refine r_joinW (c := 10) (n := 2 * a.length + 20) (SqL.of upd_same) (by rw [wtS_app, wtS_app]; omega) (by omega) fun y ly => ?_
              walk_at "st"
              exact q _ _ (((((((K7.trans (Kp.new hp1)).trans k8).trans (Kp.new hp2)).trans (Kp.new hp3)).trans (Kp.new hp4)).trans (Kp.new hp5))) ((((st8.new hp2).new hp3).new hp4).new hp5) ly
            · walk_at "st"
              refine r_slN ha (by omega) fun y ly => ?_
              walk_at "st"
              exact q _ _ K7 st7 (ly.mono (by omega))
end
local macro_rules | `(tactic| walk_at "ssz") => `(tactic| first | decide | exact str_small (by assumption) | (have : (1000000 : Nat) ≤ sizeLine := (by decide); omega))
local macro_rules | `(tactic| walk_at "st1") => `(tactic| first
  | with_reducible refine' r_nt ?_ | with_reducible refine' r_nf ?_
  | ((with_reducible refine r_lenS ?e1 ?_); (case e1 => walk_at "ssz"))
  | with_reducible refine r_inS ?_
  | with_reducible refine r_ninS ?_
  | ((with_reducible refine r_addS ?e1 ?_); (case e1 => walk_at "ssz"))
  | ((with_reducible refine' r_ixS ?e1 ?e2 ?_); (case e1 => walk_at "ssz"); (case e2 => first | assumption | rfl))
  | with_reducible refine r_istr ?_
  | with_reducible refine r_is ?_
  | with_reducible refine r_un ?_
  | with_reducible refine r_u ?_)
local macro_rules | `(tactic| walk_at "st1") => `(tactic| first
  | with_reducible refine r_tru ?_
  | ((with_reducible refine' r_truT ?e1 ?_); (case e1 => walk_at "sq"))
  | with_reducible refine r_isN ?_
  | with_reducible refine r_tyS ?_
  | with_reducible refine r_m1 ?_
  | with_reducible refine r_sx ?_
  | ((with_reducible refine r_strC ?e1 ?_); (case e1 => omega)))
local macro_rules | `(tactic| walk_at "st1") => `(tactic| first
  | with_reducible refine r_par ?_
  | with_reducible refine r_parx ?_
  | ((with_reducible refine' r_gtup ?e1 ?e2 ?_); (case e1 => walk_at "sq"); (case e2 => rfl))
  | with_reducible refine r_gcons ?_
  | with_reducible refine r_gnil ?_
  | with_reducible refine r_ient ?_
  | ((with_reducible refine' r_ent ?e1 ?_); (case e1 => walk_at "sq")))
local macro_rules | `(tactic| walk_at "st1") => `(tactic| first
  | with_reducible refine' r_nt ?_
  | with_reducible refine' r_nf ?_
  | with_reducible refine r_un ?_
  | with_reducible refine r_u ?_)
/-! ### the law's own reader -/
def rIsNNn : R2 := fun x y H Q => y = .non ∧ Q (.bl (!decide (x = .non))) H
theorem op_isNNn {X : Cx} : OpR X (compareOp .IsNot) rIsNNn := op_notN
theorem r_isNN {x : V} {H : Hp} {Q : VK} (q : Q (.bl (!decide (x = .non))) H) : rIsNNn x .non H Q := ⟨rfl, q⟩
theorem op_ltTK {X : Cx} {K : PySem.W.Frag} (hu : X.A.units + 64 < cLine) (q : X.K = K := by rfl) : OpR X (compareOp .Lt) (rLtT K) := q ▸ op_ltT (by omega)
theorem r_joinI {c : Prop} [Decidable c] {t1 t2 : TE} {σ1 σ2 : L2.St} {H1 H2 : Hp} {Q : VK} (G : V → Hp → Prop) (h2 : ∀ v H', G v H' → Q v H') (h1 : ∀ Q' : VK, (∀ v H', G v H' → Q' v H') → if c then t1 σ1 H1 Q' else t2 σ2 H2 Q') : if c then t1 σ1 H1 Q else t2 σ2 H2 Q := h1 Q h2
theorem r_catX {K : PySem.W.Frag} {a b : Addr} {xs ys : List V} {H : Hp} {Q : VK} (ha : H a = some (.tup xs)) (hb : H b = some (.tup ys)) (sz : xs.length + ys.length ≤ sizeLine) (q : ∀ p H', Same H H' → H' p = some (.tup (xs ++ ys)) → Q (.ref p) H') : rCatA K (.ref a) (.ref b) H Q := by
  refine ⟨a, b, xs, ys, rfl, rfl, SqT.of ha, SqT.of hb, sz, fun e => ?_, fun _ e => ?_, fun _ _ p hp => ?_⟩
  · exact q b H (Same.refl _) (by rw [e]; exact hb)
  · exact q a H (Same.refl _) (by rw [e, List.append_nil]; exact ha)
  · exact q p _ (Same.upd_new hp) upd_same
theorem cut_last (xs : List V) : cutV xs none (some (-1)) = xs.dropLast := by
  unfold cutV
  have e1 : HT.sIx xs.length 0 none = 0 := rfl
  have e2 : HT.sIx xs.length xs.length (some (-1)) = xs.length - 1 := by
    simp [HT.sIx]; omega
  rw [e1, e2, List.drop_zero, Nat.sub_zero, List.dropLast_eq_take]
theorem putK_last {k0 : List (List Key × V)} {k : List Key} {v w : V} (n : k ∉ k0.map fun kv => kv.1) : putK (k0 ++ [(k, v)]) k w = k0 ++ [(k, w)] := by
  unfold putK
  rw [if_pos (by simp), List.map_append]
  congr 1
  · conv => rhs; rw [← List.map_id k0]
    exact List.map_congr_left fun kv m => by
      rw [if_neg fun e => n (List.mem_map.mpr ⟨kv, m, e⟩)]; rfl
  · simp
theorem valV_last {k0 : List (List Key × V)} {k : List Key} {v : V} (n : k ∉ k0.map fun kv => kv.1) : valV (k0 ++ [(k, v)]) k = some v := by
  unfold valV
  rw [List.find?_append, List.find?_eq_none.mpr fun kv m e => n (List.mem_map.mpr ⟨kv, m, of_decide_eq_true e⟩)]
  simp
def pairQ (ws : List (List Nat)) : Option (List Int) := if ws.head? = some pairS ∧ ws.length = 3 then numsC ws.tail else none
theorem nums_len {ps : List (List Nat)} {ns : List Int} (e : numsC ps = some ns) : ns.length = ps.length := by
  have z := congrArg List.length (nums_some e)
  unfold toldV at z
  rw [List.length_map, List.length_map] at z
  exact z.symm
theorem nums_pair (r : List (List Nat)) : numsC (pairS :: r) = none := nums_none List.mem_cons_self (by decide)
theorem pairQ_two {ws : List (List Nat)} {ns : List Int} (e : pairQ ws = some ns) : ∃ i j, ns = [i, j] := by
  unfold pairQ at e
  split at e
  · rename_i h
    have l := nums_len e
    have : ns.length = 2 := by rw [l, List.length_tail, h.2]
    match ns, this with
    | [i, j], _ => exact ⟨i, j, rfl⟩
  · cases e
theorem read_pair {d : Sheet} {a : List Nat} {i j : Int} (e : pairQ (TL.spl [32] 0 [] a) = some [i, j]) (h : aheadB d (i, j) = true) : readRow d a = some (d ++ [((i, j), [])]) := by
  unfold pairQ at e
  split at e
  · rename_i c
    unfold readRow
    rw [if_pos c.1, e]
    show (if aheadB d (i, j) = true then some (d ++ [((i, j), [])]) else none) = _
    rw [if_pos h]
  · cases e
theorem read_else {d : Sheet} {a : List Nat} (h : pairQ (TL.spl [32] 0 [] a) = none ∨ ∃ i j, pairQ (TL.spl [32] 0 [] a) = some [i, j] ∧ aheadB d (i, j) = false) : readRow d a = rowOf d (numsC (TL.spl [32] 0 [] a)) := by
  unfold readRow
  by_cases c : (TL.spl [32] 0 [] a).head? = some pairS
  · rw [if_pos c]
    obtain ⟨w0, wr, ew⟩ := List.exists_cons_of_ne_nil (spl_some (S := [32]) 0 [] a)
    rw [ew] at c h ⊢
    obtain rfl : w0 = pairS := Option.some.inj c
    rw [nums_pair]
    show pairOf d (numsC wr) = none
    unfold pairQ at h
    by_cases l : (pairS :: wr).length = 3
    · rw [if_pos ⟨c, l⟩] at h
      rcases h with h | ⟨i, j, h, z⟩
      · rw [show (pairS :: wr).tail = wr from rfl] at h
        rw [h]; rfl
      · rw [show (pairS :: wr).tail = wr from rfl] at h
        rw [h]
        show (if aheadB d (i, j) = true then _ else none) = none
        rw [z, if_neg (by decide)]
    · unfold pairOf
      split
      · rename_i i j e
        exact absurd (by rw [List.length_cons, ← nums_len e]; rfl) l
      · rfl
  · rw [if_neg c]
def LastAt (H : Hp) (v : V) (d : Sheet) : Prop := (d = [] ∧ v = .non) ∨ ∃ (d0 : Sheet) (x : (Int × Int) × List (List Int)) (t : Addr), d = d0 ++ [x] ∧ v = .ref t ∧ H t = some (.tup [.int x.1.1, .int x.1.2])
theorem LastAt.to {H H' : Hp} {v : V} {d : Sheet} (h : LastAt H v d) (k : ∀ t xs, H t = some (.tup xs) → H' t = some (.tup xs)) : LastAt H' v d := by
  rcases h with ⟨e1, e2⟩ | ⟨d0, x, t, e1, e2, e3⟩
  · exact .inl ⟨e1, e2⟩
  · exact .inr ⟨d0, x, t, e1, e2, k _ _ e3⟩
theorem ahead_lex (d0 : Sheet) (x : (Int × Int) × List (List Int)) (i j : Int) : aheadB (d0 ++ [x]) (i, j) = HT.lexLt [x.1.1, x.1.2] [i, j] := by
  unfold aheadB
  rw [List.getLast?_concat, HT.lexLt_cons, HT.lexLt_cons, HT.lexLt_nil_nil]
  show decide (x.1.1 < i ∨ (x.1.1 = i ∧ x.1.2 < j)) = _
  by_cases c : x.1.1 = i
  · rw [if_pos c]
    by_cases c2 : x.1.2 = j
    · rw [if_pos c2]; exact decide_eq_false (by omega)
    · rw [if_neg c2]; exact decide_eq_decide.mpr (by omega)
  · rw [if_neg c]; exact decide_eq_decide.mpr (by omega)
/-- a last row's tuple: the dict that it leaves -/
theorem ShV.last {H : Hp} {kvs : List (List Key × V)} {d0 : Sheet} {x : (Int × Int) × List (List Int)} (h : ShV H kvs (d0 ++ [x])) : ∃ k0 t, kvs = k0 ++ [(keyP x.1, .ref t)] ∧ ShV H k0 d0 ∧ Lot H t x.2 := by
  rcases List.eq_nil_or_concat kvs with e | ⟨k0, kv, e⟩
  · have := h.1
    rw [e, List.length_append] at this
    simp at this
  · rw [List.concat_eq_append] at e
    subst e
    have l : k0.length = d0.length := by have := h.1; rw [List.length_append, List.length_append] at this; simpa using this
    obtain ⟨y, ey, ek, t, et, lot⟩ := h.2 k0.length kv (by rw [List.getElem?_append_right (Nat.le_refl _), Nat.sub_self]; rfl)
    rw [l, List.getElem?_append_right (Nat.le_refl _), Nat.sub_self] at ey
    obtain rfl : x = y := Option.some.inj ey
    refine ⟨k0, t, by rw [← ek, ← et], ⟨l, fun i v e => ?_⟩, lot⟩
    have lt : i < k0.length := (List.getElem?_eq_some_iff.mp e).1
    obtain ⟨z, ez, q⟩ := h.2 i v (by rw [List.getElem?_append_left lt]; exact e)
    rw [List.getElem?_append_left (by rw [← l]; exact lt)] at ez
    exact ⟨z, ez, q⟩
theorem Low.fresh {n : Nat} {d : Sheet} {x : (Int × Int) × List (List Int)} (h : Low n (d ++ [x])) : keyP x.1 ∉ d.map fun x => keyP x.1 := fun m => by
  obtain ⟨z, hz, ez⟩ := List.mem_map.mp m
  have ndk := h.nd
  rw [List.map_append] at ndk
  exact (List.nodup_append.mp ndk).2.2 z.1 (List.mem_map.mpr ⟨z, hz, rfl⟩) x.1 (by simp) (keyP_inj ez)
def sp_law_read (_ : PySem.W.Frag) : Sp := fun vs H Q _ => ∃ (a : List Nat), vs = [.str (Sx a)] ∧ a.length ≤ 10000 ∧ (rowsT a).length ≤ 2900 ∧ (∀ k, readT a = .inl k → ∀ H', Same H H' → Q (.int (k : Nat)) H') ∧
  ∀ sh, readT a = .inr sh → ∀ (d : Addr) (H' : Hp), Same H H' → H d = none → ShD H' d sh → Q (.ref d) H'
local macro_rules | `(tactic| walk_at "st1") => `(tactic| with_reducible refine r_isNN ?_)
section
variable {P : Program} {w : World} {K : PySem.W.Frag} {mg : Str → Option Value} {base : Heap}
set_option maxHeartbeats 0 in
theorem ok_law_read {c_PaperReader : Addr} {c_TraceError : Addr} {c_NoText : Addr} {c_NoFlow : Addr} {c_NoUnit : Addr} (T : Tx K mg c_PaperReader c_TraceError c_NoText c_NoFlow c_NoUnit) {f_law_numbers : Addr} {fd_law_numbers : FuncData} (C_law_numbers : Cal P w K mg base "_law_numbers" 1 ["words"] (sp_law_numbers K) s_law_numbers f_law_numbers fd_law_numbers) {f : Addr} {fd : FuncData} (F : Here K mg "_law_read" s_law_read ["written"] f fd) : Cal P w K mg base "_law_read" 2 ["written"] (sp_law_read K) s_law_read f fd := by
  refine F.cal sc_law_read (fun vs H Q E h => ?_) (fun cdv A outer s H vs Q E hr h => ?_)
  · obtain ⟨a, rfl, _⟩ := h
    rfl
  · obtain ⟨a, rfl, ha, hn, qe, q⟩ := h
    refine ⟨_, (pss_cons (ps_set (i := 1) sc_law_read.nd rfl (by first | exact .inl rfl | exact .inr rfl) (castBM (K := K) (pe_bm PySem.F.plainAttrs_str PySem.F.slot_str_split PySem.F.type_str_split mt_splK (pv 0) (pa_cons pe_str pa_nil))))
      (pss_cons (ps_set (i := 2) sc_law_read.nd rfl (by first | exact .inl rfl | exact .inr rfl) (pe_cmpR op_ne (pe_ix (ix_listK (K := K)) (pv 1) (pe_un un_neg pe_int) (fun _ _ => rfl)) pe_str (nomark _)))
      (pss_cons (ps_set (i := 1) sc_law_read.nd rfl (by first | exact .inl rfl | exact .inr rfl) (pe_ifExp (pt_val (pv 2)) (pv 1) (pe_slice (sl_listK (K := K)) (pv 1) po_none (po_some (pe_un un_neg pe_int)))))
      (pss_cons (ps_par (i := 3) (j := 4) rfl sc_law_read.nd rfl rfl (by decide) rfl rfl (pa_cons pe_dnewT (pa_cons pe_non pa_nil)) (by rfl))
      (pss_cons (ps_for PassesOwn.never rfl (castPI (K := K) (wi := fun K => iEnum K _) (pi_enum (by rfl) T.m_enumerate (pa_cons (pv 1) pa_nil))) (castPG (K := K) (n := 2) (pg_tup rfl (pgs_cons (pg_name (i := 5) sc_law_read.nd rfl (by first | exact .inl rfl | exact .inr rfl)) (pgs_cons (pg_name (i := 6) sc_law_read.nd rfl (by first | exact .inl rfl | exact .inr rfl)) pgs_nil)))) (pss_cons (ps_set (i := 7) sc_law_read.nd rfl (by first | exact .inl rfl | exact .inr rfl) (castBM (K := K) (pe_bm PySem.F.plainAttrs_str PySem.F.slot_str_split PySem.F.type_str_split mt_splK (pv 6) (pa_cons pe_str pa_nil))))
      (pss_cons (ps_set (i := 8) sc_law_read.nd rfl (by first | exact .inl rfl | exact .inr rfl) (pe_ifExp (PW.pt (pw_and (pt_cmpR op_eq (pe_ix (ix_listK (K := K)) (pv 7) pe_int (fun _ _ => rfl)) pe_str (nomark _)) (pw_and1 (pt_cmpR op_eq (pe_callB (cr_lenK (K := K)) (by rfl) T.m_len (by decide +kernel) (pa_cons (pv 7) pa_nil)) pe_int (nomark _))))) (pe_call C_law_numbers.ok (hr.mono (by decide)) (by rfl) C_law_numbers.at_ C_law_numbers.kp C_law_numbers.b .nil pass0 (pa_cons (pe_slice (sl_listK (K := K)) (pv 7) (po_some pe_int) po_none) pa_nil)) pe_non))
      (pss_cons (ps_set (i := 9) sc_law_read.nd rfl (by first | exact .inl rfl | exact .inr rfl) (pe_call C_law_numbers.ok (hr.mono (by decide)) (by rfl) C_law_numbers.at_ C_law_numbers.kp C_law_numbers.b .nil pass0 (pa_cons (pv 7) pa_nil)))
      (pss_one (ps_if (PW.pt (pw_and (pt_cmpR op_isNNn (pv 8) pe_non (nomark _)) (pw_and1 (PW.pt (pw_or (pt_cmpR op_isNn (pv 4) pe_non (nomark _)) (pw_or1 (pt_cmpR (op_ltTK (K := K) (hu_of64 hr)) (pv 4) (pv 8) (nomark _)))))))) (pss_one (ps_asg (pe_tup (pa_cons (pe_tup pa_nil) (pa_cons (pv 8) pa_nil))) (castPG (K := K) (n := 2) (pg_tup rfl (pgs_cons (pg_sub (pv 3) (pv 8) (set_dict (hu_of hr))) (pgs_cons (pg_name (i := 4) sc_law_read.nd rfl (by first | exact .inl rfl | exact .inr rfl)) pgs_nil)))))) (pss_one (ps_if (PW.pt (pw_and (pt_cmpR op_isNNn (pv 4) pe_non (nomark _)) (pw_and1 (pt_cmpR op_isNNn (pv 9) pe_non (nomark _))))) (pss_one (ps_asg (pe_op (op_catAK (K := K)) (pe_dget (hu_of hr) (pv 3) (pv 4) (fun _ _ => rfl)) (pe_tup (pa_cons (pv 9) pa_nil))) (pg_sub (pv 3) (pv 4) (set_dict (hu_of hr))))) (pss_one (ps_ret (pv 5)))))))))))
      (pss_one (ps_ret (pe_ifExp (pt_val (pv 2)) (pe_callB (cr_lenK (K := K)) (by rfl) T.m_len (by decide +kernel) (pa_cons (pv 1) pa_nil)) (pv 3))))))))), ?_⟩
    walk_at "st"
    refine ⟨_, _, rfl, rfl, rfl, by rw [Sx_len]; exact Nat.le_trans (show a.length + 2 ≤ 10002 by omega) (by decide), fun l hl => ?_⟩
    rw [spl_rows]
    have rl : ∀ p ∈ rowsT a, p.length ≤ 10000 := fun p m => by
      have m2 : p ∈ TL.spl [10] 0 [] a := by
        unfold rowsT at m
        split at m
        · exact List.dropLast_subset _ m
        · exact m
      exact Nat.le_trans (spl_part 0 [] a p m2) (by rw [List.length_nil]; omega)
    obtain ⟨I, z, eI⟩ : ∃ I z, TL.spl [10] 0 [] a = I ++ [z] := by
      have ne : TL.spl [10] 0 [] a ≠ [] := spl_some 0 [] a
      exact ⟨_, _, (List.dropLast_concat_getLast ne).symm⟩
    have er : rowsT a = if z = [] then I else I ++ [z] := by
      unfold rowsT
      rw [eI, List.getLast?_concat, List.dropLast_concat]
      by_cases hz : z = []
      · rw [if_pos (by rw [hz]), if_pos hz]
      · rw [if_neg fun e => hz (Option.some.inj e), if_neg hz]
    have ew : wholeT a = decide (z = []) := by
      unfold wholeT
      rw [eI, List.getLast?_concat]
      exact decide_eq_decide.mpr ⟨fun e => Option.some.inj e, fun e => by rw [e]⟩
    rw [eI]
    have s1 := Same.upd_new (x := .lst ((I ++ [z]).map fun p => V.str (Sx p))) hl
    have e1 : upd H l (.lst ((I ++ [z]).map fun p => V.str (Sx p))) l = some (.lst ((I ++ [z]).map fun p => V.str (Sx p))) := upd_same
    have ix : atI ((I ++ [z]).map fun p => V.str (Sx p)) (-1) = some (.str (Sx z)) := by rw [List.map_append]; exact atI_last _ _
    generalize upd H l (.lst ((I ++ [z]).map fun p => V.str (Sx p))) = H1 at *
    have ez : decide (V.str (Sx z) = V.str (Str.ofString "")) = wholeT a := by
      rw [ew]
      refine decide_eq_decide.mpr ⟨fun e => ?_, fun e => by rw [e]; rfl⟩
      injection e with e
      exact congrArg cs e
    walk_at "st"
    rw [ez]
    refine r_joinI (fun v H' => ∃ lr : Addr, v = .ref lr ∧ Same H H' ∧ H' lr = some (.lst ((rowsT a).map fun p => V.str (Sx p)))) (fun v H2 g => ?_) (fun Q' hQ => ?_)
    case refine_2 =>
      by_cases hz : z = []
      · have w1 : wholeT a = true := by rw [ew]; exact decide_eq_true hz
        rw [w1, if_neg (by decide)]
        walk_at "st"
        intro p hp
        refine hQ _ _ ⟨p, rfl, s1.trans (Same.upd_new hp), ?_⟩
        rw [upd_same, show cutV ((I ++ [z]).map fun p => V.str (Sx p)) none (some (-1)) = _ from cut_last _, er, if_pos hz, List.map_append]
        congr 2
        exact List.dropLast_concat
      · have w0 : wholeT a = false := by rw [ew]; exact decide_eq_false hz
        rw [w0, if_pos (show (!false) = true from rfl)]
        walk_at "st"
        exact hQ _ _ ⟨l, rfl, s1, by rw [er, if_neg hz]; exact e1⟩
    obtain ⟨lr, rfl, S2, elr⟩ := g
    clear ez ew er eI ix e1 s1
    unfold readT at qe q
    generalize rowsT a = rows at *
    generalize wholeT a = wh at *
    walk_at "st"
    intro D hD
    have sD : Same H2 (upd H2 D (.dT [])) := Same.upd_new hD
    have elr3 := sD _ _ elr
    have eD0 : upd H2 D (.dT []) D = some (.dT []) := upd_same
    generalize upd H2 D (.dT []) = H3 at *
    walk_at "st"
    refine ⟨_, rfl, lr, _, rfl, SqL.of elr3, ?_⟩
    refine lp_by (walk_enum (K := K) (a := lr) (xs := rows.map fun p => V.str (Sx p))) (fun i σ' H' => ∃ (v4 : V) (x5 x6 x7 x8 x9 : Option V) (dd : Sheet) (kvs : List (List Key × V)), σ' = [some (.str (Sx a)), some (.ref lr), some (.bl (!wh)), some (.ref D), some v4, x5, x6, x7, x8, x9] ∧ Same H2 H' ∧ H' D = some (.dT kvs) ∧ ShV H' kvs dd ∧ LastAt H' v4 dd ∧ readRows [] 0 rows = readRows dd i (rows.drop i) ∧ Low i dd)
      ⟨.non, _, _, _, _, _, [], [], rfl, sD, eD0, ⟨rfl, fun i kv e => by simp at e⟩, .inl ⟨rfl, rfl⟩, rfl, Low.zero⟩ (fun i σ' H' _ z => by obtain ⟨_, _, _, _, _, _, _, _, _, z1, _⟩ := z; exact SqL.of (z1 _ _ elr)) (fun i v σ' HX HX' hi z y => ?_) (fun σ' HX z => ?_)
    · obtain ⟨v4, y5, y6, y7, y8, y9, dd, kvs, rfl, sm, eD, sv, la, er, low⟩ := z
      obtain ⟨tt, x1, y1, rfl, nt, rfl, e1, e2⟩ := y
      rw [List.length_map] at hi
      have e2 : (rows.map fun p => V.str (Sx p))[i]? = some y1 := e2
      rw [List.getElem?_map, List.getElem?_eq_getElem hi] at e2
      obtain rfl := Option.some.inj e1
      obtain rfl : V.str (Sx rows[i]) = y1 := Option.some.inj e2
      have sY : Same HX (upd HX tt (.tup [.int (i : Nat), .str (Sx rows[i])])) := Same.upd_new nt
      have ett : upd HX tt (.tup [.int (i : Nat), .str (Sx rows[i])]) tt = some (.tup [.int (i : Nat), .str (Sx rows[i])]) := upd_same
      generalize upd HX tt (.tup [.int (i : Nat), .str (Sx rows[i])]) = HY at *
      have rli := rl rows[i] (List.getElem_mem hi)
      have ed : rows.drop i = rows[i] :: rows.drop (i + 1) := List.drop_eq_getElem_cons hi
      rw [ed] at er
      generalize rows[i] = rw' at *
      refine ⟨tt, [.int (i : Nat), .str (Sx rw')], rfl, .inl (.inl ett), rfl, _, _, rfl, _, _, rfl, rfl, ?_⟩
      walk_at "st"
      refine ⟨_, _, rfl, rfl, rfl, by rw [Sx_len]; exact Nat.le_trans (show rw'.length + 2 ≤ 10002 by omega) (by decide), fun lw hlw => ?_⟩
      rw [spl_words]
      have wl := spl_size (S := [32]) 0 [] rw'
      have wp : ∀ z ∈ TL.spl [32] 0 [] rw', z.length ≤ 10000 := fun z m => Nat.le_trans (spl_part 0 [] rw' z m) (by rw [List.length_nil]; omega)
      have RP := fun i j => read_pair (d := dd) (a := rw') (i := i) (j := j)
      have RE := read_else (d := dd) (a := rw')
      obtain ⟨w0, wr, ew⟩ := List.exists_cons_of_ne_nil (spl_some (S := [32]) 0 [] rw')
      rw [ew] at wl wp RP RE ⊢
      have sW := Same.upd_new (x := .lst ((w0 :: wr).map fun p => V.str (Sx p))) hlw
      have elw : upd HY lw (.lst ((w0 :: wr).map fun p => V.str (Sx p))) lw = some (.lst (V.str (Sx w0) :: wr.map fun p => V.str (Sx p))) := upd_same
      generalize upd HY lw (.lst ((w0 :: wr).map fun p => V.str (Sx p))) = HW at *
      have ix : atI (V.str (Sx w0) :: wr.map fun p => V.str (Sx p)) 0 = some (V.str (Sx w0)) := (show atI _ ((0 : Nat) : Int) = _ from atI_nat rfl)
      have wl2 : wr.length ≤ 10000 := by rw [List.length_cons] at wl; omega
      walk_at "st1"
      walk_at "st1"
      walk_at "st1"
      refine r_joinE (fun v H' => Same HW H' ∧ NumV H' v (pairQ (w0 :: wr))) (fun v8 HA g => ?_) (fun Q' hQ => ?_)
      case refine_2 =>
        walk_at "st"
        by_cases hp : w0 = pairS
        · subst hp
          rw [if_pos (decide_eq_true (show V.str (Sx pairS) = V.str (Str.ofString "pair") from rfl))]
          walk_at "st"
          by_cases h3 : wr.length = 2
          · rw [if_pos (decide_eq_true (by rw [List.length_cons, List.length_map, h3]; rfl))]
            walk_at "st"
            intro l2 hl2
            have ec : cutV (V.str (Sx pairS) :: wr.map fun p => V.str (Sx p)) (some 1) none = wr.map fun p => V.str (Sx p) := cut_one _ _
            rw [ec]
            refine ⟨l2, wr, rfl, upd_same, by omega, fun z m => wp z (List.mem_cons_of_mem _ m), fun v H' s5 nv => hQ v H' ⟨(Same.upd_new hl2).trans s5, ?_⟩⟩
            unfold pairQ
            rw [if_pos ⟨rfl, by rw [List.length_cons, h3]⟩]
            exact nv
          · rw [if_neg fun z => h3 (by
              have z := of_decide_eq_true z
              injection z with z
              rw [List.length_cons, List.length_map] at z
              omega)]
            walk_at "st"
            refine hQ .non HW ⟨Same.refl _, .inl ⟨?_, rfl⟩⟩
            unfold pairQ
            rw [if_neg fun z => h3 (by have := z.2; rw [List.length_cons] at this; omega)]
        · have nq : ¬ V.str (Sx w0) = V.str (Str.ofString "pair") := fun e => by
            injection e with e
            exact hp (congrArg cs e)
          rw [if_neg (fun e => nq (of_decide_eq_true e)), if_neg (by decide)]
          walk_at "st"
          refine hQ .non HW ⟨Same.refl _, .inl ⟨?_, rfl⟩⟩
          unfold pairQ
          rw [if_neg fun z => hp (Option.some.inj z.1)]
      obtain ⟨sA, nv8⟩ := g
      have elwA := sA _ _ elw
      walk_at "st"
      refine ⟨lw, w0 :: wr, rfl, elwA, by rw [List.length_cons]; omega, wp, fun v9 HB sB nv9 => ?_⟩
      replace nv8 := nv8.same sB
      have S4 : Same HX HB := ((sY.trans sW).trans sA).trans sB
      have SB : Same H2 HB := sm.trans S4
      replace eD := S4 _ _ eD
      replace sv := sv.to (H' := HB) fun t xs e => S4 _ _ e
      replace la := la.to (H' := HB) fun t xs e => S4 _ _ e
      clear S4 sA sB sW sY elw elwA hlw sm ett nt
      walk_at "st"
      (first | refine r_if ?_ | (simp only []; refine r_if ?_))
      refine r_joinT (fun b H' => H' = HB ∧ (b = true → ∃ i j t8, v8 = .ref t8 ∧ HB t8 = some (.tup [.int i, .int j]) ∧ readRow dd rw' = some (dd ++ [((i, j), [])])) ∧ (b = false → readRow dd rw' = rowOf dd (numsC (w0 :: wr)))) (fun b H' g => ?_) (fun R' hR => ?_)
      case refine_2 =>
        rcases nv8 with ⟨e8, rfl⟩ | ⟨ns, t8, e8, rfl, ht8⟩
        · walk_at "st"
          rw [if_neg (by simp)]
          exact hR _ _ ⟨rfl, fun z => absurd z (by decide), fun _ => RE (.inl e8)⟩
        · obtain ⟨i, j, rfl⟩ := pairQ_two e8
          walk_at "st"
          rw [if_pos (by simp)]
          rcases la with ⟨rfl, rfl⟩ | ⟨d0, x, t, rfl, rfl, ht⟩
          · walk_at "st"
            rw [if_pos (by simp)]
            exact hR _ _ ⟨rfl, fun _ => ⟨i, j, t8, rfl, ht8, RP i j e8 rfl⟩, fun z => absurd z (by decide)⟩
          · walk_at "st"
            rw [if_neg (by simp)]
            refine ⟨_, rfl, _, rfl, t, t8, [x.1.1, x.1.2], [i, j], rfl, rfl, SqT.of ht, SqT.of ht8, ?_⟩
            have al := ahead_lex d0 x i j
            cases hb : HT.lexLt [x.1.1, x.1.2] [i, j] with
            | true => exact ⟨true, rfl, hR true _ ⟨rfl, fun _ => ⟨i, j, t8, rfl, ht8, RP i j e8 (al.trans hb)⟩, fun z => absurd z (by decide)⟩⟩
            | false => exact ⟨false, rfl, hR false _ ⟨rfl, fun z => absurd z (by decide), fun _ => RE (.inr ⟨i, j, e8, al.trans hb⟩)⟩⟩
      obtain ⟨rfl, g1, g2⟩ := g
      cases b with
      | true =>
        rw [if_pos rfl]
        obtain ⟨i1, j1, t8, rfl, ht8, erow⟩ := g1 rfl
        clear g1 g2 RP RE nv8
        have low' := low.row erow
        have er2 := er.trans (readRows_good erow)
        have nk : keyP (i1, j1) ∉ kvs.map fun kv => kv.1 := by rw [sv.keys]; exact low'.fresh
        have lk : kvs.length < sizeLine := by
          rw [sv.1]
          exact Nat.lt_of_le_of_lt (Nat.le_trans low.1.1 (show i ≤ 2900 by omega)) (by decide)
        walk_at "st"
        intro p hp
        have s5 : Same H' (upd H' p (.tup [])) := Same.upd_new hp
        have ep : upd H' p (.tup []) p = some (.tup []) := upd_same
        generalize upd H' p (.tup []) = HC at *
        walk_at "st"
        intro p1 hp1
        have s6 := s5.trans (Same.upd_new (x := .tup [.ref p, .ref t8]) hp1)
        have ep6 := hl_new (u := .tup [.ref p, .ref t8]) ep hp1
        have e61 : upd HC p1 (.tup [.ref p, .ref t8]) p1 = some (.tup [.ref p, .ref t8]) := upd_same
        generalize upd HC p1 (.tup [.ref p, .ref t8]) = HD at *
        walk_at "st"
        have eD6 := s6 _ _ eD
        refine ⟨D, _, rfl, DPut.t (k := keyP (i1, j1)) eD6 (s6 _ _ ht8) lk, ?_⟩
        have tups : ∀ t xs, HD t = some (.tup xs) → upd HD D (.dT (putK kvs (keyP (i1, j1)) (.ref p))) t = some (.tup xs) := fun t xs e => hl_set (fun z => by rw [z, eD6] at e; cases e) e
        rw [putK_new _ (valV_no nk)] at tups ⊢
        walk_at "st"
        refine ⟨.ref t8, _, _, _, _, _, dd ++ [((i1, j1), [])], _, rfl, fun b o e => hl_set (ne_of_none e hD) (s6 _ _ (SB _ _ e)), upd_same, ?_, .inr ⟨dd, ((i1, j1), []), t8, rfl, rfl, tups _ _ (s6 _ _ ht8)⟩, er2, low'⟩
        exact ((sv.to fun t xs e => s6 _ _ e).snoc (x := ((i1, j1), [])) (t := p) ⟨[], ep6, rfl, fun i v e => by simp at e⟩).to tups
      | false =>
        rw [if_neg (by decide)]
        have erow := g2 rfl
        clear g1 g2 RP RE nv8
        have bad : rowOf dd (numsC (w0 :: wr)) = none → Q (.int (i : Nat)) H' := fun e => by
          refine qe i ?_ H' (S2.trans SB)
          rw [er, readRows_bad (erow.trans e)]
        walk_at "st"
        refine r_if ?_
        rcases la with ⟨rfl, rfl⟩ | ⟨d0, x, t, rfl, rfl, ht⟩
        · walk_at "st"
          rw [if_neg (by simp), if_neg (by decide)]
          walk_at "st"
          exact bad (by cases numsC (w0 :: wr) <;> rfl)
        · walk_at "st"
          rw [if_pos (by simp)]
          rcases nv9 with ⟨e9, rfl⟩ | ⟨ns, t9, e9, rfl, ht9⟩
          · walk_at "st"
            rw [if_neg (by simp)]
            walk_at "st"
            exact bad (by rw [e9]; rfl)
          · walk_at "st"
            rw [if_pos (by simp)]
            have ro : rowOf (d0 ++ [x]) (some ns) = some (d0 ++ [(x.1, x.2 ++ [ns])]) := by
              unfold rowOf
              rw [List.getLast?_concat, List.dropLast_concat]
            rw [e9, ro] at erow
            have low' := low.row erow
            have er2 := er.trans (readRows_good erow)
            obtain ⟨k0, tr, rfl, sv0, us, hus, rws⟩ := sv.last
            have nk : keyP x.1 ∉ k0.map fun kv => kv.1 := by rw [sv0.keys]; exact low.fresh
            have lk : (k0 ++ [(keyP x.1, V.ref tr)]).length < sizeLine := by
              rw [sv.1]
              exact Nat.lt_of_le_of_lt (Nat.le_trans low.1.1 (show i ≤ 2900 by omega)) (by decide)
            have lus : us.length ≤ 2900 := by
              rw [rws.1]
              exact Nat.le_trans (low.1.2 x (by simp)) (by omega)
            walk_at "st"
            refine ⟨.ref D, rfl, .ref t, rfl, D, .ref tr, rfl, by rw [← valV_last (v := V.ref tr) nk]; exact DGet.t (k := keyP x.1) eD ht, ?_⟩
            walk_at "st"
            intro p hp
            have s5 : Same H' (upd H' p (.tup [.ref t9])) := Same.upd_new hp
            have ep : upd H' p (.tup [.ref t9]) p = some (.tup [.ref t9]) := upd_same
            generalize upd H' p (.tup [.ref t9]) = HC at *
            walk_at "st"
            refine r_catX (s5 _ _ hus) ep (Nat.le_trans (show us.length + 1 ≤ 2901 by omega) (by decide)) fun tv HD sD6 ev => ?_
            have s6 := s5.trans sD6
            walk_at "st"
            have eD6 := s6 _ _ eD
            refine ⟨D, _, rfl, DPut.t (k := keyP x.1) eD6 (s6 _ _ ht) lk, ?_⟩
            have tups : ∀ t xs, HD t = some (.tup xs) → upd HD D (.dT (putK (k0 ++ [(keyP x.1, V.ref tr)]) (keyP x.1) (.ref tv))) t = some (.tup xs) := fun t xs e => hl_set (fun z => by rw [z, eD6] at e; cases e) e
            rw [putK_last nk] at tups ⊢
            walk_at "st"
            refine ⟨.ref t, _, _, _, _, _, d0 ++ [(x.1, x.2 ++ [ns])], _, rfl, fun b o e => hl_set (ne_of_none e hD) (s6 _ _ (SB _ _ e)), upd_same, ?_, .inr ⟨d0, (x.1, x.2 ++ [ns]), t, rfl, rfl, tups _ _ (s6 _ _ ht)⟩, er2, low'⟩
            exact ((sv0.to fun t xs e => s6 _ _ e).snoc (x := (x.1, x.2 ++ [ns])) (t := tv) ⟨us ++ [.ref t9], ev, (rws.tups fun t xs e => s6 _ _ e).append ⟨rfl, fun j v ev2 => by
              cases j with
              | zero => exact ⟨ns, rfl, t9, (Option.some.inj (show some (V.ref t9) = some v from ev2)).symm, s6 _ _ ht9⟩
              | succ j => simp at ev2⟩⟩).to tups
    · obtain ⟨v4, y5, y6, y7, y8, y9, dd, kvs, rfl, sm, eD, sv, la, er, low⟩ := z
      rw [List.length_map] at er low
      rw [List.drop_length] at er
      have er : readRows [] 0 rows = .inr dd := er
      rw [er] at qe q
      walk_at "st"
      cases wh with
      | true =>
        rw [if_neg (by decide)]
        walk_at "st"
        refine q dd rfl D HX (S2.trans sm) ?_ ⟨kvs, eD, sv⟩
        cases hh : H D with
        | none => rfl
        | some o => rw [S2 _ _ hh] at hD; cases hD
      | false =>
        have elx := sm _ _ elr
        rw [if_pos (show (!false) = true from rfl)]
        walk_at "st"
        rw [List.length_map]
        exact qe _ rfl HX (S2.trans sm)
end
local macro_rules | `(tactic| walk_at "ssz") => `(tactic| first | decide | exact str_small (by assumption) | (have : (1000000 : Nat) ≤ sizeLine := (by decide); omega))
local macro_rules | `(tactic| walk_at "st1") => `(tactic| first
  | with_reducible refine' r_nt ?_ | with_reducible refine' r_nf ?_
  | ((with_reducible refine r_lenS ?e1 ?_); (case e1 => walk_at "ssz"))
  | with_reducible refine r_inS ?_
  | with_reducible refine r_ninS ?_
  | ((with_reducible refine r_addS ?e1 ?_); (case e1 => walk_at "ssz"))
  | ((with_reducible refine' r_ixS ?e1 ?e2 ?_); (case e1 => walk_at "ssz"); (case e2 => first | assumption | rfl))
  | with_reducible refine r_istr ?_
  | with_reducible refine r_is ?_
  | with_reducible refine r_un ?_
  | with_reducible refine r_u ?_)
local macro_rules | `(tactic| walk_at "st1") => `(tactic| first
  | with_reducible refine r_tru ?_
  | ((with_reducible refine' r_truT ?e1 ?_); (case e1 => walk_at "sq"))
  | with_reducible refine r_isN ?_
  | with_reducible refine r_tyS ?_
  | with_reducible refine r_m1 ?_
  | with_reducible refine r_sx ?_
  | ((with_reducible refine r_strC ?e1 ?_); (case e1 => omega)))
local macro_rules | `(tactic| walk_at "st1") => `(tactic| first
  | with_reducible refine r_fld ?_
  | with_reducible refine r_sfld ?_
  | ((with_reducible refine' r_fldr ?e1 ?e2 ?e3 ?e4 ?_); (case e1 => walk_at "hl"); (case e2 => assumption); (case e3 => assumption); (case e4 => assumption)))
local macro_rules | `(tactic| walk_at "st1") => `(tactic| first
  | with_reducible refine r_par ?_
  | with_reducible refine r_parx ?_
  | ((with_reducible refine' r_gtup ?e1 ?e2 ?_); (case e1 => walk_at "sq"); (case e2 => rfl))
  | with_reducible refine r_gcons ?_
  | with_reducible refine r_gnil ?_
  | with_reducible refine r_ient ?_
  | ((with_reducible refine' r_ent ?e1 ?_); (case e1 => walk_at "sq")))
/-! ### a thing is tried -/
def rIsXT (K : PySem.W.Frag) : List V → Hp → VK → Prop := fun xs H Q => ∃ (a D dd tp : Addr) (fs : List (Str × V)) (cs : List V) (us : List Value) (b : Bool), xs = [.ref a, .ref tp] ∧ H tp = some (.tup cs) ∧ Paired ClsV cs us ∧ H a = some (kex a (.ref D) (some dd)) ∧ H dd = some (.xd fs) ∧ ExcC K D ∧ PySem.W.kitAny K (.ref D) us = some b ∧ Q (.bl b) H
theorem cr_isXT {X : Cx} : CallR X (.builtin "isinstance") (rIsXT X.K) := by
  intro pins s σ H xs us Q I r h
  obtain ⟨a, D, dd, tp, fs, cs, ws, b, rfl, hT, k, ea, ed, C, e, q⟩ := h
  obtain ⟨u1, u2, rfl, r1, r2⟩ := vals2 r
  obtain rfl : u1 = Value.ref a := r1
  obtain rfl : u2 = Value.ref tp := r2
  obtain ⟨⟨oe, vs, g1, g2, g3⟩, _⟩ := I.hok a _ ea
  obtain ⟨mA, hns, hr⟩ := (show ObjOk X.prog X.w H s.heap dd (.xd fs) from I.hok dd _ ed)
  obtain ⟨od, ho, hl⟩ := lookIn_ns hns
  have J : PySem.W.InstAt s.heap a oe D (some od) := ⟨g1, g2.1, by unfold PySem.W.notCls; rw [g3] <;> rfl, by rw [g2.2]; exact ho⟩
  obtain ⟨_, its, rv, ⟨oc, od2, dt, sl⟩, h1, h2, n, h3⟩ := (show ObjOk X.prog X.w H s.heap tp (.tup cs) from I.hok tp _ hT)
  obtain rfl := ClsV.all k rv
  simp only at h2 h3
  subst h2 h3
  have hC : (PySem.W.clsIn X.K D).isSome = true := by
    obtain ⟨cd, hc, _⟩ := PySem.W.any_some C.hd
    rw [hc]; rfl
  exact PySem.W.kia_tup (PySem.W.kitx_exc (gt := none) hC C.hg C.hk C.hs C.ha C.hn C.ht C.hm) I.kIn J h1 e (fun z => nomatch z) fun tk => ⟨.bl b, H, I.tok tk, rfl, q⟩
theorem cr_isXTK {X : Cx} {K : PySem.W.Frag} (q : X.K = K := by rfl) : CallR X (.builtin "isinstance") (rIsXT K) := q ▸ cr_isXT
theorem TyX.to {K : PySem.W.Frag} {H H' : Hp} {v : V} {t : Value} (h : TyX K H v t) (k : Same H H') : TyX K H' v t := by
  cases h with
  | base h =>
    refine .base ?_
    cases h with
    | non => exact .non
    | bl x => exact .bl x
    | int i => exact .int i
    | str x => exact .str x
    | flt x => exact .flt x
    | lst e => exact .lst (k _ _ e)
    | frz e => exact .frz (k _ _ e)
    | tup e => exact .tup (k _ _ e)
    | dK e => exact .dK (k _ _ e)
    | dT e => exact .dT (k _ _ e)
    | ins e c a n t m => exact .ins (k _ _ e) c a n t m
  | byt b => exact .byt b
  | set e => exact .set (k _ _ e)
  | kList e c => exact .kList e c
  | kTuple e c => exact .kTuple e c
  | kDict e c => exact .kDict e c
  | fTuple e => exact .fTuple (k _ _ e)
  | fDict e => exact .fDict (k _ _ e)
def sp_law_tried (K : PySem.W.Frag) : Sp := fun vs H Q _ => ∃ v : V, vs = [v] ∧
  ((∃ a : List Nat, v = .str (Sx a) ∧ a.length ≤ 10000 ∧ (rowsT a).length ≤ 2900 ∧
      (∀ k, readT a = .inl k → ∀ H', Same H H' → Q (.int (k : Nat)) H') ∧
      ∀ sh, readT a = .inr sh → ∀ (d : Addr) (H' : Hp), Same H H' → H d = none → ShD H' d sh → Q (.ref d) H') ∨
    (∃ t, TyX K H v t ∧ PySem.W.kitOne K t (.type "str") = some false) ∧ ∀ H', Same H H' → Q (.int 0) H')
section
variable {P : Program} {w : World} {K : PySem.W.Frag} {mg : Str → Option Value} {base : Heap}
theorem ok_law_tried {c_PaperReader : Addr} {c_TraceError : Addr} {c_NoText : Addr} {c_NoFlow : Addr} {c_NoUnit : Addr} (T : Tx K mg c_PaperReader c_TraceError c_NoText c_NoFlow c_NoUnit) {f_read_paper : Addr} {fd_read_paper : FuncData} (C_read_paper : CalR P w K mg base "read_paper" 5 ["text"] (sp_read_paper K c_NoText) s_read_paper f_read_paper fd_read_paper) {f : Addr} {fd : FuncData} (F : Here K mg "_law_tried" s_law_tried ["thing"] f fd) : Cal P w K mg base "_law_tried" 6 ["thing"] (sp_law_tried K) s_law_tried f fd := by
  refine F.cal sc_law_tried (fun vs H Q E h => ?_) (fun cdv A' outer s H vs Q E hr h => ?_)
  · obtain ⟨v, rfl, _⟩ := h
    rfl
  · obtain ⟨v, rfl, h⟩ := h
    refine ⟨_, (pss_cons (ps_asg (pe_tup (pa_cons pe_non (pa_cons pe_non pa_nil))) (castPG (K := K) (n := 2) (pg_tup rfl (pgs_cons (pg_name (i := 1) sc_law_tried.nd rfl (by first | exact .inl rfl | exact .inr rfl)) (pgs_cons (pg_name (i := 2) sc_law_tried.nd rfl (by first | exact .inl rfl | exact .inr rfl)) pgs_nil)))))
      (pss_cons (ps_try_keep (i := 3) (Wout := fun _ _ _ _ => False) rfl rfl sc_law_tried.nd rfl rfl rfl ⟨by rfl, by decide, .inl T.g_TraceError⟩ takes0 (fun W pn xe tk pa => (pss_one (ps_set (i := 1) sc_law_tried.nd rfl (by first | exact .inl rfl | exact .inr rfl) (pe_callS C_read_paper.ok (hr.mono (by decide)) (by rfl) C_read_paper.at_ C_read_paper.kp C_read_paper.b (fun σ => passAt tk σ) (pa_cons (pv 0) pa_nil))))) (fun a oe cls d pn hz hf => (pss_one (ps_set (i := 2) sc_law_tried.nd rfl (by first | exact .inl rfl | exact .inr rfl) (pv 3)))))
      (pss_cons (ps_if (pt_cmpR op_isNn (pv 2) pe_non (nomark _)) (pss_one (ps_ret (pv 1))) pss_nil)
      (pss_cons (ps_set (i := 4) sc_law_tried.nd rfl (by first | exact .inl rfl | exact .inr rfl) (pe_and (pe_callB (cr_isXK (K := K)) (by rfl) T.m_isinstance (by decide +kernel) (pa_cons (pv 2) (pa_cons (pe_glob (v := .ref c_NoText) (by rfl) T.g_NoText rfl) pa_nil))) (pe_and (pe_callB (cr_isXK (K := K)) (by rfl) T.m_isinstance (by decide +kernel) (pa_cons (pv 2) (pa_cons (pe_bltn (v := .ty "ValueError") (by rfl) T.m_ValueError (by decide +kernel) rfl) pa_nil))) (pe_one (pe_not (pe_callB (cr_isXTK (K := K)) (by rfl) T.m_isinstance (by decide +kernel) (pa_cons (pv 2) (pa_cons (pe_tup (pa_cons (pe_glob (v := .ref c_NoFlow) (by rfl) T.g_NoFlow rfl) (pa_cons (pe_glob (v := .ref c_NoUnit) (by rfl) T.g_NoUnit rfl) pa_nil))) pa_nil))))))))
      (pss_one (ps_ret (pe_ifExp (pt_val (pv 4)) (pe_kxfK (K := K) (pv 2) rfl) pe_str))))))), ?_⟩
    have xc : XfC K c_NoText := ⟨T.xg_NoText, T.xh_NoText, T.xe_NoText, T.xd_NoText⟩
    have xm := exm_of T.te_TraceError T.ti_TraceError T.tt_TraceError T.s1_NoText
    have k1 : PySem.W.kitOne K (.ref c_NoText) (.ref c_NoText) = some true := kit_self
    have k2 : PySem.W.kitOne K (.ref c_NoText) (.type "ValueError") = some true := kit_bi (by decide) T.s2_NoText
    have k3 := kit_any2 (kit_own (kit_ne T.s0_NoText T.s3_NoText) T.ti_NoFlow T.tt_NoFlow T.s3_NoText) (kit_own (kit_ne T.s0_NoText T.s4_NoText) T.ti_NoUnit T.tt_NoUnit T.s4_NoText)
    have ec : ExcC K c_NoText := ⟨xc.ga, xc.gg, xc.exC, xc.hdC, T.xa_NoText, T.xn_object, T.xt_object, T.xo_NoText⟩
    walk_at "st"
    intro p hp
    have s0 : Same H (upd H p (.tup [V.non, V.non])) := Same.upd_new hp
    have e0 : upd H p (.tup [V.non, V.non]) p = some (.tup [V.non, V.non]) := upd_same
    have tyS : ∀ t, TyX K H v t → TyX K (upd H p (.tup [V.non, V.non])) v t := fun t ty => TyX.to ty s0
    generalize upd H p (.tup [V.non, V.non]) = H0 at *
    walk_at "st"
    have bad : ∀ (k : Nat) (d : Addr) (H' : Hp), Same H0 H' → H0 d = none → H' d = some (.xd [(("row" : Str), V.int (k : Nat))]) → (∀ H2, Same H H2 → Q (.int (k : Nat)) H2) →
        wKeep K (Value.ref c_TraceError) 3 (fun a cls d => tAsg (tVar 3) (gName 2)) (fun x x_1 x_2 x_3 => False)
        {
          nx :=
            tSeq (tIfS (tTest (tOp rIsNn (tVar 2) (tC V.non))) (tRet (tVar 1)) tNext)
              (tSeq
                (tAsg
                  (tAndV (tCB (rIsX K) (tCons (tVar 2) (tCons (tC (V.ref c_NoText)) tNil)))
                    (tAndV (tCB (rIsX K) (tCons (tVar 2) (tCons (tC (V.ty "ValueError")) tNil)))
                      (tNotV
                        (tCB (rIsXT K)
                          (tCons (tVar 2)
                            (tCons (tTup (tCons (tC (V.ref c_NoFlow)) (tCons (tC (V.ref c_NoUnit)) tNil))) tNil))))))
                  (gName 4))
                (tRet (tIf (tB (tVar 4)) (tKf K (Str.ofString "row") (tVar 2)) (tC (V.str (Str.ofString "other"))))))
              { nx := fun x H' => Q V.non H', rt := Q },
          rt := Q } (.ref c_NoText) (some d) [some v, some .non, some .non, none, none] H' := fun k d H' s1 nd ed q => by
      refine ⟨true, xm, fun _ a' ha' => ?_, fun z => by cases z⟩
      have s2 : Same H' (upd H' a' (kex a' (.ref c_NoText) (some d))) := Same.upd_new ha'
      have e2 : upd H' a' (kex a' (.ref c_NoText) (some d)) a' = some (kex a' (.ref c_NoText) (some d)) := upd_same
      have ed2 := s2 _ _ ed
      walk_at "st"
      dsimp only [kE]
      generalize upd H' a' (kex a' (.ref c_NoText) (some d)) = H2 at *
      have S2 := (s0.trans s1).trans s2
      walk_at "st"
      walk_at "if"
      rw [if_neg (by simp)]
      walk_at "st"
      refine ⟨a', c_NoText, d, _, .ref c_NoText, .ref c_NoText, true, rfl, e2, ed2, ec, .own _, k1, true, rfl, ?_⟩
      rw [if_pos rfl]
      walk_at "st"
      refine ⟨a', c_NoText, d, _, .ty "ValueError", .type "ValueError", true, rfl, e2, ed2, ec, .ty _, k2, true, rfl, ?_⟩
      rw [if_pos rfl]
      walk_at "st"
      intro tp htp
      have s3 := Same.upd_new (x := .tup [.ref c_NoFlow, .ref c_NoUnit]) htp
      have e3 := s3 _ _ e2
      have ed3 := s3 _ _ ed2
      have et : upd H2 tp (.tup [.ref c_NoFlow, .ref c_NoUnit]) tp = some (.tup [.ref c_NoFlow, .ref c_NoUnit]) := upd_same
      generalize upd H2 tp (.tup [.ref c_NoFlow, .ref c_NoUnit]) = H3 at *
      walk_at "st"
      refine ⟨a', c_NoText, d, tp, _, _, [.ref c_NoFlow, .ref c_NoUnit], false, rfl, et, .cons (.own _) (.cons (.own _) .nil), e3, ed3, ec, k3, ?_⟩
      refine ⟨false, rfl, ?_⟩
      walk_at "st"
      exact ⟨_, rfl, a', c_NoText, d, _, .int (k : Nat), rfl, e3, xc, T.na_row, ed3, rfl, q _ (S2.trans s3)⟩
    rcases h with ⟨a, rfl, ha, hn, qe, q⟩ | ⟨⟨t, ty, kt⟩, q⟩
    · refine ⟨_, rfl, _, rfl, .inl ⟨a, rfl, ha, hn, fun k e d H' s1 nd ed => bad k d H' s1 nd ed fun H2 s2 => qe k e H2 s2, fun sh e d H' s1 nd hd => ?_⟩⟩
      have nd2 : H d = none := by
        cases hh : H d with
        | none => rfl
        | some o => rw [s0 _ _ hh] at nd; cases nd
      walk_at "st"
      walk_at "if"
      rw [if_pos (by simp)]
      walk_at "st"
      exact q sh e d H' (s0.trans s1) nd2 hd
    · exact ⟨_, rfl, _, rfl, .inr ⟨⟨t, tyS t ty, kt⟩, fun d H' s1 nd ed => bad 0 d H' s1 nd ed q⟩⟩
end
/-! ### dicts with tuple keys that hold the same: == and != -/
namespace DTQ
section
variable {prog : Program} {w : World} {K : Type} [DecidableEq K] {knd : HeapKind prog w K} {A : Around} {E : Value → Shared → Prop} {s : Shared}
inductive Hits (A : Around) (s : Shared) (xb : List (K × Addr × Value)) : List (K × Addr × Value) → Prop
  | nil : Hits A s xb []
  | hit {k : K} {a : Addr} {v : Value} {q : Addr × Value} {r : List (K × Addr × Value)} : atKey xb k = some q → SeqAt.EqAt A s v q.2 true → Hits A s xb r → Hits A s xb ((k, a, v) :: r)
theorem samePairsH {nm : String} {a b : Addr} {xa xb : List (K × Addr × Value)} {Q : Bool → Shared → Prop} (hu : knd.room A) (ha : (a == sysModules) = false) (hb : (b == sysModules) = false)
    (da : s.heap.DictOfH knd a xa) (db : s.heap.DictOfH knd b xb) (hl : xa.length = xb.length) (hits : Hits A s xb xa) (h : Q true s) :
    wpAny (model prog w) A (Builtin.Dict.samePairs nm a b) Q E s := by
  obtain ⟨oa, es, ep, hoa, _, hda, hea, hisa, _⟩ := da
  obtain ⟨ob, es', ep', hob, _, hdb, heb, hisb, hnb⟩ := db
  have hla : es.size = xa.length := size_of_entries hea
  have hlb : es'.size = xb.length := size_of_entries heb
  have hsz : es.size = es'.size := by omega
  unfold Builtin.Dict.samePairs Builtin.Dict.showsAll
  rw [if_neg (show ¬ (a == sysModules) = true by rw [ha]; exact Bool.false_ne_true), if_neg (show ¬ (b == sysModules) = true by rw [hb]; exact Bool.false_ne_true)]
  refine wpAny_bind (wpAny_pure (wpAny_bind (wpAny_pure ?_)))
  refine wpAny_bind (wpAny_dictEntries hoa hda ?_)
  dsimp only
  refine wpAny_bind (wpAny_dictEntries hob hdb ?_)
  rw [if_neg (by rw [hsz]; simp)]
  refine wpAny_bind (wpAny_dictEpoch hoa hda ?_)
  refine wpAny_bind ?_
  rw [Std.Legacy.Range.forIn_eq_forIn_range']
  simp only [Std.Legacy.Range.size, Nat.sub_zero, Nat.add_sub_cancel, Nat.div_one]
  refine wpAny_forIn_list _
    (fun rest q s' => s' = s ∧ q = (none, ()) ∧ ∃ i, rest = List.range' i (es.size - i) ∧ i ≤ es.size ∧ Hits A s xb (xa.drop i))
    _ ?_ ?_ _ _ ⟨rfl, rfl, 0, by simp, Nat.zero_le _, hits⟩
  · rintro x rest q s' ⟨rfl, rfl, i, hr, hi, hpre⟩
    have hlt : i < es.size := by
      rcases Nat.lt_or_ge i es.size with h | h
      · exact h
      · rw [Nat.sub_eq_zero_of_le h] at hr; simp at hr
    obtain ⟨rfl, hrest⟩ : x = i ∧ rest = List.range' (i + 1) (es.size - (i + 1)) := by
      have e : es.size - i = (es.size - (i + 1)) + 1 := by omega
      rw [e, List.range'_succ] at hr
      injection hr with h1 h2
      exact ⟨h1, h2⟩
    have hlt' : x < xa.length := by omega
    obtain ⟨k, ad, v, hkv⟩ : ∃ k ad v, xa[x] = (k, ad, v) := ⟨_, _, _, rfl⟩
    have hdrop : xa.drop x = (k, ad, v) :: xa.drop (x + 1) := by rw [← hkv]; exact List.drop_eq_getElem_cons hlt'
    have hent : es[x]? = some (entryOfKey knd (k, ad, v)) := by rw [entry_at hea x, List.getElem?_eq_getElem hlt', hkv]; rfl
    refine wpAny_bind (wpAny_dictEntries hoa hda ?_)
    rw [hent]
    have hkey : knd.is s'.heap k ad := by
      have := hisa xa[x] (List.getElem_mem hlt')
      rw [hkv] at this
      exact this
    rw [hdrop] at hpre
    cases hpre with
    | @hit _ _ _ qq _ hq he hrr =>
      show wpAny _ _ (holding [Value.ref ad, v] _ >>= _) _ _ _
      refine wpAny_bind (wpAny_holding (wpAny_bind (wpAny_dictFind_heap hu hkey hob hdb heb hisb hnb (fun hno => ?_) fun j p hj => ?_)))
      · rw [atKey_none_of_get hno] at hq; exact nomatch hq
      · rw [atKey_of_get hnb hj] at hq
        have ep2 : p = qq := Option.some.inj hq
        subst ep2
        refine wpAny_bind (wpAny_dictEntries hob hdb ?_)
        rw [entry_at heb j, hj]
        refine wpAny_holding (he prog w _ _ ?_)
        show wpAny _ _ (if (!true) = true then _ else _) _ _ _
        rw [if_neg (by decide)]
        refine wpAny_bind (wpAny_dictEpoch hoa hda ?_)
        rw [if_neg (by simp)]
        exact wpAny_pure ⟨rfl, rfl, x + 1, hrest, hlt, hrr⟩
  · rintro q s' ⟨rfl, rfl, i, hr, hi, hpre⟩
    exact wpAny_pure h
theorem neH {a b : Addr} {xa xb : List (K × Addr × Value)} {Q : Value → Shared → Prop} (hur : knd.room A.in1) (ha : (a == sysModules) = false) (hb : (b == sysModules) = false)
    (da : s.heap.DictOfH knd a xa) (db : s.heap.DictOfH knd b xb) (hu : A.units < cLine) (hl : xa.length = xb.length) (hits : Hits A.in1 s xb xa) (h : Q (.bool false) s) :
    wpAny (model prog w) A (compareOp .NotEq (.ref a) (.ref b)) Q E s := by
  refine wpAny_richCompare_same_room (op := .NotEq) da.typeIs db.typeIs PySem.F.slot_dict_ne (wpAny_call_entry PySem.F.slot_dict_ne da.typeIs PySem.F.entry_dict_ne ?_ (PySem.F.args_dict_ne_2 _ _)) hu
  show wpAny _ _ (Builtin.Dict.dictSlotArgs "__ne__" ⟨[.ref a, .ref b], []⟩ >>= _) _ _ s
  refine wpAny_bind ?_
  unfold Builtin.Dict.dictSlotArgs
  refine wpAny_bind (wpAny_notOrdered_dict da.typeIs ?_)
  show wpAny _ _ (pure (Value.ref a, Value.ref b)) _ _ s
  refine wpAny_pure ?_
  refine wpAny_bind (wpAny_isInstance (T := "dict") db.typeIs PySem.F.sub_dict_dict ?_)
  simp only [Bool.not_true, Bool.false_eq_true, if_false]
  refine wpAny_bind (wpAny_pure (wpAny_bind (wpAny_pure ?_)))
  refine wpAny_bind (samePairsH hur ha hb da db hl hits ?_)
  refine wpAny_pure ⟨_, rfl, ?_, ?_⟩
  · exact fun x => nomatch x
  · simpa using h
end
end DTQ
def rNeDT (K : PySem.W.Frag) : V → V → Hp → VK → Prop := fun x y H Q => ∃ (a b : Addr) (ka kb : List (List Key × V)), x = .ref a ∧ y = .ref b ∧ H a = some (.dT ka) ∧ H b = some (.dT kb) ∧ ka.length = kb.length ∧
  (∀ kv ∈ ka, ∃ v' d, valV kb kv.1 = some v' ∧ Dp K H kv.2 d ∧ Dp K H v' d ∧ d.canLay0 = true ∧ d.depth ≤ 40) ∧ Q (.bl false) H
theorem op_neDT {X : Cx} (hu : X.A.units + 64 < cLine) : OpR X (compareOp .NotEq) (rNeDT X.K) := by
  intro pins s σ H x y u v Q I rx ry h
  obtain ⟨a, b, ka, kb, rfl, rfl, hA, hB, hl, hv, q⟩ := h
  cases (show u = Value.ref a from rx)
  cases (show v = Value.ref b from ry)
  obtain ⟨_, na, xa, relA, da⟩ := dt_of I.hok hA
  obtain ⟨_, nb, xb, relB, db⟩ := dt_of I.hok hB
  have ha : ∀ {ks : List (List Key × V)} {xs : List (List Key × Addr × Value)}, KT H ks xs → (∀ kv ∈ ks, ∃ v' d, valV kb kv.1 = some v' ∧ Dp X.K H kv.2 d ∧ Dp X.K H v' d ∧ d.canLay0 = true ∧ d.depth ≤ 40) → DTQ.Hits X.A.in1 s xb xs := by
    intro ks xs r
    induction r with
    | nil => intro _; exact .nil
    | @cons p qq ps qs hq _ ih =>
      intro hv
      obtain ⟨v', d, e1, d1, d2, sh, dp⟩ := hv p List.mem_cons_self
      obtain ⟨k, ad, vv⟩ := qq
      obtain ⟨e0, _, r0⟩ := hq
      obtain ⟨w', hw, rw'⟩ := RelO.some_of (v := v') (o := (atKey xb p.1).map (·.2)) (by rw [← e1]; exact relB.val p.1)
      obtain ⟨pp, hp, hp2⟩ := Option.map_eq_some_iff.mp hw
      obtain ⟨as, ra⟩ := Dp.reads I d _ _ d1 r0
      obtain ⟨bs, rb⟩ := Dp.reads I d _ _ d2 rw'
      refine .hit (q := pp) (by rw [← hp, e0]) ?_ (ih fun kv m => hv kv (List.mem_cons_of_mem _ m))
      rw [hp2]
      have e := SeqAt.eqAt_reads d d X.A.in1 s _ _ as bs ra rb sh sh (by rw [Nat.min_self]; show X.A.units + 1 + d.depth < cLine; omega)
      rwa [SeqAt.eqv_refl d sh] at e
  refine DTQ.neH (tupleKind_room_in1 (by omega)) na nb da db (by omega) (by rw [← Paired.length relA, ← Paired.length relB]; exact hl) (ha relA hv) ⟨.bl false, H, I, rfl, q⟩
theorem op_neDTK {X : Cx} {K : PySem.W.Frag} (hu : X.A.units + 64 < cLine) (q : X.K = K := by rfl) : OpR X (compareOp .NotEq) (rNeDT K) := q ▸ op_neDT hu
/-! ### == and != of tuples of rows; comprehensions within comprehensions -/
theorem lookup_relabel2 {env : Env} : ∀ {names : List (Str × NameKind)} {x : Str}, (names.lookup x = some .cell ∨ names.lookup x = some .free) →
    ((names.map fun (n, k) => if (k == NameKind.free && env.scope.kind == .function && env.kindOf n == some .cell) then (n, NameKind.cell) else (n, k)).lookup x = some .cell ∨
    (names.map fun (n, k) => if (k == NameKind.free && env.scope.kind == .function && env.kindOf n == some .cell) then (n, NameKind.cell) else (n, k)).lookup x = some .free)
  | [], _, h => by simp at h
  | (n, k) :: r, x, h => by
    have ih := @lookup_relabel2 env r x
    by_cases hc : (k == NameKind.free && env.scope.kind == .function && env.kindOf n == some .cell) = true
    · rw [List.map_cons]
      simp only [hc, ↓reduceIte]
      cases hx : x == n with
      | true => exact .inl (by simp only [List.lookup_cons, hx])
      | false =>
        simp only [List.lookup_cons, hx] at h ⊢
        exact ih h
    · rw [List.map_cons]
      simp only [hc, ↓reduceIte, Bool.false_eq_true]
      cases hx : x == n with
      | true =>
        simp only [List.lookup_cons, hx] at h ⊢
        exact h
      | false =>
        simp only [List.lookup_cons, hx] at h ⊢
        exact ih h
theorem blkOk_in {N : List Str} {sc scope : Scope} {env : Env} {own : List (Str × Nat)} (h : blkC N sc scope own = true) : BlkOk N (relabel sc env) scope own := by
  have b := blkOk_by h
  exact ⟨b.kind, b.uniq, b.ix, fun y m e => lookup_relabel2 (b.free y m e), b.own⟩
def rwD (rows : List (List Int)) : PyData := .tuple (rows.map fun r => .tuple (r.map .int))
theorem eqvAll_map {α : Type} [DecidableEq α] {g : α → PyData} (h : ∀ x y, PyData.eqv (g x) (g y) = decide (x = y)) : ∀ a b : List α, PyData.eqvAll (a.map g) (b.map g) = decide (a = b)
  | [], [] => by simp [PyData.eqvAll]
  | [], y :: b => by simp [PyData.eqvAll]
  | x :: a, [] => by simp [PyData.eqvAll]
  | x :: a, y :: b => by
    rw [List.map_cons, List.map_cons, PyData.eqvAll, h, eqvAll_map h a b]
    simp [List.cons.injEq]
theorem eqv_rows (a b : List (List Int)) : PyData.eqv (rwD a) (rwD b) = decide (a = b) := by
  unfold rwD
  rw [PyData.eqv]
  refine eqvAll_map (fun x y => ?_) a b
  rw [PyData.eqv]
  refine eqvAll_map (fun i j => ?_) x y
  rw [PyData.eqv]
  by_cases c : i = j <;> simp [c]
theorem canLay_all {ds : List PyData} (h : ∀ d ∈ ds, d.canLay0 = true) : PyData.canLayAll0 ds = true := by
  induction ds with
  | nil => rw [PyData.canLayAll0]
  | cons d ds ih => rw [PyData.canLayAll0, h d List.mem_cons_self, ih fun e m => h e (List.mem_cons_of_mem _ m)]; rfl
theorem depth_all {ds : List PyData} {n : Nat} (h : ∀ d ∈ ds, d.depth ≤ n) : PyData.depthAll ds ≤ n := by
  induction ds with
  | nil => rw [PyData.depthAll]; exact Nat.zero_le _
  | cons d ds ih => rw [PyData.depthAll]; exact Nat.max_le.mpr ⟨h d List.mem_cons_self, ih fun e m => h e (List.mem_cons_of_mem _ m)⟩
theorem shaped_rows (a : List (List Int)) : SeqAt.shaped (rwD a) = true := by
  unfold SeqAt.shaped rwD
  rw [PyData.canLay0, PyData.depth]
  rw [canLay_all fun d m => ?_]
  · rw [Bool.true_and]
    refine decide_eq_true ?_
    have : PyData.depthAll (a.map fun r => PyData.tuple (r.map .int)) ≤ 1 := depth_all fun d m => by
      obtain ⟨r, _, rfl⟩ := List.mem_map.mp m
      rw [PyData.depth]
      have : PyData.depthAll (r.map .int) ≤ 0 := depth_all fun d m => by
        obtain ⟨i, _, rfl⟩ := List.mem_map.mp m
        rw [PyData.depth]; exact Nat.le_refl _
      omega
    omega
  · obtain ⟨r, _, rfl⟩ := List.mem_map.mp m
    rw [PyData.canLay0]
    refine canLay_all fun d m => ?_
    obtain ⟨i, _, rfl⟩ := List.mem_map.mp m
    rw [PyData.canLay0]
theorem DpAll.ints {K : PySem.W.Frag} {H : Hp} : ∀ r : List Int, DpAll K H (r.map V.int) (r.map PyData.int)
  | [] => .nil
  | i :: r => .cons (.int i) (DpAll.ints r)
theorem DpAll.rows {K : PySem.W.Frag} {H : Hp} : ∀ {us : List V} {rows : List (List Int)}, Rws H us rows → DpAll K H us (rows.map fun r => PyData.tuple (r.map .int))
  | [], [], _ => .nil
  | [], r :: rows, h => by have := h.1; simp at this
  | u :: us, [], h => by have := h.1; simp at this
  | u :: us, r :: rows, h => by
    obtain ⟨q, e, c, rfl, hc⟩ := h.2 0 u rfl
    obtain rfl : r = q := Option.some.inj e
    refine .cons (.tup (SqT.of hc) (DpAll.ints r)) (DpAll.rows ⟨by have := h.1; simp at this; exact this, fun i v e => h.2 (i + 1) v (by simpa using e)⟩)
theorem Dp.rows {K : PySem.W.Frag} {H : Hp} {a : Addr} {us : List V} {rows : List (List Int)} (h : H a = some (.tup us)) (r : Rws H us rows) : Dp K H (.ref a) (rwD rows) := .tup (SqT.of h) (DpAll.rows r)
theorem op_eqDK {X : Cx} {K : PySem.W.Frag} (hu : X.A.units + 64 < cLine) (q : X.K = K := by rfl) : OpR X (compareOp .Eq) (rEqD K) := q ▸ op_eqD hu
theorem op_neDK {X : Cx} {K : PySem.W.Frag} (hu : X.A.units + 64 < cLine) (q : X.K = K := by rfl) : OpR X (compareOp .NotEq) (rNeD K) := q ▸ op_neD hu
theorem r_eqR {K : PySem.W.Frag} {a b : Addr} {us vs : List V} {A B : List (List Int)} {H : Hp} {Q : VK} (h1 : H a = some (.tup us)) (r1 : Rws H us A) (h2 : H b = some (.tup vs)) (r2 : Rws H vs B) (q : Q (.bl (decide (A = B))) H) : rEqD K (.ref a) (.ref b) H Q :=
  ⟨_, _, Dp.rows h1 r1, Dp.rows h2 r2, shaped_rows _, shaped_rows _, by rw [eqv_rows]; exact q⟩
theorem r_neR {K : PySem.W.Frag} {a b : Addr} {us vs : List V} {A B : List (List Int)} {H : Hp} {Q : VK} (h1 : H a = some (.tup us)) (r1 : Rws H us A) (h2 : H b = some (.tup vs)) (r2 : Rws H vs B) (q : Q (.bl (!decide (A = B))) H) : rNeD K (.ref a) (.ref b) H Q :=
  ⟨_, _, Dp.rows h1 r1, Dp.rows h2 r2, shaped_rows _, shaped_rows _, by rw [eqv_rows]; exact q⟩
/-! ### {k: v} with a tuple for its key -/
def tDispT (tk tv : TE) : TE := fun σ H Q => ∀ p, H p = none → tPairs [(tk, tv)] σ (upd H p (.dT [])) fun ps H2 => ∃ (b : Addr) (ks : List Key) (y : V), ps = [(V.ref b, y)] ∧ H2 b = some (.tup (ks.map kV)) ∧ H2 p = some (.dT []) ∧ Q (.ref p) (upd H2 p (.dT [(ks, y)]))
theorem pe_dispT {X : Cx} {pos : Pos} {k v : Expr} {tk tv : TE} (hu : X.A.units + 1 < cLine) (hk : PE X k tk) (hv : PE X v tv) : PE X (.Dict [some k] [v] pos) (tDispT tk tv) := by
  refine ⟨fun pins s σ H Q I q => ?_⟩
  have hn := I.hok.fresh (Nat.le_refl s.heap.objs.size)
  have I1 := I.laid (a := s.heap.objs.size) (o := .dT []) (h' := s.heap.push { cls := .type "dict", data := .dict #[] }) (t' := s.toks) (fun _ _ q => Heap.get?_push_of_some _ q) (Nat.le_refl _) (dt_empty s.heap I.big)
  refine PySem.wpAny_Dict_any rfl rfl (by simp) (by show 1 ≤ 15; decide) (thn ((pps_cons hk hv pps_nil).run pins _ σ _ _ I1 (q _ hn)) fun ws s2 ⟨ps, H2, I2, rel, b, ks, y, ep, eb, e, q2⟩ => ?_)
  subst ep
  obtain ⟨ws1, rfl, ru, ry⟩ : ∃ r, ws = [(Value.ref b, r)] ∧ True ∧ RelV y r := by
    cases rel with
    | @cons a c as bs h t =>
      cases t
      obtain ⟨c1, c2⟩ := c
      cases (show c1 = Value.ref b from h.1)
      exact ⟨c2, rfl, trivial, h.2⟩
  obtain ⟨z, hd, xs, r0, dd⟩ := dt_of I2.hok e
  cases r0
  refine wpAny_storeAllH (knd := tupleKind (mixKind X.prog X.w)) (by show X.A.units < cLine; omega) [(Value.ref b, ws1)] [(ks, b, ws1)] [] s2 _ ⟨rfl, rfl, key_of I2.hok eb, trivial⟩ dd (by show 0 + 1 ≤ sizeLine; decide) fun h' tk hm' hs' => ⟨.ref s.heap.objs.size, _, ?_, rfl, q2⟩
  obtain ⟨qo, es, ep', hq, h2, h3, h4, _, h5⟩ := hm'
  have kt : KT H2 (putK [] ks y) (storedH [] ks b ws1) := KT.put (kvs := []) (xs := []) .nil ks eb ry
  refine d_write I2 (by rw [e]; exact True.intro) hs' ⟨qo, hq⟩ ⟨by show 1 ≤ sizeLine; decide, hd, _, kt.keeps fun c ys ec => ?_, qo, es, ep', hq, h2, h3, h4, h5⟩
  rw [upd_ne (ne_of ec e (fun z => nomatch z))]
  exact ec
local macro_rules | `(tactic| walk_at "ssz") => `(tactic| first | decide | exact str_small (by assumption) | (have : (1000000 : Nat) ≤ sizeLine := (by decide); omega))
local macro_rules | `(tactic| walk_at "st1") => `(tactic| first
  | with_reducible refine' r_nt ?_ | with_reducible refine' r_nf ?_
  | ((with_reducible refine r_lenS ?e1 ?_); (case e1 => walk_at "ssz"))
  | with_reducible refine r_inS ?_
  | with_reducible refine r_ninS ?_
  | ((with_reducible refine r_addS ?e1 ?_); (case e1 => walk_at "ssz"))
  | ((with_reducible refine' r_ixS ?e1 ?e2 ?_); (case e1 => walk_at "ssz"); (case e2 => first | assumption | rfl))
  | with_reducible refine r_istr ?_
  | with_reducible refine r_is ?_
  | with_reducible refine r_un ?_
  | with_reducible refine r_u ?_)
local macro_rules | `(tactic| walk_at "st1") => `(tactic| first
  | with_reducible refine r_tru ?_
  | ((with_reducible refine' r_truT ?e1 ?_); (case e1 => walk_at "sq"))
  | with_reducible refine r_isN ?_
  | with_reducible refine r_tyS ?_
  | with_reducible refine r_m1 ?_
  | with_reducible refine r_sx ?_
  | ((with_reducible refine r_strC ?e1 ?_); (case e1 => omega)))
local macro_rules | `(tactic| walk_at "st1") => `(tactic| first
  | with_reducible refine r_par ?_
  | with_reducible refine r_parx ?_
  | ((with_reducible refine' r_gtup ?e1 ?e2 ?_); (case e1 => walk_at "sq"); (case e2 => rfl))
  | with_reducible refine r_gcons ?_
  | with_reducible refine r_gnil ?_
  | with_reducible refine r_ient ?_
  | ((with_reducible refine' r_ent ?e1 ?_); (case e1 => walk_at "sq")))
local macro_rules | `(tactic| walk_at "st1") => `(tactic| first
  | with_reducible refine' r_nt ?_
  | with_reducible refine' r_nf ?_
  | with_reducible refine r_un ?_
  | with_reducible refine r_u ?_)
/-! ### the law -/
def repN (z : Str) (n : Nat) : Str := ⟨(List.replicate n z.cps).foldl (· ++ ·) #[]⟩
def rMulN : R2 := fun x y H Q => ∃ (z : Str) (k : Int), x = .str z ∧ y = .int k ∧ (2 ≤ k ∧ k ≤ 10000) ∧ (1 ≤ z.length ∧ z.length ≤ 100) ∧ (repN z k.toNat).length ≤ sizeLine ∧ Q (.str (repN z k.toNat)) H
theorem op_mulN {X : Cx} : OpR X (binaryOp .Mult) rMulN := by
  intro pins s σ H x y v u Q I rx ry h
  obtain ⟨z, k, rfl, rfl, hk, hz, hl, q⟩ := h
  obtain ⟨t, rfl⟩ := rx
  obtain ⟨t', rfl⟩ := ry
  have c1 : ¬ k < 1 := by omega
  have c2 : (k == 1 || z.length == 0) = false := by
    rw [Bool.or_eq_false_iff]
    exact ⟨beq_eq_false_iff_ne.mpr (by omega), beq_eq_false_iff_ne.mpr (by omega)⟩
  refine PySem.P.mul_str ?_ (fun _ _ => ?_) (fun _ _ => ?_) ?_
  · rw [decide_eq_false (by omega), decide_eq_false (by omega)]; rfl
  · have : (1000 : Int) ≤ (2 ^ 63 - 1) / k := (Int.le_ediv_iff_mul_le (by omega)).mpr (by omega)
    omega
  · exact decide_eq_false (Nat.not_lt.mpr (Nat.le_trans (Nat.mul_le_mul hz.2 (show k.toNat ≤ 10000 by omega)) (by decide)))
  · rw [if_neg c1, if_neg (by rw [c2]; decide)]
    exact ⟨hl, ⟨.str (repN z k.toNat), H, I.tok _, ⟨_, rfl⟩, q⟩⟩
theorem rep_one (c : Nat) : ∀ (n : Nat) (acc : Array Nat), ((List.replicate n #[c]).foldl (· ++ ·) acc).toList = acc.toList ++ List.replicate n c
  | 0, acc => by rw [List.replicate_zero, List.replicate_zero, List.append_nil]; rfl
  | n + 1, acc => by
    rw [List.replicate_succ, List.foldl_cons, rep_one c n (acc ++ #[c]), Array.toList_append, List.append_assoc]
    rfl
theorem rep_Sx (c n : Nat) : repN (Sx [c]) n = Sx (List.replicate n c) := by
  have e : cs (repN (Sx [c]) n) = List.replicate n c := by
    show ((List.replicate n #[c]).foldl (· ++ ·) #[]).toList = _
    rw [rep_one]; rfl
  rw [← Sx_cs (repN (Sx [c]) n), e]
theorem r_addX {H : Hp} {Q : VK} {a b : List Nat} (l : a.length + b.length ≤ 1000000) (q : Q (.str (Sx (a ++ b))) H) : rAddS (.str (Sx a)) (.str (Sx b)) H Q :=
  r_addS (by rw [Sx_len, Sx_len]; exact Nat.le_trans l (by decide)) (by rw [show Sx a ++ Sx b = Sx (a ++ b) from SX.S_cat a b]; exact q)
theorem spl_skip {s : Nat} : ∀ (xs acc r : List Nat), s ∉ xs → TL.spl [s] 0 acc (xs ++ r) = TL.spl [s] 0 (acc ++ xs) r
  | [], acc, r, _ => by rw [List.nil_append, List.append_nil]
  | c :: xs, acc, r, h => by
    have hc : ¬ s = c := fun e => h (by rw [e]; exact List.mem_cons_self)
    have hp : TL.pre [s] (c :: (xs ++ r)) = false := by
      simp [TL.pre]
      exact fun e => hc e.symm
    rw [List.cons_append]
    conv => lhs; unfold TL.spl
    rw [hp, if_neg (by decide), spl_skip xs (acc ++ [c]) r fun m => h (List.mem_cons_of_mem _ m), List.append_assoc]
    rfl
theorem spl_cut {s : Nat} (acc r : List Nat) : TL.spl [s] 0 acc (s :: r) = acc :: TL.spl [s] 0 [] r := by
  conv => lhs; unfold TL.spl
  rw [if_pos (by simp [TL.pre])]
  rfl
theorem spl_end {s : Nat} (acc : List Nat) : TL.spl [s] 0 acc [] = [acc] := by unfold TL.spl; rfl
theorem spl_all {s : Nat} (xs : List Nat) (h : s ∉ xs) : TL.spl [s] 0 [] xs = [xs] := by
  have e := spl_skip xs [] [] h
  rw [List.append_nil, List.nil_append, spl_end] at e
  exact e
theorem big_fig {g : List Nat} (l : g.length = 5000) : figC g 5 = none := by
  unfold figC
  rw [if_neg fun z => by have := z.1.2; rw [l] at this; exact absurd this (by decide)]
theorem big1 {g : List Nat} (l : g.length = 5000) (h : ∀ c ∈ g, c = 57) : rowsT ([112, 97, 105, 114, 32, 48, 32] ++ g ++ [10]) = [[112, 97, 105, 114, 32, 48, 32] ++ g] ∧ readT ([112, 97, 105, 114, 32, 48, 32] ++ g ++ [10]) = .inl 0 := by
  have n10 : 10 ∉ [112, 97, 105, 114, 32, 48, 32] ++ g := fun m => by
    rcases List.mem_append.mp m with m | m
    · exact absurd m (by decide)
    · exact absurd (h _ m) (by decide)
  have n32 : 32 ∉ g := fun m => absurd (h _ m) (by decide)
  have e1 : TL.spl [10] 0 [] ([112, 97, 105, 114, 32, 48, 32] ++ g ++ [10]) = [[112, 97, 105, 114, 32, 48, 32] ++ g, []] := by
    rw [spl_skip _ _ _ n10, spl_cut, spl_end, List.nil_append]
  have er : rowsT ([112, 97, 105, 114, 32, 48, 32] ++ g ++ [10]) = [[112, 97, 105, 114, 32, 48, 32] ++ g] := by
    unfold rowsT
    rw [e1]; rfl
  refine ⟨er, ?_⟩
  have e2 : TL.spl [32] 0 [] ([112, 97, 105, 114, 32, 48, 32] ++ g) = [pairS, [48], g] := by
    have a1 := spl_skip (s := 32) [112, 97, 105, 114] [] (32 :: ([48] ++ (32 :: g))) (by decide)
    have a2 := spl_skip (s := 32) [48] [] (32 :: g) (by decide)
    rw [spl_cut] at a1 a2
    rw [a2, spl_all g n32] at a1
    exact a1
  have e3 : readRow [] ([112, 97, 105, 114, 32, 48, 32] ++ g) = none := by
    unfold readRow
    rw [e2, show ([pairS, [48], g] : List (List Nat)).head? = some pairS from rfl, if_pos rfl]
    have : numsC [[48], g] = none := nums_none (p := g) (by simp) (big_fig l)
    show pairOf [] (numsC [[48], g]) = none
    rw [this]; rfl
  unfold readT
  rw [er, readRows_bad e3]
theorem big2 {g : List Nat} (l : g.length = 5000) (h : ∀ c ∈ g, c = 57) : rowsT ([112, 97, 105, 114, 32, 48, 32, 48, 10] ++ g ++ [10]) = [[112, 97, 105, 114, 32, 48, 32, 48], g] ∧ readT ([112, 97, 105, 114, 32, 48, 32, 48, 10] ++ g ++ [10]) = .inl 1 := by
  have n10 : 10 ∉ g := fun m => absurd (h _ m) (by decide)
  have n32 : 32 ∉ g := fun m => absurd (h _ m) (by decide)
  have e1 : TL.spl [10] 0 [] ([112, 97, 105, 114, 32, 48, 32, 48, 10] ++ g ++ [10]) = [[112, 97, 105, 114, 32, 48, 32, 48], g, []] := by
    have a1 := spl_skip (s := 10) [112, 97, 105, 114, 32, 48, 32, 48] [] (10 :: (g ++ [10])) (by decide)
    rw [spl_cut, spl_skip g [] [10] n10, spl_cut, spl_end] at a1
    have e : [112, 97, 105, 114, 32, 48, 32, 48, 10] ++ g ++ [10] = [112, 97, 105, 114, 32, 48, 32, 48] ++ 10 :: (g ++ [10]) := by simp
    rw [e, a1]; rfl
  have er : rowsT ([112, 97, 105, 114, 32, 48, 32, 48, 10] ++ g ++ [10]) = [[112, 97, 105, 114, 32, 48, 32, 48], g] := by
    unfold rowsT
    rw [e1]; rfl
  refine ⟨er, ?_⟩
  have e2 : readRow [] [112, 97, 105, 114, 32, 48, 32, 48] = some [((0, 0), [])] := by decide +kernel
  have e3 : readRow [((0, 0), [])] g = none := by
    unfold readRow
    rw [spl_all g n32]
    have ng : ¬ g = pairS := fun e => by rw [e] at l; exact absurd l (by decide)
    rw [show ([g] : List (List Nat)).head? = some g from rfl, if_neg fun e => ng (Option.some.inj e)]
    rw [nums_none (p := g) (by simp) (big_fig l)]
    rfl
  unfold readT
  rw [er, readRows_good e2, readRows_bad e3]
theorem rows_le (a : List Nat) : (rowsT a).length ≤ a.length + 1 := by
  have h := spl_size (S := [10]) 0 [] a
  unfold rowsT
  split
  · rw [List.length_dropLast]; omega
  · exact h
theorem readRows_low : ∀ {rs : List (List Nat)} {n k : Nat} {d d' : Sheet}, Low n d → readRows d k rs = .inr d' → Low (n + rs.length) d'
  | [], n, k, d, d', h, e => by
    obtain rfl : d = d' := Sum.inr.inj e
    exact h
  | a :: rs, n, k, d, d', h, e => by
    cases er : readRow d a with
    | none => rw [readRows_bad er] at e; cases e
    | some d2 =>
      rw [readRows_good er] at e
      have := readRows_low (h.row er) e
      rw [List.length_cons, show n + (rs.length + 1) = n + 1 + rs.length by omega]
      exact this
theorem readT_nd {a : List Nat} {sh : Sheet} (e : readT a = .inr sh) : (sh.map fun x => x.1).Nodup := by
  unfold readT at e
  cases er : readRows [] 0 (rowsT a) with
  | inl k => rw [er] at e; cases e
  | inr d =>
    rw [er] at e
    have e : (if wholeT a = true then (Sum.inr d : Nat ⊕ Sheet) else .inl (rowsT a).length) = .inr sh := e
    split at e
    · obtain rfl := Sum.inr.inj e
      exact (readRows_low Low.zero er).nd
    · cases e
theorem valV_at : ∀ {kvs : List (List Key × V)} {i : Nat} {kv : List Key × V}, (kvs.map fun kv => kv.1).Nodup → kvs[i]? = some kv → valV kvs kv.1 = some kv.2
  | [], i, kv, _, e => by simp at e
  | p :: r, 0, kv, _, e => by
    obtain rfl := Option.some.inj e
    exact valV_pos rfl
  | p :: r, i + 1, kv, h, e => by
    have e : r[i]? = some kv := by simpa using e
    rw [List.map_cons, List.nodup_cons] at h
    have ne : p.1 ≠ kv.1 := fun z => h.1 (by rw [z]; exact List.mem_map.mpr ⟨kv, List.mem_of_getElem? e, rfl⟩)
    have ih := valV_at h.2 e
    unfold valV at ih ⊢
    rw [List.find?_cons, decide_eq_false ne]
    exact ih
def rNeIT (K : PySem.W.Frag) : R2 := fun x y H Q => rNe x y H Q ∨ rNeDT K x y H Q
theorem op_neITK {X : Cx} {K : PySem.W.Frag} (hu : X.A.units + 64 < cLine) (q : X.K = K := by rfl) : OpR X (compareOp .NotEq) (rNeIT K) := by
  subst q
  intro pins s σ H x y v u Q I rx ry h
  rcases h with h | h
  · exact op_ne pins s σ H x y v u Q I rx ry h
  · exact op_neDT hu pins s σ H x y v u Q I rx ry h
theorem r_neSh {K : PySem.W.Frag} {H : Hp} {Q : VK} {m d : Addr} {sh : Sheet} (hm : ShD H m sh) (hd : ShD H d sh) (nd : (sh.map fun x => x.1).Nodup) (q : Q (.bl false) H) : rNeIT K (.ref m) (.ref d) H Q := by
  obtain ⟨ka, hA, sa⟩ := hm
  obtain ⟨kb, hB, sb⟩ := hd
  refine .inr ⟨m, d, ka, kb, rfl, rfl, hA, hB, by rw [sa.1, sb.1], fun kv hkv => ?_, q⟩
  obtain ⟨i, e⟩ := List.getElem?_of_mem hkv
  obtain ⟨x, ex, ek, t, et, us, hus, rus⟩ := sa.2 i kv e
  have lt : i < kb.length := by
    rw [sb.1]; exact (List.getElem?_eq_some_iff.mp ex).1
  obtain ⟨y, ey, ek2, t2, et2, us2, hus2, rus2⟩ := sb.2 i kb[i] (List.getElem?_eq_getElem lt)
  obtain rfl : x = y := Option.some.inj (ex.symm.trans ey)
  have ndk : (kb.map fun kv => kv.1).Nodup := by
    rw [sb.keys]
    have e2 : (sh.map fun x => keyP x.1) = (sh.map fun x => x.1).map keyP := by rw [List.map_map]; rfl
    rw [e2]
    exact List.Pairwise.map keyP (fun a b h e => h (keyP_inj e)) nd
  have ev := valV_at ndk (List.getElem?_eq_getElem lt)
  have shp := shaped_rows x.2
  refine ⟨.ref t2, rwD x.2, by rw [ek, ← ek2, ev, et2], by rw [et]; exact Dp.rows hus rus, Dp.rows hus2 rus2, SeqAt.canLay_of_shaped shp, ?_⟩
  unfold rwD
  rw [PyData.depth]
  have : PyData.depthAll (x.2.map fun r => PyData.tuple (r.map .int)) ≤ 1 := depth_all fun d m => by
    obtain ⟨r, _, rfl⟩ := List.mem_map.mp m
    rw [PyData.depth]
    have : PyData.depthAll (r.map .int) ≤ 0 := depth_all fun d m => by
      obtain ⟨i, _, rfl⟩ := List.mem_map.mp m
      rw [PyData.depth]; exact Nat.le_refl _
    omega
  omega
theorem r_joinAB {A B C : TS} {D : Ends} {σ : L2.St} {H : Hp} (G : L2.St → Hp → Prop) (h2 : ∀ σ' H', G σ' H' → C D σ' H') (h1 : ∀ N : L2.St → Hp → Prop, (∀ σ' H', G σ' H' → N σ' H') → tSeq A B { D with nx := N } σ H) : tSeq A (tSeq B C) D σ H := h1 (C D) h2
local macro_rules | `(tactic| walk_at "ty") => `(tactic| (refine' TyX.base (.dT ?h1); (case h1 => walk_at "hl")))
theorem r_tp1 {tk tv : TE} {r : List (TE × TE)} {σ : L2.St} {H : Hp} {R : List (V × V) → Hp → Prop} (h : tk σ H fun x H1 => tv σ H1 fun y H2 => tPairs r σ H2 fun ps H3 => R ((x, y) :: ps) H3) : tPairs ((tk, tv) :: r) σ H R := h
theorem r_tp0 {σ : L2.St} {H : Hp} {R : List (V × V) → Hp → Prop} (h : R [] H) : tPairs [] σ H R := h
def sp_law (K : PySem.W.Frag) : Sp := fun vs H Q _ => ∃ (a : Addr) (ns : List Int), vs = [.ref a] ∧ SqL K H a (ns.map .int) ∧ ns.length ≤ 63 ∧ ∀ H', Q (.bl true) H'
section
variable {P : Program} {w : World} {K : PySem.W.Frag} {mg : Str → Option Value} {base : Heap}
set_option maxHeartbeats 0 in
theorem ok_law {c_PaperReader : Addr} {c_TraceError : Addr} {c_NoText : Addr} {c_NoFlow : Addr} {c_NoUnit : Addr} (T : Tx K mg c_PaperReader c_TraceError c_NoText c_NoFlow c_NoUnit) {f_law_state : Addr} {fd_law_state : FuncData} (C_law_state : Cal P w K mg base "_law_state" 1 ["script"] (sp_law_state K) s_law_state f_law_state fd_law_state) {f_law_text : Addr} {fd_law_text : FuncData} (C_law_text : Cal P w K mg base "_law_text" 2 ["state"] (sp_law_text K) s_law_text f_law_text fd_law_text) {f_law_tried : Addr} {fd_law_tried : FuncData} (C_law_tried : Cal P w K mg base "_law_tried" 6 ["thing"] (sp_law_tried K) s_law_tried f_law_tried fd_law_tried) {f_law_draw : Addr} {fd_law_draw : FuncData} (C_law_draw : Cal P w K mg base "_law_draw" 1 ["state", "many"] (sp_law_draw K) s_law_draw f_law_draw fd_law_draw) {f_law_bent : Addr} {fd_law_bent : FuncData} (C_law_bent : Cal P w K mg base "_law_bent" 2 ["state", "written"] (sp_law_bent K) s_law_bent f_law_bent fd_law_bent) {f_law_read : Addr} {fd_law_read : FuncData} (C_law_read : Cal P w K mg base "_law_read" 2 ["written"] (sp_law_read K) s_law_read f_law_read fd_law_read) {f : Addr} {fd : FuncData} (F : Here K mg "law" s_law ["script"] f fd) : Cal P w K mg base "law" 7 ["script"] (sp_law K) s_law f fd := by
  refine F.cal sc_law (fun vs H Q E h => ?_) (fun cdv A outer s' H vs Q E hr h => ?_)
  · obtain ⟨a, ns, rfl, _⟩ := h
    rfl
  · obtain ⟨a, ns, rfl, hS, hlen, q⟩ := h
    refine ⟨_, (pss_cons (ps_set (i := 1) sc_law.nd rfl (by first | exact .inl rfl | exact .inr rfl) (pe_call C_law_state.ok (hr.mono (by decide)) (by rfl) C_law_state.at_ C_law_state.kp C_law_state.b .nil pass0 (pa_cons (pv 0) pa_nil)))
      (pss_cons (ps_set (i := 2) sc_law.nd rfl (by first | exact .inl rfl | exact .inr rfl) (pe_op op_mulN pe_str pe_int))
      (pss_cons (ps_if (pt_cmpR (op_neDK (K := K) (hu_of64 hr)) (pe_lst (pa_cons (pe_call C_law_tried.ok (hr.mono (by decide)) (by rfl) C_law_tried.at_ C_law_tried.kp C_law_tried.b .nil pass0 (pa_cons (pe_op op_addS (pe_op op_addS pe_str (pv 2)) pe_str) pa_nil)) (pa_cons (pe_call C_law_tried.ok (hr.mono (by decide)) (by rfl) C_law_tried.at_ C_law_tried.kp C_law_tried.b .nil pass0 (pa_cons (pe_op op_addS (pe_op op_addS pe_str (pv 2)) pe_str) pa_nil)) pa_nil))) (pe_lst (pa_cons pe_int (pa_cons pe_int pa_nil))) (nomark _)) (pss_one (ps_ret pe_bl)) pss_nil)
      (pss_cons (ps_for PassesOwn.never rfl (pi_range1 (by rfl) T.m_range (pa_cons pe_int pa_nil)) (pg_name (i := 3) sc_law.nd rfl (by first | exact .inl rfl | exact .inr rfl)) (pss_cons (ps_set (i := 4) sc_law.nd rfl (by first | exact .inl rfl | exact .inr rfl) (pe_call C_law_text.ok (hr.mono (by decide)) (by rfl) C_law_text.at_ C_law_text.kp C_law_text.b .nil pass0 (pa_cons (pv 1) pa_nil)))
      (pss_cons (ps_for PassesOwn.never rfl (pi_range1 (by rfl) T.m_range (pa_cons (pe_call C_law_draw.ok (hr.mono (by decide)) (by rfl) C_law_draw.at_ C_law_draw.kp C_law_draw.b .nil pass0 (pa_cons (pv 1) (pa_cons pe_int pa_nil))) pa_nil)) (pg_name (i := 5) sc_law.nd rfl (by first | exact .inl rfl | exact .inr rfl)) (pss_one (ps_set (i := 4) sc_law.nd rfl (by first | exact .inl rfl | exact .inr rfl) (pe_call C_law_bent.ok (hr.mono (by decide)) (by rfl) C_law_bent.at_ C_law_bent.kp C_law_bent.b .nil pass0 (pa_cons (pv 1) (pa_cons (pv 4) pa_nil))))))
      (pss_cons (ps_par (i := 6) (j := 7) rfl sc_law.nd rfl rfl (by decide) rfl rfl (pa_cons (pe_call C_law_read.ok (hr.mono (by decide)) (by rfl) C_law_read.at_ C_law_read.kp C_law_read.b .nil pass0 (pa_cons (pv 4) pa_nil)) (pa_cons (pe_call C_law_tried.ok (hr.mono (by decide)) (by rfl) C_law_tried.at_ C_law_tried.kp C_law_tried.b .nil pass0 (pa_cons (pv 4) pa_nil)) pa_nil)) (by rfl))
      (pss_cons (ps_if (PW.pt (pw_or (pt_cmpR op_ne (pe_callB (cr_isiK (K := K)) (by rfl) T.m_isinstance (by decide +kernel) (pa_cons (pv 6) (pa_cons (pe_bltn (v := .ty "int") (by rfl) T.m_int (by decide +kernel) rfl) pa_nil))) (pe_callB (cr_isiK (K := K)) (by rfl) T.m_isinstance (by decide +kernel) (pa_cons (pv 7) (pa_cons (pe_bltn (v := .ty "int") (by rfl) T.m_int (by decide +kernel) rfl) pa_nil))) (nomark _)) (pw_or1 (pt_cmpR (op_neITK (K := K) (hu_of64 hr)) (pv 7) (pv 6) (nomark _))))) (pss_one (ps_ret pe_bl)) pss_nil)
      (pss_cons (ps_set (i := 8) sc_law.nd rfl (by first | exact .inl rfl | exact .inr rfl) (pe_lst (pa_cons pe_non (pa_cons pe_int (pa_cons pe_bl (pa_cons (pe_lst (pa_cons pe_str pa_nil)) (pa_cons (pe_tup (pa_cons pe_str pa_nil)) (pa_cons pe_dnewK (pa_cons (pe_dispT (hu_of hr) (pe_tup (pa_cons pe_int (pa_cons pe_int pa_nil))) (pe_tup pa_nil)) pa_nil)))))))))
      (pss_cons (ps_set (i := 7) sc_law.nd rfl (by first | exact .inl rfl | exact .inr rfl) (pe_call C_law_tried.ok (hr.mono (by decide)) (by rfl) C_law_tried.at_ C_law_tried.kp C_law_tried.b .nil pass0 (pa_cons (pe_ix (ix_listK (K := K)) (pv 8) (pe_call C_law_draw.ok (hr.mono (by decide)) (by rfl) C_law_draw.at_ C_law_draw.kp C_law_draw.b .nil pass0 (pa_cons (pv 1) (pa_cons pe_int pa_nil))) (fun _ _ => rfl)) pa_nil)))
      (pss_one (ps_if (PW.pt (pw_or (pt_not (pt_val (pe_callB (cr_isiK (K := K)) (by rfl) T.m_isinstance (by decide +kernel) (pa_cons (pv 7) (pa_cons (pe_bltn (v := .ty "int") (by rfl) T.m_int (by decide +kernel) rfl) pa_nil))))) (pw_or1 (pt_cmpR op_ne (pv 7) pe_int (nomark _))))) (pss_one (ps_ret pe_bl)) pss_nil)))))))))
      (pss_one (ps_ret pe_bl)))))), ?_⟩
    walk_at "st"
    refine ⟨a, ns, rfl, hS, hlen, fun s c H1 s1 st1 => ?_⟩
    walk_at "st"
    have e9 : repN (Str.ofString "9") (5000 : Int).toNat = Sx (List.replicate 5000 57) := rep_Sx 57 5000
    obtain ⟨g, hg⟩ : ∃ g, g = List.replicate 5000 57 := ⟨_, rfl⟩
    rw [← hg] at e9
    have lg : g.length = 5000 := by rw [hg, List.length_replicate]
    have hc : ∀ c ∈ g, c = 57 := fun c m => by rw [hg] at m; exact (List.mem_replicate.mp m).2
    clear hg
    refine ⟨Str.ofString "9", 5000, rfl, rfl, by omega, by decide, by rw [e9, Sx_len, lg]; decide, ?_⟩
    rw [e9]
    obtain ⟨b1, b2⟩ := big1 lg hc
    obtain ⟨b3, b4⟩ := big2 lg hc
    walk_at "st"
    walk_at "if"
    refine r_addX (a := [112, 97, 105, 114, 32, 48, 32]) (by rw [lg]; decide) ?_
    walk_at "st"
    refine r_addX (b := [10]) (by rw [List.length_append, lg]; decide) ?_
    refine ⟨_, rfl, .inl ⟨_, rfl, by rw [List.length_append, List.length_append, lg]; decide, by rw [b1]; show 1 ≤ 2900; decide, fun k e H2 s2 => ?_, fun sh e => by rw [b2] at e; cases e⟩⟩
    obtain rfl : 0 = k := Sum.inl.inj (b2.symm.trans e)
    walk_at "st"
    refine r_addX (a := [112, 97, 105, 114, 32, 48, 32, 48, 10]) (by rw [lg]; decide) ?_
    walk_at "st"
    refine r_addX (b := [10]) (by rw [List.length_append, lg]; decide) ?_
    refine ⟨_, rfl, .inl ⟨_, rfl, by rw [List.length_append, List.length_append, lg]; decide, by rw [b3]; show 2 ≤ 2900; decide, fun k e H3 s3 => ?_, fun sh e => by rw [b4] at e; cases e⟩⟩
    obtain rfl : 1 = k := Sum.inl.inj (b4.symm.trans e)
    have st3 := (st1.same s2).same s3
    clear st1 s1 s2 s3 b1 b2 b3 b4 e9
    walk_at "st"
    intro l1 hl1
    walk_at "st"
    intro l2 hl2
    walk_at "st"
    refine ⟨.list [.int 0, .int 1], .list [.int 0, .int 1], .lst (SqL.of (hl_new upd_same hl2)) (.cons (.int 0) (.cons (.int 1) .nil)), .lst (SqL.of upd_same) (.cons (.int 0) (.cons (.int 1) .nil)), by decide, by decide, ?_⟩
    have st5 := (st3.new (x := .lst [.int 0, .int 1]) hl1).new (x := .lst [.int 0, .int 1]) hl2
    generalize upd (upd H3 l1 (.lst [.int 0, .int 1])) l2 (.lst [.int 0, .int 1]) = H5 at *
    refine ⟨false, congrArg V.bl (congrArg not (SeqAt.eqv_refl _ (by decide))), ?_⟩
    rw [if_neg (by decide)]
    walk_at "st"
    refine lp_by (walk_range (lo := 0) (n := Int.toNat 6)) (fun i σ' H' => ∃ x3 x4 x5 x6 x7 x8, σ' = [some (.ref a), some (.ref s), some (.str (Sx g)), x3, x4, x5, x6, x7, x8] ∧ St s c H') ⟨_, _, _, _, _, _, rfl, st5⟩ (fun _ _ _ _ _ => trivial) (fun i x σ' H6 H6' hi p y => ?_) (fun σ' H6 p => ?_)
    · obtain ⟨x3, x4, x5, x6, x7, x8, rfl, st6⟩ := p
      obtain ⟨rfl, rfl⟩ := y
      walk_at "st"
      refine ⟨s, c, rfl, st6, fun z0 H7 k7 st7 lz0 => ?_⟩
      walk_at "st"
      refine ⟨s, c, 3, rfl, st7, by omega, fun d8 H8 k8 st8 hd8 => ?_⟩
      walk_at "st"
      refine lp_by (walk_range (lo := 0) (n := d8.toNat)) (fun j σ' H' => ∃ (z : Str) (y5 : Option V), σ' = [some (.ref a), some (.ref s), some (.str (Sx g)), some (.int (0 + (i : Int))), some (.str z), y5, x6, x7, x8] ∧ St s c H' ∧ LeS (645 * 2 ^ j - 20) z)
        ⟨_, _, rfl, st8, lz0⟩ (fun _ _ _ _ _ => trivial) (fun j x σ' H9 H9' hj p y => ?_) (fun σ' H9 p => ?_)
      · obtain ⟨z, y5, rfl, st9, lz⟩ := p
        obtain ⟨rfl, rfl⟩ := y
        have hj2 : j = 0 ∨ j = 1 := by omega
        have lz1 : z.length ≤ 645 * 2 ^ j - 20 := lz
        have l2 : z.length ≤ 2000 := by rcases hj2 with rfl | rfl <;> omega
        walk_at "st"
        refine ⟨s, c, z, rfl, st9, l2, fun z2 H10 k10 st10 lz2 => ?_⟩
        walk_at "st"
        refine ⟨z2, _, rfl, st10, lz2.mono ?_⟩
        rcases hj2 with rfl | rfl <;> omega
      · obtain ⟨z, y5, rfl, st9, lz⟩ := p
        have lz3 : z.length ≤ 2560 := by
          have lz1 : z.length ≤ 645 * 2 ^ d8.toNat - 20 := lz
          have h : d8.toNat = 0 ∨ d8.toNat = 1 ∨ d8.toNat = 2 := by omega
          rcases h with h | h | h <;> rw [h] at lz1 <;> omega
        dsimp only
        refine r_joinAB (fun σ' H' => ∃ x6 x7, σ' = [some (.ref a), some (.ref s), some (.str (Sx g)), some (.int (0 + (i : Int))), some (.str z), y5, x6, x7, x8] ∧ St s c H') (fun σ' HA g => ?_) (fun N hN => ?_)
        case refine_2 =>
          have zc : Sx (cs z) = z := Sx_cs z
          have lc : (cs z).length ≤ 2560 := by rw [cs_len]; exact lz3
          have lr := rows_le (cs z)
          cases hT : readT (cs z) with
          | inl k =>
            walk_at "st"
            refine ⟨cs z, by rw [zc]; rfl, by omega, by omega, fun k' e H10 s10 => ?_, fun sh e => by rw [hT] at e; cases e⟩
            obtain rfl := Sum.inl.inj (hT.symm.trans e)
            walk_at "st"
            refine ⟨_, rfl, .inl ⟨cs z, by rw [zc], by omega, by omega, fun k' e H11 s11 => ?_, fun sh e => by rw [hT] at e; cases e⟩⟩
            obtain rfl := Sum.inl.inj (hT.symm.trans e)
            walk_at "st"
            walk_at "if"
            rw [if_neg (by simp)]
            walk_at "st"
            refine .inl ⟨rfl, false, by simp, ?_⟩
            rw [if_neg (by decide)]
            walk_at "st"
            exact hN _ _ ⟨_, _, rfl, (st9.same s10).same s11⟩
          | inr sh =>
            have nd := readT_nd hT
            walk_at "st"
            refine ⟨cs z, by rw [zc]; rfl, by omega, by omega, fun k' e => (nomatch (hT.symm.trans e)), fun sh' e d H10 s10 nd1 hd1 => ?_⟩
            obtain rfl := Sum.inr.inj (hT.symm.trans e)
            walk_at "st"
            refine ⟨_, rfl, .inl ⟨cs z, by rw [zc], by omega, by omega, fun k' e => (nomatch (hT.symm.trans e)), fun sh' e m H11 s11 nd2 hd2 => ?_⟩⟩
            obtain rfl := Sum.inr.inj (hT.symm.trans e)
            replace hd1 := hd1.same s11
            obtain ⟨k1, hk1, sv1⟩ := id hd1
            obtain ⟨k2, hk2, sv2⟩ := id hd2
            walk_at "st"
            walk_at "if"
            rw [if_neg (by simp)]
            walk_at "st"
            refine r_neSh hd2 hd1 nd ⟨false, rfl, ?_⟩
            rw [if_neg (by decide)]
            walk_at "st"
            exact hN _ _ ⟨_, _, rfl, (st9.same s10).same s11⟩
        obtain ⟨y6, y7, rfl, stA⟩ := g
        walk_at "st"
        intro p1 hp1
        have o1 := stA.out hp1
        have e1 : upd HA p1 (.lst [V.str (Str.ofString "pair 0 0")]) p1 = some (.lst [V.str (Str.ofString "pair 0 0")]) := upd_same
        replace stA := stA.new (x := .lst [V.str (Str.ofString "pair 0 0")]) hp1
        generalize upd HA p1 (.lst [V.str (Str.ofString "pair 0 0")]) = HB at *
        walk_at "st"
        intro p2 hp2
        have o2 := stA.out hp2
        replace e1 := hl_new (u := .tup [V.str (Str.ofString "pair 0 0\n")]) e1 hp2
        have e2 : upd HB p2 (.tup [V.str (Str.ofString "pair 0 0\n")]) p2 = some (.tup [V.str (Str.ofString "pair 0 0\n")]) := upd_same
        replace stA := stA.new (x := .tup [V.str (Str.ofString "pair 0 0\n")]) hp2
        generalize upd HB p2 (.tup [V.str (Str.ofString "pair 0 0\n")]) = HC at *
        walk_at "st"
        intro p3 hp3
        have o3 := stA.out hp3
        replace e1 := hl_new (u := .dK []) e1 hp3
        replace e2 := hl_new (u := .dK []) e2 hp3
        have e3 : upd HC p3 (.dK []) p3 = some (.dK []) := upd_same
        replace stA := stA.new (x := .dK []) hp3
        generalize upd HC p3 (.dK []) = HD at *
        walk_at "st"
        intro p4 hp4
        have o4 := stA.out hp4
        replace e1 := hl_new (u := .dT []) e1 hp4
        replace e2 := hl_new (u := .dT []) e2 hp4
        replace e3 := hl_new (u := .dT []) e3 hp4
        have e4 : upd HD p4 (.dT []) p4 = some (.dT []) := upd_same
        replace stA := stA.new (x := .dT []) hp4
        generalize upd HD p4 (.dT []) = HE at *
        refine r_tp1 ?_
        walk_at "st"
        intro p5 hp5
        replace e1 := hl_new (u := .tup [.int 0, .int 0]) e1 hp5
        replace e2 := hl_new (u := .tup [.int 0, .int 0]) e2 hp5
        replace e3 := hl_new (u := .tup [.int 0, .int 0]) e3 hp5
        replace e4 := hl_new (u := .tup [.int 0, .int 0]) e4 hp5
        have e5 : upd HE p5 (.tup [.int 0, .int 0]) p5 = some (.tup [.int 0, .int 0]) := upd_same
        replace stA := stA.new (x := .tup [.int 0, .int 0]) hp5
        generalize upd HE p5 (.tup [.int 0, .int 0]) = HF at *
        walk_at "st"
        intro p6 hp6
        replace e1 := hl_new (u := .tup []) e1 hp6
        replace e2 := hl_new (u := .tup []) e2 hp6
        replace e3 := hl_new (u := .tup []) e3 hp6
        replace e4 := hl_new (u := .tup []) e4 hp6
        replace e5 := hl_new (u := .tup []) e5 hp6
        replace stA := stA.new (x := .tup []) hp6
        generalize upd HF p6 (.tup []) = HG at *
        refine r_tp0 ?_
        refine ⟨p5, [Sum.inl 0, Sum.inl 0], .ref p6, rfl, e5, e4, ?_⟩
        have n1 : p1 ≠ p4 := fun z => by rw [← z, e1] at e4; cases e4
        have n2 : p2 ≠ p4 := fun z => by rw [← z, e2] at e4; cases e4
        have n3 : p3 ≠ p4 := fun z => by rw [← z, e3] at e4; cases e4
        replace e1 := hl_set (u := .dT [([Sum.inl 0, Sum.inl 0], V.ref p6)]) n1 e1
        replace e2 := hl_set (u := .dT [([Sum.inl 0, Sum.inl 0], V.ref p6)]) n2 e2
        replace e3 := hl_set (u := .dT [([Sum.inl 0, Sum.inl 0], V.ref p6)]) n3 e3
        have e4' : upd HG p4 (.dT [([Sum.inl 0, Sum.inl 0], V.ref p6)]) p4 = some (.dT [([Sum.inl 0, Sum.inl 0], V.ref p6)]) := upd_same
        replace stA := stA.set (x := .dT [([Sum.inl 0, Sum.inl 0], V.ref p6)]) o4
        generalize upd HG p4 (.dT [([Sum.inl 0, Sum.inl 0], V.ref p6)]) = HI at *
        walk_at "st"
        intro po hpo
        generalize hod : ([.non, .int 0, .bl true, .ref p1, .ref p2, .ref p3, .ref p4] : List V) = od at *
        have oo := stA.out hpo
        have oe : ∀ {b o}, HI b = some o → upd HI po (.lst od) b = some o := fun e => hl_new e hpo
        replace e1 := oe e1
        replace e2 := oe e2
        replace e3 := oe e3
        replace e4' := oe e4'
        have eo : upd HI po (.lst od) po = some (.lst od) := upd_same
        replace stA := stA.new (x := .lst od) hpo
        clear oe
        generalize upd HI po (.lst od) = HJ at *
        walk_at "st"
        refine ⟨s, c, 7, rfl, stA, by omega, fun dk HK kK stK hk => ?_⟩
        replace e1 := kK _ _ e1 o1
        replace e2 := kK _ _ e2 o2
        replace e3 := kK _ _ e3 o3
        replace e4' := kK _ _ e4' o4
        replace eo := kK _ _ eo oo
        obtain ⟨v, ev, mv⟩ := atI_in (xs := od) hk.1 (by rw [← hod]; exact hk.2)
        have tyv : ∃ t, TyX K HK v t ∧ PySem.W.kitOne K t (.type "str") = some false := by
          rw [← hod] at mv
          simp at mv
          rcases mv with rfl | rfl | rfl | rfl | rfl | rfl | rfl
          · exact ⟨_, .base .non, kt_NoneType_str⟩
          · exact ⟨_, .base (.int _), kt_int_str⟩
          · exact ⟨_, .base (.bl _), kt_bool_str⟩
          · exact ⟨_, .base (.lst e1), kt_list_str⟩
          · exact ⟨_, .base (.tup e2), kt_tuple_str⟩
          · exact ⟨_, .base (.dK e3), kt_dict_str⟩
          · exact ⟨_, .base (.dT e4'), kt_dict_str⟩
        walk_at "st"
        refine ⟨v, rfl, .inr ⟨tyv, fun HL sL => ?_⟩⟩
        have stL := stK.same sL
        walk_at "st"
        walk_at "if"
        rw [if_neg (by simp)]
        walk_at "st"
        exact ⟨_, _, _, _, _, _, rfl, stL⟩
    · obtain ⟨x3, x4, x5, x6, x7, x8, rfl, st6⟩ := p
      walk_at "st"
      exact q _
end
/-! ### what the top has written; the law -/
theorem all_mk {l : PySem.W.OpenLaw} {w : World} {K : PySem.W.Frag} {h : Heap} {mg : Str → Option Value} {fa : Addr} (X : K.In h) (G : h.Ns mainGlobals mg) (hfa : mg "law" = some (.ref fa))
    {c_NoUnit : Addr}
    {c_NoFlow : Addr}
    {c_NoText : Addr}
    {c_TraceError : Addr}
    {c_PaperReader : Addr}
    {od1 an1 : Option Addr} {sl1 : Array (Option Value)} {oc1 kV1 dc1 pm1 cd1 ct1 : Value} {f1 : Addr}
    {od2 an2 : Option Addr} {sl2 : Array (Option Value)} {oc2 kV2 dc2 pm2 cd2 ct2 : Value} {f2 : Addr}
    {od3 an3 : Option Addr} {sl3 : Array (Option Value)} {oc3 kV3 dc3 pm3 cd3 ct3 : Value} {f3 : Addr}
    {od4 an4 : Option Addr} {sl4 : Array (Option Value)} {oc4 kV4 dc4 pm4 cd4 ct4 : Value} {f4 : Addr}
    {od5 an5 : Option Addr} {sl5 : Array (Option Value)} {oc5 kV5 dc5 pm5 cd5 ct5 : Value} {f5 : Addr}
    {od6 an6 : Option Addr} {sl6 : Array (Option Value)} {oc6 kV6 dc6 pm6 cd6 ct6 : Value} {f6 : Addr}
    {od7 an7 : Option Addr} {sl7 : Array (Option Value)} {oc7 kV7 dc7 pm7 cd7 ct7 : Value} {f7 : Addr}
    {od8 an8 : Option Addr} {sl8 : Array (Option Value)} {oc8 kV8 dc8 pm8 cd8 ct8 : Value} {f8 : Addr}
    {od9 an9 : Option Addr} {sl9 : Array (Option Value)} {oc9 kV9 dc9 pm9 cd9 ct9 : Value} {f9 : Addr}
    {od10 an10 : Option Addr} {sl10 : Array (Option Value)} {oc10 kV10 dc10 pm10 cd10 ct10 : Value} {f10 : Addr}
    {od11 an11 : Option Addr} {sl11 : Array (Option Value)} {oc11 kV11 dc11 pm11 cd11 ct11 : Value} {f11 : Addr}
    {od12 an12 : Option Addr} {sl12 : Array (Option Value)} {oc12 kV12 dc12 pm12 cd12 ct12 : Value} {f12 : Addr}
    {od13 an13 : Option Addr} {sl13 : Array (Option Value)} {oc13 kV13 dc13 pm13 cd13 ct13 : Value} {f13 : Addr}
    {od14 an14 : Option Addr} {sl14 : Array (Option Value)} {oc14 kV14 dc14 pm14 cd14 ct14 : Value} {f14 : Addr}
    {od15 an15 : Option Addr} {sl15 : Array (Option Value)} {oc15 kV15 dc15 pm15 cd15 ct15 : Value} {f15 : Addr}
    {od16 an16 : Option Addr} {sl16 : Array (Option Value)} {oc16 kV16 dc16 pm16 cd16 ct16 : Value} {f16 : Addr}
    {od17 an17 : Option Addr} {sl17 : Array (Option Value)} {oc17 kV17 dc17 pm17 cd17 ct17 : Value} {f17 : Addr}
    (a1 : PySem.W.findIn K (.ref c_NoText) "__init__" = some (some (.ref f1))) (t1 : PySem.W.typeIn K (.ref f1) = some (.type "function")) (l1 : K.lookup f1 = some ⟨oc1, od1, .func (PySem.W.fnOf "__init__" "NoText.__init__" (defArgs s_NoText___init__) (defBody s_NoText___init__) (defScope s_NoText___init__) .none kV1 dc1 pm1 an1 cd1 ct1), sl1⟩) (c1 : PySem.W.codeIn K cd1 "NoText.__init__" = true) (k1 : PySem.W.keepIn K (.ref f1) = true)
    (a2 : PySem.W.nsIn K mainGlobals "has_only" = some (some (.ref f2))) (l2 : K.lookup f2 = some ⟨oc2, od2, .func (PySem.W.fnOf "has_only" "has_only" (defArgs s_has_only) (defBody s_has_only) (defScope s_has_only) .none kV2 dc2 pm2 an2 cd2 ct2), sl2⟩) (c2 : PySem.W.codeIn K cd2 "has_only" = true) (k2 : PySem.W.keepIn K (.ref f2) = true)
    (a3 : PySem.W.nsIn K mainGlobals "read_figures" = some (some (.ref f3))) (l3 : K.lookup f3 = some ⟨oc3, od3, .func (PySem.W.fnOf "read_figures" "read_figures" (defArgs s_read_figures) (defBody s_read_figures) (defScope s_read_figures) .none kV3 dc3 pm3 an3 cd3 ct3), sl3⟩) (c3 : PySem.W.codeIn K cd3 "read_figures" = true) (k3 : PySem.W.keepIn K (.ref f3) = true)
    (a4 : PySem.W.nsIn K mainGlobals "text_rows" = some (some (.ref f4))) (l4 : K.lookup f4 = some ⟨oc4, od4, .func (PySem.W.fnOf "text_rows" "text_rows" (defArgs s_text_rows) (defBody s_text_rows) (defScope s_text_rows) .none kV4 dc4 pm4 an4 cd4 ct4), sl4⟩) (c4 : PySem.W.codeIn K cd4 "text_rows" = true) (k4 : PySem.W.keepIn K (.ref f4) = true)
    (a5 : PySem.W.nsIn K mainGlobals "numbers_told" = some (some (.ref f5))) (l5 : K.lookup f5 = some ⟨oc5, od5, .func (PySem.W.fnOf "numbers_told" "numbers_told" (defArgs s_numbers_told) (defBody s_numbers_told) (defScope s_numbers_told) .none kV5 dc5 pm5 an5 cd5 ct5), sl5⟩) (c5 : PySem.W.codeIn K cd5 "numbers_told" = true) (k5 : PySem.W.keepIn K (.ref f5) = true)
    (a6 : PySem.W.findIn K (.ref c_PaperReader) "__init__" = some (some (.ref f6))) (i6 : PySem.W.isFn K (.ref f6) = true) (l6 : K.lookup f6 = some ⟨oc6, od6, .func (PySem.W.fnOf "__init__" "PaperReader.__init__" (defArgs s_PaperReader___init__) (defBody s_PaperReader___init__) (defScope s_PaperReader___init__) .none kV6 dc6 pm6 an6 cd6 ct6), sl6⟩) (c6 : PySem.W.codeIn K cd6 "PaperReader.__init__" = true) (k6 : PySem.W.keepIn K (.ref f6) = true)
    (a7 : PySem.W.findIn K (.ref c_PaperReader) "reads" = some (some (.ref f7))) (i7 : PySem.W.isFn K (.ref f7) = true) (l7 : K.lookup f7 = some ⟨oc7, od7, .func (PySem.W.fnOf "reads" "PaperReader.reads" (defArgs s_PaperReader_reads) (defBody s_PaperReader_reads) (defScope s_PaperReader_reads) .none kV7 dc7 pm7 an7 cd7 ct7), sl7⟩) (c7 : PySem.W.codeIn K cd7 "PaperReader.reads" = true) (k7 : PySem.W.keepIn K (.ref f7) = true)
    (a8 : PySem.W.findIn K (.ref c_PaperReader) "reads_pair" = some (some (.ref f8))) (i8 : PySem.W.isFn K (.ref f8) = true) (l8 : K.lookup f8 = some ⟨oc8, od8, .func (PySem.W.fnOf "reads_pair" "PaperReader.reads_pair" (defArgs s_PaperReader_reads_pair) (defBody s_PaperReader_reads_pair) (defScope s_PaperReader_reads_pair) .none kV8 dc8 pm8 an8 cd8 ct8), sl8⟩) (c8 : PySem.W.codeIn K cd8 "PaperReader.reads_pair" = true) (k8 : PySem.W.keepIn K (.ref f8) = true)
    (a9 : PySem.W.nsIn K mainGlobals "read_paper" = some (some (.ref f9))) (l9 : K.lookup f9 = some ⟨oc9, od9, .func (PySem.W.fnOf "read_paper" "read_paper" (defArgs s_read_paper) (defBody s_read_paper) (defScope s_read_paper) .none kV9 dc9 pm9 an9 cd9 ct9), sl9⟩) (c9 : PySem.W.codeIn K cd9 "read_paper" = true) (k9 : PySem.W.keepIn K (.ref f9) = true)
    (a10 : PySem.W.nsIn K mainGlobals "_law_state" = some (some (.ref f10))) (l10 : K.lookup f10 = some ⟨oc10, od10, .func (PySem.W.fnOf "_law_state" "_law_state" (defArgs s_law_state) (defBody s_law_state) (defScope s_law_state) .none kV10 dc10 pm10 an10 cd10 ct10), sl10⟩) (c10 : PySem.W.codeIn K cd10 "_law_state" = true) (k10 : PySem.W.keepIn K (.ref f10) = true)
    (a11 : PySem.W.nsIn K mainGlobals "_law_draw" = some (some (.ref f11))) (l11 : K.lookup f11 = some ⟨oc11, od11, .func (PySem.W.fnOf "_law_draw" "_law_draw" (defArgs s_law_draw) (defBody s_law_draw) (defScope s_law_draw) .none kV11 dc11 pm11 an11 cd11 ct11), sl11⟩) (c11 : PySem.W.codeIn K cd11 "_law_draw" = true) (k11 : PySem.W.keepIn K (.ref f11) = true)
    (a12 : PySem.W.nsIn K mainGlobals "_law_text" = some (some (.ref f12))) (l12 : K.lookup f12 = some ⟨oc12, od12, .func (PySem.W.fnOf "_law_text" "_law_text" (defArgs s_law_text) (defBody s_law_text) (defScope s_law_text) .none kV12 dc12 pm12 an12 cd12 ct12), sl12⟩) (c12 : PySem.W.codeIn K cd12 "_law_text" = true) (k12 : PySem.W.keepIn K (.ref f12) = true)
    (a13 : PySem.W.nsIn K mainGlobals "_law_bent" = some (some (.ref f13))) (l13 : K.lookup f13 = some ⟨oc13, od13, .func (PySem.W.fnOf "_law_bent" "_law_bent" (defArgs s_law_bent) (defBody s_law_bent) (defScope s_law_bent) .none kV13 dc13 pm13 an13 cd13 ct13), sl13⟩) (c13 : PySem.W.codeIn K cd13 "_law_bent" = true) (k13 : PySem.W.keepIn K (.ref f13) = true)
    (a14 : PySem.W.nsIn K mainGlobals "_law_numbers" = some (some (.ref f14))) (l14 : K.lookup f14 = some ⟨oc14, od14, .func (PySem.W.fnOf "_law_numbers" "_law_numbers" (defArgs s_law_numbers) (defBody s_law_numbers) (defScope s_law_numbers) .none kV14 dc14 pm14 an14 cd14 ct14), sl14⟩) (c14 : PySem.W.codeIn K cd14 "_law_numbers" = true) (k14 : PySem.W.keepIn K (.ref f14) = true)
    (a15 : PySem.W.nsIn K mainGlobals "_law_read" = some (some (.ref f15))) (l15 : K.lookup f15 = some ⟨oc15, od15, .func (PySem.W.fnOf "_law_read" "_law_read" (defArgs s_law_read) (defBody s_law_read) (defScope s_law_read) .none kV15 dc15 pm15 an15 cd15 ct15), sl15⟩) (c15 : PySem.W.codeIn K cd15 "_law_read" = true) (k15 : PySem.W.keepIn K (.ref f15) = true)
    (a16 : PySem.W.nsIn K mainGlobals "_law_tried" = some (some (.ref f16))) (l16 : K.lookup f16 = some ⟨oc16, od16, .func (PySem.W.fnOf "_law_tried" "_law_tried" (defArgs s_law_tried) (defBody s_law_tried) (defScope s_law_tried) .none kV16 dc16 pm16 an16 cd16 ct16), sl16⟩) (c16 : PySem.W.codeIn K cd16 "_law_tried" = true) (k16 : PySem.W.keepIn K (.ref f16) = true)
    (a17 : PySem.W.nsIn K mainGlobals "law" = some (some (.ref f17))) (l17 : K.lookup f17 = some ⟨oc17, od17, .func (PySem.W.fnOf "law" "law" (defArgs s_law) (defBody s_law) (defScope s_law) .none kV17 dc17 pm17 an17 cd17 ct17), sl17⟩) (c17 : PySem.W.codeIn K cd17 "law" = true) (k17 : PySem.W.keepIn K (.ref f17) = true)
    (x_PaperReader : PySem.W.nsIn K mainGlobals "PaperReader" = some (some (.ref c_PaperReader))) (pg_PaperReader : PySem.W.plainGet K c_PaperReader Str.empty = true) (hd_PaperReader : PySem.W.hasDictIn K c_PaperReader = true) (po_PaperReader : PySem.W.plainOver K c_PaperReader = true) (sa_PaperReader : PySem.W.findIn K (.ref c_PaperReader) "__setattr__" = some (some (.builtin "object.__setattr__"))) (mk_PaperReader : PySem.W.makesIn K c_PaperReader = true) (kc_PaperReader : PySem.W.keepIn K (.ref c_PaperReader) = true) (na_pairs_told : PySem.W.findIn K (.ref c_PaperReader) "pairs_told" = some none) (na_rows_told : PySem.W.findIn K (.ref c_PaperReader) "rows_told" = some none)
    (x_TraceError : PySem.W.nsIn K mainGlobals "TraceError" = some (some (.ref c_TraceError)))
    {nm_NoText q_NoText : Str} {N_NoText : Addr} {bs_NoText bm_NoText : List Value} {sn_NoText : List Str} {sub_NoText : List Value} {ab_NoText : Bool} {col_NoText : Option Bool} {dd_NoText : Option Addr} {m0_NoText m1_NoText m2_NoText m3_NoText m5_NoText : Option Value}
    (x_NoText : PySem.W.nsIn K mainGlobals "NoText" = some (some (.ref c_NoText))) (xL_NoText : K.lookup c_NoText = some (excClassObj nm_NoText q_NoText c_NoText N_NoText bs_NoText bm_NoText true sn_NoText sub_NoText ab_NoText col_NoText dd_NoText m0_NoText m1_NoText m2_NoText m3_NoText m5_NoText "ValueError.__new__")) (rv_NoText : PySem.HandSPX.refsVE bm_NoText = true) (sa_NoText : PySem.W.findIn K (.ref c_NoText) "__setattr__" = some (some (.builtin "object.__setattr__"))) (ec_NoText : PySem.W.subIn K (.ref c_NoText) (.type "BaseException") = some true) (tc_NoText : PySem.W.typeIn K (.ref c_NoText) = some (.type "type")) (kc_NoText : PySem.W.keepIn K (.ref c_NoText) = true)
    (x_NoFlow : PySem.W.nsIn K mainGlobals "NoFlow" = some (some (.ref c_NoFlow)))
    (x_NoUnit : PySem.W.nsIn K mainGlobals "NoUnit" = some (some (.ref c_NoUnit)))
    (fct_rd_TraceError : PySem.W.readsIn K c_TraceError (.type "type") = true)
    (fct_sg_TraceError : PySem.W.specialIn K (.ref c_TraceError) "__getattribute__" = some (some (.builtin "type.__getattribute__")))
    (fct_fi_TraceError : PySem.W.findCls K (.ref c_TraceError) (.type "type") "__init__" = some (.val (.builtin "ValueError.__init__")))
    (fct_na_row : PySem.W.findIn K (.ref c_NoText) "row" = some none)
    (fct_xa_NoText : PySem.W.findIn K (.ref c_NoText) "__class__" = some (some (.builtin "object.__class__")))
    (fct_xn_object : PySem.W.specialIn K (.builtin "object.__class__") "__get__" = some (some (.builtin "getset_descriptor.__get__")))
    (fct_xt_object : PySem.W.takesIn K (.builtin "object.__class__") = some true)
    (fct_xo_NoText : PySem.W.mroIn K c_NoText (.type "object") = some true)
    (fct_xg_NoText : PySem.W.findIn K (.ref c_NoText) "__getattribute__" = some (some (.builtin "BaseException.__getattribute__")))
    (fct_xh_NoText : PySem.W.findIn K (.ref c_NoText) "__getattr__" = some none)
    (fct_xe_NoText : PySem.W.subIn K (.ref c_NoText) (.type "BaseException") = some true)
    (fct_xd_NoText : PySem.W.hasDictIn K c_NoText = true)
    (fct_te_TraceError : PySem.W.subIn K (.ref c_TraceError) (.type "BaseException") = some true)
    (fct_ti_TraceError : PySem.W.isClsIn K c_TraceError = true)
    (fct_tt_TraceError : PySem.W.typeIn K (.ref c_TraceError) = some (.type "type"))
    (fct_s0_NoText : PySem.W.subIn K (.ref c_NoText) (.ref c_NoText) = some true)
    (fct_s1_NoText : PySem.W.subIn K (.ref c_NoText) (.ref c_TraceError) = some true)
    (fct_s2_NoText : PySem.W.subIn K (.ref c_NoText) (.type "ValueError") = some true)
    (fct_s3_NoText : PySem.W.subIn K (.ref c_NoText) (.ref c_NoFlow) = some false)
    (fct_s4_NoText : PySem.W.subIn K (.ref c_NoText) (.ref c_NoUnit) = some false)
    (fct_ti_NoFlow : PySem.W.isClsIn K c_NoFlow = true)
    (fct_tt_NoFlow : PySem.W.typeIn K (.ref c_NoFlow) = some (.type "type"))
    (fct_ti_NoUnit : PySem.W.isClsIn K c_NoUnit = true)
    (fct_tt_NoUnit : PySem.W.typeIn K (.ref c_NoUnit) = some (.type "type"))
    (z_ValueError : PySem.W.nsIn K mainGlobals "ValueError" = some none)
    (z_abs : PySem.W.nsIn K mainGlobals "abs" = some none)
    (z_all : PySem.W.nsIn K mainGlobals "all" = some none)
    (z_enumerate : PySem.W.nsIn K mainGlobals "enumerate" = some none)
    (z_int : PySem.W.nsIn K mainGlobals "int" = some none)
    (z_isinstance : PySem.W.nsIn K mainGlobals "isinstance" = some none)
    (z_len : PySem.W.nsIn K mainGlobals "len" = some none)
    (z_range : PySem.W.nsIn K mainGlobals "range" = some none)
    (z_str : PySem.W.nsIn K mainGlobals "str" = some none)
    (z_tuple : PySem.W.nsIn K mainGlobals "tuple" = some none)
    (z_zip : PySem.W.nsIn K mainGlobals "zip" = some none)
    {t_FIGURES : Tok} (y_FIGURES : PySem.W.nsIn K mainGlobals "FIGURES" = some (some (.str "0123456789" t_FIGURES)))
    {t_MOST_FIGURES : Tok} (y_MOST_FIGURES : PySem.W.nsIn K mainGlobals "MOST_FIGURES" = some (some (.int 5 t_MOST_FIGURES))) :
    ∃ fd : FuncData, (∀ (s : Shared) (v : Value), BindsTo s fd ⟨[v], []⟩ [("script", v)]) ∧ ∀ base : Heap, K.In base → base.Ns mainGlobals mg → FnOk l.prog w K mg base CX0 7 fa fd ["script"] (sp_law K) := by
  have e := hfa.symm.trans (PySem.W.mg_of X G a17)
  cases e
  have G1 := fun_mk (st := s_NoText___init__) l1 c1 k1
  have oc_NoText : OexC K c_NoText := ⟨⟨nm_NoText, q_NoText, N_NoText, bs_NoText, bm_NoText, sn_NoText, sub_NoText, ab_NoText, col_NoText, dd_NoText, m0_NoText, m1_NoText, m2_NoText, m3_NoText, m5_NoText, xL_NoText, rv_NoText⟩, sa_NoText, ec_NoText, tc_NoText, kc_NoText⟩
  have F1 : HereX K c_NoText "__init__" "NoText.__init__" s_NoText___init__ ["self", "row"] f1 _ := ⟨G1, oc_NoText, a1, t1, G1.binds (ps := ["self", "row"]) fun _ _ _ _ _ _ us hl => match us, hl with | [_, _], _ => rfl⟩
  have G2 := fun_mk (st := s_has_only) l2 c2 k2
  have F2 : Here K mg "has_only" s_has_only ["text", "signs"] f2 _ := ⟨G2, PySem.W.mg_of X G a2, G2.binds (ps := ["text", "signs"]) fun _ _ _ _ _ _ us hl => match us, hl with | [_, _], _ => rfl⟩
  have G3 := fun_mk (st := s_read_figures) l3 c3 k3
  have F3 : Here K mg "read_figures" s_read_figures ["text", "most"] f3 _ := ⟨G3, PySem.W.mg_of X G a3, G3.binds (ps := ["text", "most"]) fun _ _ _ _ _ _ us hl => match us, hl with | [_, _], _ => rfl⟩
  have G4 := fun_mk (st := s_text_rows) l4 c4 k4
  have F4 : Here K mg "text_rows" s_text_rows ["text"] f4 _ := ⟨G4, PySem.W.mg_of X G a4, G4.binds (ps := ["text"]) fun _ _ _ _ _ _ us hl => match us, hl with | [_], _ => rfl⟩
  have G5 := fun_mk (st := s_numbers_told) l5 c5 k5
  have F5 : Here K mg "numbers_told" s_numbers_told ["words"] f5 _ := ⟨G5, PySem.W.mg_of X G a5, G5.binds (ps := ["words"]) fun _ _ _ _ _ _ us hl => match us, hl with | [_], _ => rfl⟩
  have G6 := fun_mk (st := s_PaperReader___init__) l6 c6 k6
  have F6 : HereI K c_PaperReader "__init__" "PaperReader.__init__" s_PaperReader___init__ ["self"] f6 _ := ⟨G6, ⟨mk_PaperReader, a6, i6, kc_PaperReader⟩, G6.binds (ps := ["self"]) fun _ _ _ _ _ _ us hl => match us, hl with | [_], _ => rfl⟩
  have G7 := fun_mk (st := s_PaperReader_reads) l7 c7 k7
  have F7 : HereM K c_PaperReader "reads" "PaperReader.reads" s_PaperReader_reads ["self", "row"] f7 _ := ⟨G7, ⟨a7, i7, k7⟩, G7.binds (ps := ["self", "row"]) fun _ _ _ _ _ _ us hl => match us, hl with | [_, _], _ => rfl⟩
  have G8 := fun_mk (st := s_PaperReader_reads_pair) l8 c8 k8
  have F8 : HereM K c_PaperReader "reads_pair" "PaperReader.reads_pair" s_PaperReader_reads_pair ["self", "pair"] f8 _ := ⟨G8, ⟨a8, i8, k8⟩, G8.binds (ps := ["self", "pair"]) fun _ _ _ _ _ _ us hl => match us, hl with | [_, _], _ => rfl⟩
  have G9 := fun_mk (st := s_read_paper) l9 c9 k9
  have F9 : Here K mg "read_paper" s_read_paper ["text"] f9 _ := ⟨G9, PySem.W.mg_of X G a9, G9.binds (ps := ["text"]) fun _ _ _ _ _ _ us hl => match us, hl with | [_], _ => rfl⟩
  have G10 := fun_mk (st := s_law_state) l10 c10 k10
  have F10 : Here K mg "_law_state" s_law_state ["script"] f10 _ := ⟨G10, PySem.W.mg_of X G a10, G10.binds (ps := ["script"]) fun _ _ _ _ _ _ us hl => match us, hl with | [_], _ => rfl⟩
  have G11 := fun_mk (st := s_law_draw) l11 c11 k11
  have F11 : Here K mg "_law_draw" s_law_draw ["state", "many"] f11 _ := ⟨G11, PySem.W.mg_of X G a11, G11.binds (ps := ["state", "many"]) fun _ _ _ _ _ _ us hl => match us, hl with | [_, _], _ => rfl⟩
  have G12 := fun_mk (st := s_law_text) l12 c12 k12
  have F12 : Here K mg "_law_text" s_law_text ["state"] f12 _ := ⟨G12, PySem.W.mg_of X G a12, G12.binds (ps := ["state"]) fun _ _ _ _ _ _ us hl => match us, hl with | [_], _ => rfl⟩
  have G13 := fun_mk (st := s_law_bent) l13 c13 k13
  have F13 : Here K mg "_law_bent" s_law_bent ["state", "written"] f13 _ := ⟨G13, PySem.W.mg_of X G a13, G13.binds (ps := ["state", "written"]) fun _ _ _ _ _ _ us hl => match us, hl with | [_, _], _ => rfl⟩
  have G14 := fun_mk (st := s_law_numbers) l14 c14 k14
  have F14 : Here K mg "_law_numbers" s_law_numbers ["words"] f14 _ := ⟨G14, PySem.W.mg_of X G a14, G14.binds (ps := ["words"]) fun _ _ _ _ _ _ us hl => match us, hl with | [_], _ => rfl⟩
  have G15 := fun_mk (st := s_law_read) l15 c15 k15
  have F15 : Here K mg "_law_read" s_law_read ["written"] f15 _ := ⟨G15, PySem.W.mg_of X G a15, G15.binds (ps := ["written"]) fun _ _ _ _ _ _ us hl => match us, hl with | [_], _ => rfl⟩
  have G16 := fun_mk (st := s_law_tried) l16 c16 k16
  have F16 : Here K mg "_law_tried" s_law_tried ["thing"] f16 _ := ⟨G16, PySem.W.mg_of X G a16, G16.binds (ps := ["thing"]) fun _ _ _ _ _ _ us hl => match us, hl with | [_], _ => rfl⟩
  have G17 := fun_mk (st := s_law) l17 c17 k17
  have F17 : Here K mg "law" s_law ["script"] fa _ := ⟨G17, PySem.W.mg_of X G a17, G17.binds (ps := ["script"]) fun _ _ _ _ _ _ us hl => match us, hl with | [_], _ => rfl⟩
  have T : Tx K mg c_PaperReader c_TraceError c_NoText c_NoFlow c_NoUnit := ⟨⟨_, PySem.W.mg_of X G y_FIGURES⟩, ⟨_, PySem.W.mg_of X G y_MOST_FIGURES⟩, PySem.W.mg_none_of X G z_ValueError, PySem.W.mg_none_of X G z_abs, PySem.W.mg_none_of X G z_all, PySem.W.mg_none_of X G z_enumerate, PySem.W.mg_none_of X G z_int, PySem.W.mg_none_of X G z_isinstance, PySem.W.mg_none_of X G z_len, PySem.W.mg_none_of X G z_range, PySem.W.mg_none_of X G z_str, PySem.W.mg_none_of X G z_tuple, PySem.W.mg_none_of X G z_zip, PySem.W.mg_of X G x_PaperReader, ⟨pg_PaperReader, hd_PaperReader, po_PaperReader, sa_PaperReader⟩, na_pairs_told, na_rows_told, PySem.W.mg_of X G x_TraceError, PySem.W.mg_of X G x_NoText, PySem.W.mg_of X G x_NoFlow, PySem.W.mg_of X G x_NoUnit, fct_rd_TraceError, fct_sg_TraceError, fct_fi_TraceError, fct_na_row, fct_xa_NoText, fct_xn_object, fct_xt_object, fct_xo_NoText, fct_xg_NoText, fct_xh_NoText, fct_xe_NoText, fct_xd_NoText, fct_te_TraceError, fct_ti_TraceError, fct_tt_TraceError, fct_s0_NoText, fct_s1_NoText, fct_s2_NoText, fct_s3_NoText, fct_s4_NoText, fct_ti_NoFlow, fct_tt_NoFlow, fct_ti_NoUnit, fct_tt_NoUnit⟩
  refine ⟨PySem.W.fnOf "law" "law" (defArgs s_law) (defBody s_law) (defScope s_law) .none kV17 dc17 pm17 an17 cd17 ct17, fun s v => .of_eq rfl, fun base _ _ => ?_⟩
  have C_law_state := ok_law_state (P := l.prog) (w := w) (base := base) T  F10
  have C_law_draw := ok_law_draw (P := l.prog) (w := w) (base := base) T  F11
  have C_law_text := ok_law_text (P := l.prog) (w := w) (base := base) T C_law_draw F12
  have C_NoText___init__ := ok_NoText___init__ (P := l.prog) (w := w) (base := base) T  F1
  have C_text_rows := ok_text_rows (P := l.prog) (w := w) (base := base) T C_NoText___init__ F4
  have C_PaperReader___init__ := ok_PaperReader___init__ (P := l.prog) (w := w) (base := base) T  F6
  have C_has_only := ok_has_only (P := l.prog) (w := w) (base := base) T  F2
  have C_read_figures := ok_read_figures (P := l.prog) (w := w) (base := base) T C_has_only F3
  have C_numbers_told := ok_numbers_told (P := l.prog) (w := w) (base := base) T C_read_figures F5
  have C_PaperReader_reads_pair := ok_PaperReader_reads_pair (P := l.prog) (w := w) (base := base) T  F8
  have C_PaperReader_reads := ok_PaperReader_reads (P := l.prog) (w := w) (base := base) T C_numbers_told C_PaperReader_reads_pair F7
  have C_read_paper := ok_read_paper (P := l.prog) (w := w) (base := base) T C_text_rows C_PaperReader___init__ C_NoText___init__ C_PaperReader_reads F9
  have C_law_tried := ok_law_tried (P := l.prog) (w := w) (base := base) T C_read_paper F16
  have C_law_bent := ok_law_bent (P := l.prog) (w := w) (base := base) T C_law_draw F13
  have C_law_numbers := ok_law_numbers (P := l.prog) (w := w) (base := base) T  F14
  have C_law_read := ok_law_read (P := l.prog) (w := w) (base := base) T C_law_numbers F15
  have C_law := ok_law (P := l.prog) (w := w) (base := base) T C_law_state C_law_text C_law_tried C_law_draw C_law_bent C_law_read F17
  exact C_law.ok
end Z
open PySem PySem.W PyProof.Rows
set_option maxHeartbeats 0 in
theorem PySem.Challenge.cw_onetrace_k86_texts_of_no_paper_holds : PySem.Challenge.rw_onetrace_k86_texts_of_no_paper.Holds := by
  w_on; o_law; k_head; (case hw => w_witness2)
  k_fill
  refine L2.walk_of (l := PySem.Challenge.rw_onetrace_k86_texts_of_no_paper) (n := 63) (k := 7) (x := "script") (CX := fun _ => L2.CX0) (sp := fun w => Z.sp_law _) rfl (by decide) rfl ⟨rfl, by decide, by decide⟩ (fun w h Y => PySem.W.kIn_of Y) ?F (fun _ _ a ns hl _ hS => ⟨a, ns, rfl, hS, hl, fun _ => rfl⟩) (fun _ _ _ _ _ h => h)
  case F =>
    intro w mg fa h KX G hmg
    refine' Z.all_mk KX G hmg ?a1 ?t1 ?l1 ?c1 ?k1 ?a2 ?l2 ?c2 ?k2 ?a3 ?l3 ?c3 ?k3 ?a4 ?l4 ?c4 ?k4 ?a5 ?l5 ?c5 ?k5 ?a6 ?i6 ?l6 ?c6 ?k6 ?a7 ?i7 ?l7 ?c7 ?k7 ?a8 ?i8 ?l8 ?c8 ?k8 ?a9 ?l9 ?c9 ?k9 ?a10 ?l10 ?c10 ?k10 ?a11 ?l11 ?c11 ?k11 ?a12 ?l12 ?c12 ?k12 ?a13 ?l13 ?c13 ?k13 ?a14 ?l14 ?c14 ?k14 ?a15 ?l15 ?c15 ?k15 ?a16 ?l16 ?c16 ?k16 ?a17 ?l17 ?c17 ?k17 ?x_PaperReader ?pg_PaperReader ?hd_PaperReader ?po_PaperReader ?sa_PaperReader ?mk_PaperReader ?kc_PaperReader ?na_pairs_told ?na_rows_told ?x_TraceError ?x_NoText ?xL_NoText ?rv_NoText ?sa_NoText ?ec_NoText ?tc_NoText ?kc_NoText ?x_NoFlow ?x_NoUnit ?fct_rd_TraceError ?fct_sg_TraceError ?fct_fi_TraceError ?fct_na_row ?fct_xa_NoText ?fct_xn_object ?fct_xt_object ?fct_xo_NoText ?fct_xg_NoText ?fct_xh_NoText ?fct_xe_NoText ?fct_xd_NoText ?fct_te_TraceError ?fct_ti_TraceError ?fct_tt_TraceError ?fct_s0_NoText ?fct_s1_NoText ?fct_s2_NoText ?fct_s3_NoText ?fct_s4_NoText ?fct_ti_NoFlow ?fct_tt_NoFlow ?fct_ti_NoUnit ?fct_tt_NoUnit ?z_ValueError ?z_abs ?z_all ?z_enumerate ?z_int ?z_isinstance ?z_len ?z_range ?z_str ?z_tuple ?z_zip ?y_FIGURES ?y_MOST_FIGURES
    (case x_PaperReader => k_is)
    (case x_TraceError => k_is)
    (case x_NoText => k_is)
    (case x_NoFlow => k_is)
    (case x_NoUnit => k_is)
    (case a1 => k_is)
    (case t1 => k_is)
    (case l1 => k_is)
    (case c1 => k_is)
    (case k1 => k_is)
    (case a2 => k_is)
    (case l2 => k_is)
    (case c2 => k_is)
    (case k2 => k_is)
    (case a3 => k_is)
    (case l3 => k_is)
    (case c3 => k_is)
    (case k3 => k_is)
    (case a4 => k_is)
    (case l4 => k_is)
    (case c4 => k_is)
    (case k4 => k_is)
    (case a5 => k_is)
    (case l5 => k_is)
    (case c5 => k_is)
    (case k5 => k_is)
    (case a6 => k_is)
    (case i6 => k_is)
    (case l6 => k_is)
    (case c6 => k_is)
    (case k6 => k_is)
    (case a7 => k_is)
    (case i7 => k_is)
    (case l7 => k_is)
    (case c7 => k_is)
    (case k7 => k_is)
    (case a8 => k_is)
    (case i8 => k_is)
    (case l8 => k_is)
    (case c8 => k_is)
    (case k8 => k_is)
    (case a9 => k_is)
    (case l9 => k_is)
    (case c9 => k_is)
    (case k9 => k_is)
    (case a10 => k_is)
    (case l10 => k_is)
    (case c10 => k_is)
    (case k10 => k_is)
    (case a11 => k_is)
    (case l11 => k_is)
    (case c11 => k_is)
    (case k11 => k_is)
    (case a12 => k_is)
    (case l12 => k_is)
    (case c12 => k_is)
    (case k12 => k_is)
    (case a13 => k_is)
    (case l13 => k_is)
    (case c13 => k_is)
    (case k13 => k_is)
    (case a14 => k_is)
    (case l14 => k_is)
    (case c14 => k_is)
    (case k14 => k_is)
    (case a15 => k_is)
    (case l15 => k_is)
    (case c15 => k_is)
    (case k15 => k_is)
    (case a16 => k_is)
    (case l16 => k_is)
    (case c16 => k_is)
    (case k16 => k_is)
    (case a17 => k_is)
    (case l17 => k_is)
    (case c17 => k_is)
    (case k17 => k_is)
    (case pg_PaperReader => k_is)
    (case hd_PaperReader => k_is)
    (case po_PaperReader => k_is)
    (case sa_PaperReader => k_is)
    (case mk_PaperReader => k_is)
    (case kc_PaperReader => k_is)
    (case na_pairs_told => k_is)
    (case na_rows_told => k_is)
    (case xL_NoText => k_is)
    (case sa_NoText => k_is)
    (case ec_NoText => k_is)
    (case tc_NoText => k_is)
    (case kc_NoText => k_is)
    (case z_ValueError => k_is)
    (case z_abs => k_is)
    (case z_all => k_is)
    (case z_enumerate => k_is)
    (case z_int => k_is)
    (case z_isinstance => k_is)
    (case z_len => k_is)
    (case z_range => k_is)
    (case z_str => k_is)
    (case z_tuple => k_is)
    (case z_zip => k_is)
    (case y_FIGURES => k_is)
    (case y_MOST_FIGURES => k_is)
    (case rv_NoText => first | rfl | decide +kernel | k_is)
    (case fct_rd_TraceError => first | k_is | rfl)
    (case fct_sg_TraceError => first | k_is | rfl)
    (case fct_fi_TraceError => first | k_is | rfl)
    (case fct_na_row => first | k_is | rfl)
    (case fct_xa_NoText => first | k_is | rfl)
    (case fct_xn_object => first | k_is | rfl)
    (case fct_xt_object => first | k_is | rfl)
    (case fct_xo_NoText => first | k_is | rfl)
    (case fct_xg_NoText => first | k_is | rfl)
    (case fct_xh_NoText => first | k_is | rfl)
    (case fct_xe_NoText => first | k_is | rfl)
    (case fct_xd_NoText => first | k_is | rfl)
    (case fct_te_TraceError => first | k_is | rfl)
    (case fct_ti_TraceError => first | k_is | rfl)
    (case fct_tt_TraceError => first | k_is | rfl)
    (case fct_s0_NoText => first | k_is | rfl)
    (case fct_s1_NoText => first | k_is | rfl)
    (case fct_s2_NoText => first | k_is | rfl)
    (case fct_s3_NoText => first | k_is | rfl)
    (case fct_s4_NoText => first | k_is | rfl)
    (case fct_ti_NoFlow => first | k_is | rfl)
    (case fct_tt_NoFlow => first | k_is | rfl)
    (case fct_ti_NoUnit => first | k_is | rfl)
    (case fct_tt_NoUnit => first | k_is | rfl)
