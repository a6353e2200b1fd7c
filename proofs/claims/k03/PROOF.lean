import PyProof.Rows.All
import Wide.All
import OpenK.AllK
import Wide.FinOn
import HandS.ForMost
import HandS.Wide
import HandS.Zip
import HandS.Walk
import HandS.IsInst
import HandS.TupAny
import HandS.Style
import HandS.SortOrd
import HandS.Remove
import KE.DataFind
import KE.GoesEnum
import HandS.TupMul
import HandS.More
import HandS.Small
import HandS.DictComp
import PySem.Challenge.RW_onetrace_k03_forms_reckoned
set_option Elab.async false
set_option linter.all false
set_option maxRecDepth 100000
set_option maxHeartbeats 4000000
namespace Z
open PySem PySem.Spec PyProof.Rows L2 RZ
/-- a def that is called: where it stands, what it promises -/
structure Cal (P : Program) (w : World) (K : PySem.W.Frag) (mg : Str → Option Value) (base : Heap) (x : Str) (k : Nat) (ps : List Str) (sp : Sp) (st : Stmt) (f : Addr) (fd : FuncData) : Prop where
  ok : FnOk P w K mg base CX0 k f fd ps sp
  at_ : mg x = some (.ref f)
  kp : PySem.W.keepIn K (.ref f) = true
  b : Binds K fd ps []
  fn : Fun K x x st f fd
/-- a def as it stands behind the top -/
structure Here (K : PySem.W.Frag) (mg : Str → Option Value) (x : Str) (st : Stmt) (ps : List Str) (f : Addr) (fd : FuncData) : Prop where
  fn : Fun K x x st f fd
  at_ : mg x = some (.ref f)
  b : Binds K fd ps []
section
variable {P : Program} {w : World} {K : PySem.W.Frag} {mg : Str → Option Value} {base : Heap}
theorem Here.cal {x : Str} {st : Stmt} {ps N : List Str} {f : Addr} {fd : FuncData} {k : Nat} {sp : Sp} (F : Here K mg x st ps f fd) (S : FnScope N ps (defScope st)) (len : ∀ vs H Q E, sp vs H Q E → vs.length = ps.length)
    (hbody : ∀ (cdv : Value) (A : Around) (outer : List Env) (s : Shared) (H : Hp) (vs : List V) (Q : VK) (E : XK), Room k (A.deeper (envOfC x (defScope st) s.heap.objs.size f cdv)) → sp vs H Q E →
      ∃ t, PSs (cxOf CX0 P w K mg base N x (defScope st) f cdv A outer s H E).nox (defBody st) t ∧ t { nx := fun _ H' => Q .non H', rt := Q } (L2.start N vs) H) : Cal P w K mg base x (k + 1) ps sp st f fd :=
  ⟨F.fn.ok S len hbody, F.at_, F.fn.kp, F.b, F.fn⟩
end
/-! readings, rule by rule -/
def rLen (K : PySem.W.Frag) : List V → Hp → VK → Prop := fun xs H Q => ∃ p ys, xs = [.ref p] ∧ (SqL K H p ys ∨ SqT K H p ys) ∧ Q (.int ys.length) H
theorem cr_len {X : Cx} : CallR X (.builtin "len") (rLen X.K) := call_len_seq
theorem r_app0 {l : Addr} {xs : List V} {y : V} {H : Hp} {Q : VK} (h : H l = some (.lst xs)) (z : xs.length < sizeLine) (q : Q .non (upd H l (.lst (xs ++ [y])))) : rAppend (.ref l) [y] H Q := ⟨l, xs, y, rfl, rfl, h, z, q⟩
theorem r_ty {K : PySem.W.Frag} {l : Addr} {xs : List V} {H : Hp} {A : Prop} (h : H l = some (.lst xs)) (q : A) : tyV K "list" (.ref l) H ∧ A := ⟨.inl ⟨rfl, _, .inl (.inl h)⟩, q⟩
theorem r_all {K : PySem.W.Frag} {a : Addr} {bs : List Bool} {H : Hp} {Q : VK} (h : SqL K H a (bs.map V.bl)) (q : Q (.bl (bs.all id)) H) : rAll K [.ref a] H Q := ⟨a, bs, rfl, h, q⟩
theorem r_sum {K : PySem.W.Frag} {a : Addr} {ns : List Int} {H : Hp} {Q : VK} (h : SqL K H a (ns.map V.int)) (q : Q (.int ns.sum) H) : rSum K [.ref a] H Q := ⟨a, ns, rfl, h, q⟩
theorem r_isi {K : PySem.W.Frag} {x c : V} {t u : Value} {b : Bool} {H : Hp} {Q : VK} (h1 : ClsV c u) (h2 : TyX K H x t) (h3 : PySem.W.kitOne K t u = some b) (q : Q (.bl b) H) : rIsi K [x, c] H Q := ⟨x, c, t, u, b, rfl, h1, h2, h3, q⟩
def rAbs : List V → Hp → VK → Prop := fun xs H Q => ∃ i, xs = [.int i] ∧ Q (.int (if i < 0 then -i else i)) H
theorem cr_abs {X : Cx} : CallR X (.builtin "abs") rAbs := call_abs
def rListOf (K : PySem.W.Frag) : List V → Hp → VK → Prop := fun xs H Q => ∃ p ys, xs = [.ref p] ∧ (SqL K H p ys ∨ SqT K H p ys) ∧ ∀ l, H l = none → Q (.ref l) (upd H l (.lst ys))
theorem cr_listOf {X : Cx} : CallR X (.type "list") (rListOf X.K) := call_list_of
def rTupOf (K : PySem.W.Frag) : List V → Hp → VK → Prop := fun xs H Q => ∃ p ys, xs = [.ref p] ∧ ((SqL K H p ys ∧ ∀ l, H l = none → Q (.ref l) (upd H l (.tup ys))) ∨ (SqT K H p ys ∧ Q (.ref p) H))
theorem cr_tupOf {X : Cx} : CallR X (.type "tuple") (rTupOf X.K) := call_tuple_of
section
variable {K : PySem.W.Frag} {D : Ends} {σ : L2.St} {H : Hp} {Q : VK}
theorem r_seq {t u : TS} (h : t { D with nx := u D } σ H) : tSeq t u D σ H := h
theorem r_asg {te : TE} {g : TG} (h : te σ H fun x H1 => g x σ H1 D.nx) : tAsg te g D σ H := h
theorem r_gname {i : Nat} {v : V} {N : L2.St → Hp → Prop} (h : N (σ.set i (some v)) H) : gName i v σ H N := h
theorem r_var {i : Nat} {v : V} (e : σ[i]? = some (some v)) (h : Q v H) : tVar i σ H Q := ⟨v, e, h⟩
theorem r_c {v : V} (h : Q v H) : tC v σ H Q := h
theorem r_op {r : R2} {ta tb : TE} (h : ta σ H fun x H1 => tb σ H1 fun y H2 => r x y H2 Q) : tOp r ta tb σ H Q := h
theorem r_i0 {g : Int → Int → V} {i j : Int} (h : Q (g i j) H) : rI0 g (.int i) (.int j) H Q := ⟨i, j, rfl, rfl, h⟩
theorem r_i {C : Int → Int → Prop} {g : Int → Int → V} {i j : Int} (c : C i j) (h : Q (g i j) H) : rI C g (.int i) (.int j) H Q := ⟨i, j, rfl, rfl, c, h⟩
theorem r_ixl {p : Addr} {xs : List V} {i : Int} {v : V} (h : SqL K H p xs) (e : atI xs i = some v) (q : Q v H) : rIxL K (.ref p) (.int i) H Q := ⟨p, xs, i, v, rfl, rfl, h, e, q⟩
theorem r_ixt {p : Addr} {xs : List V} {i : Int} {v : V} (h : SqT K H p xs) (e : atI xs i = some v) (q : Q v H) : rIxT K (.ref p) (.int i) H Q := ⟨p, xs, i, v, rfl, rfl, h, e, q⟩
theorem r_cb {r : List V → Hp → VK → Prop} {t : TA} (h : t σ H fun vs H1 => r vs H1 Q) : tCB r t σ H Q := h
theorem r_cons {ta : TE} {tr : TA} {R : List V → Hp → Prop} (h : ta σ H fun x H1 => tr σ H1 fun xs H2 => R (x :: xs) H2) : tCons ta tr σ H R := h
theorem r_nil {R : List V → Hp → Prop} (h : R [] H) : tNil σ H R := h
theorem r_len {p : Addr} {ys : List V} (h : SqL K H p ys) (q : Q (.int ys.length) H) : rLen K [.ref p] H Q := ⟨p, ys, rfl, .inl h, q⟩
theorem r_lent {p : Addr} {ys : List V} (h : SqT K H p ys) (q : Q (.int ys.length) H) : rLen K [.ref p] H Q := ⟨p, ys, rfl, .inr h, q⟩
theorem r_abs {i : Int} (q : Q (.int (if i < 0 then -i else i)) H) : rAbs [.int i] H Q := ⟨i, rfl, q⟩
theorem r_listl {p : Addr} {ys : List V} (h : SqL K H p ys) (q : ∀ l, H l = none → Q (.ref l) (upd H l (.lst ys))) : rListOf K [.ref p] H Q := ⟨p, ys, rfl, .inl h, q⟩
theorem r_listt {p : Addr} {ys : List V} (h : SqT K H p ys) (q : ∀ l, H l = none → Q (.ref l) (upd H l (.lst ys))) : rListOf K [.ref p] H Q := ⟨p, ys, rfl, .inr h, q⟩
theorem r_tupl {p : Addr} {ys : List V} (h : SqL K H p ys) (q : ∀ l, H l = none → Q (.ref l) (upd H l (.tup ys))) : rTupOf K [.ref p] H Q := ⟨p, ys, rfl, .inl ⟨h, q⟩⟩
theorem r_tupt {p : Addr} {ys : List V} (h : SqT K H p ys) (q : Q (.ref p) H) : rTupOf K [.ref p] H Q := ⟨p, ys, rfl, .inr ⟨h, q⟩⟩
theorem r_if {c : TT} {t u : TS} (h : c σ H fun b H1 => if b = true then t D σ H1 else u D σ H1) : tIfS c t u D σ H := h
theorem r_ife {c : TT} {t u : TE} (h : c σ H fun b H1 => if b = true then t σ H1 Q else u σ H1 Q) : tIf c t u σ H Q := h
theorem r_test {te : TE} {R : Bool → Hp → Prop} (h : te σ H fun x H' => ∃ k, x = .bl k ∧ R k H') : tTest te σ H R := h
theorem r_bl {b : Bool} {R : Bool → Prop} (h : R b) : ∃ k, V.bl b = .bl k ∧ R k := ⟨b, rfl, h⟩
theorem r_ite {p : Prop} {inst : Decidable p} {A B : Prop} (h1 : p → A) (h2 : ¬p → B) : if decide p = true then A else B := by
  by_cases h : p
  · rw [if_pos (decide_eq_true h)]; exact h1 h
  · rw [if_neg (by simpa using h)]; exact h2 h
theorem r_tand {t u : TT} {R : Bool → Hp → Prop} (h : t σ H fun c H1 => if c = true then u σ H1 R else R false H1) : tAnd t u σ H R := h
theorem r_tor {t u : TT} {R : Bool → Hp → Prop} (h : t σ H fun c H1 => if c = true then R true H1 else u σ H1 R) : tOr t u σ H R := h
theorem r_tnot {t : TT} {R : Bool → Hp → Prop} (h : t σ H fun c H1 => R (!c) H1) : tNot t σ H R := h
theorem r_andv {ta tb : TE} (h : ta σ H fun x H1 => ∃ c, x = .bl c ∧ if c = true then tb σ H1 Q else Q (.bl false) H1) : tAndV ta tb σ H Q := h
theorem r_orv {ta tb : TE} (h : ta σ H fun x H1 => ∃ c, x = .bl c ∧ if c = true then Q (.bl true) H1 else tb σ H1 Q) : tOrV ta tb σ H Q := h
theorem r_notv {ta : TE} (h : ta σ H fun x H1 => ∃ c, x = .bl c ∧ Q (.bl (!c)) H1) : tNotV ta σ H Q := h
theorem r_chain {r r' : R2} {ta tb tc : TE} (h : ta σ H fun x H1 => tb σ H1 fun y H2 => r x y H2 fun z H3 => ∃ k, z = .bl k ∧ (if k = true then tc σ H3 fun w' H4 => r' y w' H4 Q else Q (.bl false) H3)) : tChain r r' ta tb tc σ H Q := h
theorem r_t {A B : Prop} (h : A) : if true = true then A else B := by rw [if_pos rfl]; exact h
theorem r_f {A B : Prop} (h : B) : if false = true then A else B := by rw [if_neg (by decide)]; exact h
theorem r_nt {A B : Prop} (h : B) : if (!true) = true then A else B := by rw [if_neg (by decide)]; exact h
theorem r_nf {A B : Prop} (h : A) : if (!false) = true then A else B := by rw [if_pos (by decide)]; exact h
theorem r_bm {T : String} {r : V → List V → Hp → VK → Prop} {to : TE} {t : TA} (h : to σ H fun x H1 => tyV K T x H1 ∧ t σ H1 fun xs H2 => r x xs H2 Q) : tBM K T r to t σ H Q := h
theorem r_sl {r : V → Option Int → Option Int → Hp → VK → Prop} {te : TE} {tl th : TO} (h : te σ H fun x H1 => tl σ H1 fun l H2 => th σ H2 fun u H3 => r x l u H3 Q) : tSl r te tl th σ H Q := h
theorem r_sll {a : Addr} {xs : List V} {lo hi : Option Int} (h : SqL K H a xs) (q : ∀ p, H p = none → Q (.ref p) (upd H p (.lst (cutV xs lo hi)))) : rSlL K (.ref a) lo hi H Q := ⟨a, xs, rfl, h, q⟩
theorem r_nopart {R : Option Int → Hp → Prop} (h : R none H) : tNoPart σ H R := h
theorem r_part {te : TE} {R : Option Int → Hp → Prop} (h : te σ H fun x H1 => ∃ i, x = .int i ∧ R (some i) H1) : tPart te σ H R := h
theorem r_parti {i : Int} {R : Int → Prop} (h : R i) : ∃ j, V.int i = .int j ∧ R j := ⟨i, rfl, h⟩
theorem r_yes {R : Bool → Hp → Prop} (h : R true H) : tYes σ H R := h
theorem r_sz {xs : List V} {B : Prop} (e : Nat.ble xs.length 1000 = true) (h : B) : xs.length ≤ sizeLine ∧ B := ⟨Nat.le_trans (Nat.le_of_ble_eq_true e) (by decide), h⟩
theorem r_iteB {b : Bool} {A B : Prop} (h1 : b = true → A) (h2 : b = false → B) : if b = true then A else B := by
  cases b with
  | true => rw [if_pos rfl]; exact h1 rfl
  | false => rw [if_neg (by decide)]; exact h2 rfl
theorem r_tb {t : TE} {R : Bool → Hp → Prop} (h : t σ H fun x H1 => ∃ c, x = .bl c ∧ R c H1) : tB t σ H R := h
theorem r_un {r : V → Hp → VK → Prop} {ta : TE} (h : ta σ H fun x H1 => r x H1 Q) : tUn r ta σ H Q := h
theorem r_u {g : Int → V} {i : Int} (h : Q (g i) H) : rU g (.int i) H Q := ⟨i, rfl, h⟩
theorem r_ret {te : TE} (h : te σ H D.rt) : tRet te D σ H := h
theorem r_gsub {to ti : TE} {t : TSet} {v : V} {N : L2.St → Hp → Prop} (h : to σ H fun o H1 => ti σ H1 fun i H2 => t o i v H2 fun H3 => N σ H3) : gSub to ti t v σ H N := h
theorem r_setl {p : Addr} {xs : List V} {k : Int} {j : Nat} {v : V} {R : Hp → Prop} (h : H p = some (.lst xs)) (e : ixN xs.length k = some j) (q : R (upd H p (.lst (xs.set j v)))) : rSetL (.ref p) (.int k) v H R := ⟨p, xs, k, j, rfl, rfl, h, e, q⟩
theorem r_next (h : D.nx σ H) : tNext D σ H := h
theorem r_call {sp : Sp} {dvs : List V} {E : XK} {t : TA} (h : t σ H fun vs H1 => sp (vs ++ dvs) H1 Q E) : tCall sp dvs E t σ H Q := h
theorem r_lst {t : TA} (h : t σ H fun xs H1 => xs.length ≤ sizeLine ∧ ∀ p, H1 p = none → Q (.ref p) (upd H1 p (.lst xs))) : tLst t σ H Q := h
theorem r_tup {t : TA} (h : t σ H fun xs H1 => xs.length ≤ sizeLine ∧ ∀ p, H1 p = none → Q (.ref p) (upd H1 p (.tup xs))) : tTup t σ H Q := h
theorem r_drop {te : TE} (h : te σ H fun _ H1 => D.nx σ H1) : tDrop te D σ H := h
theorem r_eq {x y : V} (s : scal x y = true) (q : Q (.bl (decide (x = y))) H) : rEq x y H Q := ⟨s, q⟩
theorem r_ne {x y : V} (s : scal x y = true) (q : Q (.bl (!decide (x = y))) H) : rNe x y H Q := ⟨s, q⟩
theorem hl_new {H : Hp} {a b : Addr} {o u : HO} (h : H a = some o) (n : H b = none) : upd H b u a = some o := (upd_ne (ne_of_none h n)).trans h
theorem hl_set {H : Hp} {a b : Addr} {o u : HO} (n : a ≠ b) (h : H a = some o) : upd H b u a = some o := (upd_ne n).trans h
end

/-! ### what stands at an address, over the heaps -/
def Kp (S : List Addr) (H H' : Hp) : Prop := ∀ b o, H b = some o → b ∉ S → H' b = some o
theorem Kp.refl {S : List Addr} {H : Hp} : Kp S H H := fun _ _ h _ => h
theorem Kp.trans {S : List Addr} {H H1 H2 : Hp} (a : Kp S H H1) (b : Kp S H1 H2) : Kp S H H2 := fun x o h n => b x o (a x o h n) n
theorem Kp.new {S : List Addr} {H : Hp} {p : Addr} {x : HO} (n : H p = none) : Kp S H (upd H p x) := fun b o h _ => hl_new h n
theorem Kp.set {S : List Addr} {H : Hp} {p : Addr} {x : HO} (m : p ∈ S) : Kp S H (upd H p x) := fun b o h n => hl_set (fun e => n (e ▸ m)) h
/-- a thing made since H is changed -/
theorem Kp.own {S : List Addr} {H H1 : Hp} {p : Addr} {x : HO} (k : Kp S H H1) (n : H p = none) : Kp S H (upd H1 p x) := fun b o h m => hl_set (ne_of_none h n) (k b o h m)
theorem Kp.sub {S S' : List Addr} {H H' : Hp} (k : Kp S H H') (m : ∀ a ∈ S, a ∈ S') : Kp S' H H' := fun b o h n => k b o h fun z => n (m b z)
theorem Kp.ofSame {S : List Addr} {H H' : Hp} (k : Same H H') : Kp S H H' := fun b o h _ => k b o h
theorem Kp.nil {H H' : Hp} (k : Kp [] H H') : Same H H' := fun b o h => k b o h (by simp)
theorem Kp.free {S : List Addr} {H H' : Hp} (k : Kp S H H') {p : Addr} (n : H' p = none) (m : p ∉ S) : H p = none := by
  cases q : H p with
  | none => rfl
  | some o => rw [k p o q m] at n; cases n
theorem Same.upd_new {H : Hp} {p : Addr} {x : HO} (n : H p = none) : Same H (upd H p x) := fun b o h => hl_new h n
theorem hl_kp {S : List Addr} {H H' : Hp} {a : Addr} {o : HO} (k : Kp S H H') (n : a ∉ S) (h : H a = some o) : H' a = some o := k _ _ h n
theorem hl_same {H H' : Hp} {a : Addr} {o : HO} (k : Same H H') (h : H a = some o) : H' a = some o := k _ _ h
/-- every object outside S stands, outside S' -/
def Lft (S : List Addr) (H : Hp) (S' : List Addr) (H' : Hp) : Prop := ∀ a o, H a = some o → a ∉ S → H' a = some o ∧ a ∉ S'
theorem Lft.refl {S : List Addr} {H : Hp} : Lft S H S H := fun _ _ h n => ⟨h, n⟩
theorem Lft.trans {S S1 S2 : List Addr} {H H1 H2 : Hp} (a : Lft S H S1 H1) (b : Lft S1 H1 S2 H2) : Lft S H S2 H2 := fun x o h n => b x o (a x o h n).1 (a x o h n).2
theorem Lft.new {S : List Addr} {H : Hp} {p : Addr} {x : HO} (n : H p = none) : Lft S H S (upd H p x) := fun _ _ h m => ⟨hl_new h n, m⟩
theorem Lft.set {S : List Addr} {H : Hp} {p : Addr} {x : HO} (m : p ∈ S) : Lft S H S (upd H p x) := fun _ _ h n => ⟨hl_set (fun e => n (e ▸ m)) h, n⟩
theorem Lft.kp {S S1 : List Addr} {H H1 : Hp} (k : Kp S H H1) (m : ∀ a ∈ S, a ∈ S1) : Lft S1 H S1 H1 := fun b o h n => ⟨k b o h fun z => n (m b z), n⟩
theorem Lft.same {S : List Addr} {H H1 : Hp} (k : Same H H1) : Lft S H S H1 := fun b o h n => ⟨k b o h, n⟩
theorem Lft.own {S : List Addr} {H : Hp} {p : Addr} {x : HO} (n : H p = none) : Lft S H (p :: S) (upd H p x) := fun a _ h m => ⟨hl_new h n, fun z => by
  rcases List.mem_cons.mp z with e | e
  · exact ne_of_none h n e
  · exact m e⟩
theorem Lft.sub {S S' : List Addr} {H : Hp} (m : ∀ a ∈ S', a ∈ S) : Lft S H S' H := fun a _ h n => ⟨h, fun z => n (m a z)⟩
/-- plain data -/
inductive O where
  | non | bl (b : Bool) | int (i : Int) | str (x : Str) | tup (os : List O) | lst (os : List O) | dct
mutual
inductive Rep (S : List Addr) (H : Hp) : V → O → Prop
  | non : Rep S H .non .non
  | bl (b : Bool) : Rep S H (.bl b) (.bl b)
  | int (i : Int) : Rep S H (.int i) (.int i)
  | str (x : Str) : Rep S H (.str x) (.str x)
  | tup {a : Addr} {xs : List V} {os : List O} : H a = some (.tup xs) → a ∉ S → RepAll S H xs os → Rep S H (.ref a) (.tup os)
  | lst {a : Addr} {xs : List V} {os : List O} : H a = some (.lst xs) → a ∉ S → RepAll S H xs os → Rep S H (.ref a) (.lst os)
  | dct {a : Addr} {kvs : List (Key × V)} : H a = some (.dK kvs) → a ∉ S → Rep S H (.ref a) .dct
inductive RepAll (S : List Addr) (H : Hp) : List V → List O → Prop
  | nil : RepAll S H [] []
  | cons {v : V} {vs : List V} {o : O} {os : List O} : Rep S H v o → RepAll S H vs os → RepAll S H (v :: vs) (o :: os)
end
mutual
theorem Rep.to {S S' : List Addr} {H H' : Hp} (k : Lft S H S' H') : ∀ {v : V} {o : O}, Rep S H v o → Rep S' H' v o
  | _, _, .non => .non
  | _, _, .bl b => .bl b
  | _, _, .int i => .int i
  | _, _, .str x => .str x
  | _, _, .tup h n r => .tup (k _ _ h n).1 (k _ _ h n).2 (RepAll.to k r)
  | _, _, .lst h n r => .lst (k _ _ h n).1 (k _ _ h n).2 (RepAll.to k r)
  | _, _, .dct h n => .dct (k _ _ h n).1 (k _ _ h n).2
theorem RepAll.to {S S' : List Addr} {H H' : Hp} (k : Lft S H S' H') : ∀ {vs : List V} {os : List O}, RepAll S H vs os → RepAll S' H' vs os
  | _, _, .nil => .nil
  | _, _, .cons r t => .cons (Rep.to k r) (RepAll.to k t)
end
section
variable {S : List Addr} {H : Hp}
theorem RepAll.length : ∀ {vs : List V} {os : List O}, RepAll S H vs os → vs.length = os.length
  | _, _, .nil => rfl
  | _, _, .cons _ t => congrArg (· + 1) (RepAll.length t)
theorem RepAll.get : ∀ {vs : List V} {os : List O} {i : Nat} {v : V}, RepAll S H vs os → vs[i]? = some v → ∃ o, os[i]? = some o ∧ Rep S H v o
  | _, _, _, _, .nil, e => by simp at e
  | _, _, 0, _, .cons r _, e => by simp at e; subst e; exact ⟨_, rfl, r⟩
  | _, _, i + 1, v, .cons _ t, e => by
    obtain ⟨o, h1, h2⟩ := RepAll.get (i := i) (v := v) t (by simpa using e)
    exact ⟨o, by simpa using h1, h2⟩
theorem RepAll.append : ∀ {vs us : List V} {os qs : List O}, RepAll S H vs os → RepAll S H us qs → RepAll S H (vs ++ us) (os ++ qs)
  | _, _, _, _, .nil, s => s
  | _, _, _, _, .cons r t, s => .cons r (RepAll.append t s)
theorem RepAll.take : ∀ {vs : List V} {os : List O} (n : Nat), RepAll S H vs os → RepAll S H (vs.take n) (os.take n)
  | _, _, 0, _ => .nil
  | _, _, _ + 1, .nil => .nil
  | _, _, n + 1, .cons r t => .cons r (RepAll.take n t)
theorem RepAll.drop : ∀ {vs : List V} {os : List O} (n : Nat), RepAll S H vs os → RepAll S H (vs.drop n) (os.drop n)
  | _, _, 0, r => r
  | _, _, _ + 1, .nil => .nil
  | _, _, n + 1, .cons _ t => RepAll.drop n t
theorem RepAll.ints : ∀ (ns : List Int), RepAll S H (ns.map V.int) (ns.map O.int)
  | [] => .nil
  | n :: ns => .cons (.int n) (RepAll.ints ns)
theorem RepAll.ints_inv : ∀ {ns : List Int} {vs : List V}, RepAll S H vs (ns.map O.int) → vs = ns.map V.int
  | [], _, .nil => rfl
  | n :: ns, _, .cons r t => by cases r; rw [RepAll.ints_inv t]; rfl
theorem Rep.tupInv {v : V} {os : List O} (r : Rep S H v (.tup os)) : ∃ a xs, v = .ref a ∧ H a = some (.tup xs) ∧ a ∉ S ∧ RepAll S H xs os := by
  cases r with
  | tup h n t => exact ⟨_, _, rfl, h, n, t⟩
end
/-! ### the drawn state -/
structure StAt (s c : Addr) (H : Hp) (cs : List Int) (j r : Int) : Prop where
  hs : H s = some (.lst [.ref c, .int j, .int r])
  hc : H c = some (.lst (cs.map .int))
  ne : cs ≠ []
  nn : ∀ x ∈ cs, 0 ≤ x
  len : cs.length ≤ 1000
  hj : 0 ≤ j
  hr : 0 ≤ r
  hr' : r < 2147483647
def St (s c : Addr) (H : Hp) : Prop := s ≠ c ∧ ∃ cs j r, StAt s c H cs j r
theorem St.out {s c p : Addr} {H : Hp} (h : St s c H) (n : H p = none) : p ∉ [s, c] := by
  obtain ⟨_, cs, j, r, h⟩ := h
  intro z
  rcases List.mem_cons.mp z with e | z
  · rw [e, h.hs] at n; cases n
  · rw [List.mem_singleton.mp z, h.hc] at n; cases n
theorem St.same {s c : Addr} {H H' : Hp} (h : St s c H) (k : Same H H') : St s c H' := by
  obtain ⟨n, cs, j, r, h⟩ := h
  exact ⟨n, cs, j, r, k _ _ h.hs, k _ _ h.hc, h.ne, h.nn, h.len, h.hj, h.hr, h.hr'⟩
theorem St.new {s c p : Addr} {H : Hp} {x : HO} (h : St s c H) (n : H p = none) : St s c (upd H p x) := h.same (Same.upd_new n)
theorem St.set {s c p : Addr} {H : Hp} {x : HO} (h : St s c H) (n : p ∉ [s, c]) : St s c (upd H p x) := by
  obtain ⟨n0, cs, j, r, h⟩ := h
  exact ⟨n0, cs, j, r, hl_set (fun e => n (by simp [e])) h.hs, hl_set (fun e => n (by simp [e])) h.hc, h.ne, h.nn, h.len, h.hj, h.hr, h.hr'⟩
/-! ### loops and comprehensions -/
section
variable {K : PySem.W.Frag} {D : Ends} {σ : L2.St} {H : Hp} {Q : VK}
def Lp (J : It) (g : TG) (tb : TS) (D : Ends) (σ : L2.St) (H1 : Hp) : Prop := ∃ W : Nat → Nat → L2.St → Hp → Prop, (∃ m, W 0 m σ H1) ∧ ∀ i m σ H, W i m σ H →
  (J.stop i H ∧ D.nx σ H) ∨ (J.go i H ∧ ∃ N : L2.St → Hp → Prop, (∀ σ' H', N σ' H' → ∃ m', m' < m ∧ W (i + 1) m' σ' H') ∧ ∀ x H', J.yld i H x H' → g x σ H' fun σ2 H2 => tb { D with nx := N, ct := N, bk := D.nx } σ2 H2)
theorem r_for {wi : TI} {g : TG} {tb : TS} (h : wi σ H fun J H1 => Lp J g tb D σ H1) : tFor wi g tb D σ H := h
def Rg1 (R : It → Hp → Prop) (vs : List V) (H : Hp) : Prop := ∃ j : Int, vs = [.int j] ∧ -(2 ^ 62) ≤ j ∧ j < 2 ^ 62 ∧ R (Itr 0 j.toNat) H
theorem r_irng1 {ta : TA} {R : It → Hp → Prop} (h : ta σ H (Rg1 R)) : iRng1 ta σ H R := h
theorem r_rg1 {R : It → Hp → Prop} {j : Int} (c : -(2 ^ 62) ≤ j ∧ j < 2 ^ 62) (h : R (Itr 0 j.toNat) H) : Rg1 R [.int j] H := ⟨j, rfl, c.1, c.2, h⟩
def Rg2 (R : It → Hp → Prop) (vs : List V) (H : Hp) : Prop := ∃ i j : Int, vs = [.int i, .int j] ∧ (-(2 ^ 62) ≤ i ∧ i < 2 ^ 62 ∧ -(2 ^ 62) ≤ j ∧ j < 2 ^ 62) ∧ R (Itr i (j - i).toNat) H
theorem r_irng2 {ta : TA} {R : It → Hp → Prop} (h : ta σ H (Rg2 R)) : iRng2 ta σ H R := h
theorem r_rg2 {R : It → Hp → Prop} {i j : Int} (c : -(2 ^ 62) ≤ i ∧ i < 2 ^ 62 ∧ -(2 ^ 62) ≤ j ∧ j < 2 ^ 62) (h : R (Itr i (j - i).toNat) H) : Rg2 R [.int i, .int j] H := ⟨i, j, rfl, c, h⟩
def IlR (K : PySem.W.Frag) (R : It → Hp → Prop) (x : V) (H : Hp) : Prop := ∃ a, x = .ref a ∧ (∃ xs, SqL K H a xs) ∧ R (Itl K a) H
theorem r_ilist {tl : TE} {R : It → Hp → Prop} (h : tl σ H (IlR K R)) : iList K tl σ H R := h
theorem r_il {R : It → Hp → Prop} {a : Addr} {xs : List V} (e : SqL K H a xs) (h : R (Itl K a) H) : IlR K R (.ref a) H := ⟨a, rfl, ⟨xs, e⟩, h⟩
def ItR (K : PySem.W.Frag) (R : It → Hp → Prop) (x : V) (H : Hp) : Prop := ∃ a, x = .ref a ∧ (∃ xs, SqT K H a xs) ∧ R (Itt K a) H
theorem r_itup {tl : TE} {R : It → Hp → Prop} (h : tl σ H (ItR K R)) : iTup K tl σ H R := h
theorem r_it {R : It → Hp → Prop} {a : Addr} {xs : List V} (e : SqT K H a xs) (h : R (Itt K a) H) : ItR K R (.ref a) H := ⟨a, rfl, ⟨xs, e⟩, h⟩
def IzR (K : PySem.W.Frag) (R : It → Hp → Prop) (vs : List V) (H1 : Hp) : Prop := ∃ a b xs ys, vs = [.ref a, .ref b] ∧ ((SqL K H1 a xs ∧ SqL K H1 b ys ∧ R (Itz K a b) H1) ∨ (SqT K H1 a xs ∧ SqT K H1 b ys ∧ R (ItzT K a b) H1))
theorem r_izip {ta : TA} {R : It → Hp → Prop} (h : ta σ H (IzR K R)) : iZipA K ta σ H R := h
theorem r_izt {R : It → Hp → Prop} {a b : Addr} {xs ys : List V} (e1 : SqT K H a xs) (e2 : SqT K H b ys) (h : R (ItzT K a b) H) : IzR K R [.ref a, .ref b] H := ⟨a, b, xs, ys, rfl, .inr ⟨e1, e2, h⟩⟩
theorem lp_by {J : It} {n : Nat} {G : Hp → Prop} {Y : Nat → Hp → V → Hp → Prop} (w : Walk J n G Y) {g : TG} {tb : TS} (Pv : Nat → L2.St → Hp → Prop) (h0 : Pv 0 σ H) (hG : ∀ i σ H, i ≤ n → Pv i σ H → G H)
    (hs : ∀ i x σ H H', i < n → Pv i σ H → Y i H x H' → g x σ H' fun σ2 H2 => tb { D with nx := Pv (i + 1), ct := Pv (i + 1), bk := D.nx } σ2 H2) (hd : ∀ σ H, Pv n σ H → D.nx σ H) : Lp J g tb D σ H := for_it w Pv h0 hG hs hd
/-- ways that meet: what holds of slots and heap where they do -/
theorem r_join {c : TT} {t u : TS} (G : L2.St → Hp → Prop) (h2 : ∀ σ' H', G σ' H' → D.nx σ' H') (h1 : ∀ N : L2.St → Hp → Prop, (∀ σ' H', G σ' H' → N σ' H') → tIfS c t u { D with nx := N } σ H) : tIfS c t u D σ H := h1 D.nx h2
theorem r_joinE {te : TE} (G : V → Hp → Prop) (h2 : ∀ v H', G v H' → Q v H') (h1 : ∀ Q' : VK, (∀ v H', G v H' → Q' v H') → te σ H Q') : te σ H Q := h1 Q h2
theorem r_joinT {te : TT} {R : Bool → Hp → Prop} (G : Bool → Hp → Prop) (h2 : ∀ v H', G v H' → R v H') (h1 : ∀ R' : Bool → Hp → Prop, (∀ v H', G v H' → R' v H') → te σ H R') : te σ H R := h1 R h2
theorem walk_zipT {a b : Addr} {xs ys : List V} {n : Nat} (hn : n = min xs.length ys.length) : Walk (ItzT K a b) n (fun H => SqT K H a xs ∧ SqT K H b ys) (YPair (fun i => xs[i]?) (fun i => ys[i]?)) where
  goes := fun i H hi h => ⟨xs, ys, xs[i]'(by omega), ys[i]'(by omega), h.1, h.2, List.getElem?_eq_getElem (by omega), List.getElem?_eq_getElem (by omega)⟩
  stops := fun H h => ⟨xs, ys, h.1, h.2, by omega⟩
  yields := fun i H x H' _ h y => by
    obtain ⟨T, x1, y1, e1, e2, e3, e4, e5⟩ := y
    exact ⟨T, x1, y1, e1, e2, e3, e4 xs h.1, e5 ys h.2⟩
/-- a comprehension's turns -/
def Lc (J : It) (g : TG) (tt : TT) (te : TE) (vs : List Nat) (σ : L2.St) (D : Addr) (Q : VK) (H1 : Hp) : Prop := ∃ W : Nat → Nat → Hp → Prop, (∃ m, W 0 m (upd H1 D (.lst []))) ∧ ∀ i m H, W i m H →
  (J.stop i H ∧ Q (.ref D) H) ∨ (J.go i H ∧ ∃ Nx : Hp → Prop, (∀ H', Nx H' → ∃ m', m' < m ∧ W (i + 1) m' H') ∧ ∀ x H', J.yld i H x H' → g x (wipe σ vs) H' fun σ2 H2 => wipe σ2 vs = wipe σ vs ∧ tt σ2 H2 fun b H3 =>
    if b = true then te σ2 H3 fun y H4 => ∃ acc, H4 D = some (.lst acc) ∧ acc.length < sizeLine ∧ Nx (upd H4 D (.lst (acc ++ [y]))) else Nx H3)
theorem r_lc {wi : TI} {g : TG} {tt : TT} {te : TE} {vs : List Nat} (h : wi σ H fun J H1 => ∀ D, H1 D = none → Lc J g tt te vs σ D Q H1) : tLc wi g tt te vs σ H Q := h
/-- what an item's part of a turn is to reach: kept with a value, or not kept -/
def LcT (g : TG) (tt : TT) (te : TE) (vs : List Nat) (σ : L2.St) (x : V) (H : Hp) (Y : V → Hp → Prop) (No : Hp → Prop) : Prop :=
  g x (wipe σ vs) H fun σ2 H2 => wipe σ2 vs = wipe σ vs ∧ tt σ2 H2 fun b H3 => if b = true then te σ2 H3 Y else No H3
/-- the list is made of the values kept: R i says what the i-th turn's part is -/
theorem lc_by {J : It} {n : Nat} {G : Hp → Prop} {Yd : Nat → Hp → V → Hp → Prop} (w : Walk J n G Yd) {g : TG} {tt : TT} {te : TE} {vs : List Nat} {D : Addr} (Pv : Nat → Hp → Prop) (h0 : Pv 0 (upd H D (.lst []))) (hG : ∀ i H, i ≤ n → Pv i H → G H)
    (hs : ∀ i x H H', i < n → Pv i H → Yd i H x H' → LcT g tt te vs σ x H' (fun y H4 => ∃ acc, H4 D = some (.lst acc) ∧ acc.length < sizeLine ∧ Pv (i + 1) (upd H4 D (.lst (acc ++ [y])))) (fun H3 => Pv (i + 1) H3)) (hd : ∀ H, Pv n H → Q (.ref D) H) : Lc J g tt te vs σ D Q H := by
  refine ⟨fun i m H => m = n - i ∧ i ≤ n ∧ Pv i H, ⟨n, by simp, Nat.zero_le _, h0⟩, ?_⟩
  rintro i m H ⟨rfl, hi, p⟩
  by_cases hlt : i < n
  · exact .inr ⟨w.goes i H hlt (hG i H hi p), Pv (i + 1), fun H' p' => ⟨n - (i + 1), by omega, rfl, hlt, p'⟩, fun x H' y => hs i x H H' hlt p (w.yields i H x H' hlt (hG i H hi p) y)⟩
  · have e : i = n := by omega
    subst e
    exact .inl ⟨w.stops H (hG _ H hi p), hd H p⟩
/-- every item is kept; its value is told by R, which new objects leave true; the source is left as it is -/
theorem lc_map {J : It} {n : Nat} {G : Hp → Prop} {Yd : Nat → Hp → V → Hp → Prop} (w : Walk J n G Yd) (hn : n ≤ 1000000) {g : TG} {tt : TT} {te : TE} {vs : List Nat} {D : Addr} (nD : H D = none) (R : Nat → V → Hp → Prop) (hR : ∀ i v H H', R i v H → Same H H' → R i v H')
    (hRD : ∀ i v H' acc acc', R i v H' → H' D = some (.lst acc) → R i v (upd H' D (.lst acc'))) (hG : ∀ H', Same H H' → G H') (hY : ∀ i H1 x H2, Yd i H1 x H2 → Same H1 H2)
    (hs : ∀ i x H1 H2 (Y : V → Hp → Prop) (No : Hp → Prop), i < n → Same H H1 → Yd i H1 x H2 → (∀ y H4, Same H2 H4 → R i y H4 → Y y H4) → LcT g tt te vs σ x H2 Y No)
    (hd : ∀ ys H', ys.length = n → Same H H' → H' D = some (.lst ys) → (∀ i y, ys[i]? = some y → R i y H') → Q (.ref D) H') : Lc J g tt te vs σ D Q H := by
  refine lc_by w (fun i H' => Same H H' ∧ ∃ ys : List V, ys.length = i ∧ H' D = some (.lst ys) ∧ ∀ j y, ys[j]? = some y → R j y H') ⟨Same.upd_new nD, [], rfl, upd_same, fun j y e => by simp at e⟩ (fun i H' _ p => hG H' p.1) (fun i x H1 H2 hi p y => ?_) (fun H' p => ?_)
  · obtain ⟨sm, ys, el, eD, hr⟩ := p
    have s2 := hY _ _ _ _ y
    refine hs i x H1 H2 _ _ hi sm y (fun v H4 q1 q2 => ?_)
    have s4 : Same H1 H4 := s2.trans q1
    have e4 : H4 D = some (.lst ys) := s4 _ _ eD
    refine ⟨ys, e4, by rw [el]; exact Nat.lt_of_lt_of_le (Nat.lt_of_lt_of_le hi hn) (by decide), fun b o e => ?_, ys ++ [v], by simp [el], upd_same, fun j y' e => ?_⟩
    · exact hl_set (ne_of_none e nD) (s4 _ _ (sm _ _ e))
    · by_cases hj : j < ys.length
      · rw [List.getElem?_append_left hj] at e
        exact hRD _ _ _ _ _ (hR _ _ _ _ (hr j y' e) s4) e4
      · rw [List.getElem?_append_right (by omega)] at e
        have hj2 : j - ys.length = 0 := by
          cases h : j - ys.length with
          | zero => rfl
          | succ m => rw [h] at e; simp at e
        rw [hj2] at e
        simp at e
        subst e
        have : j = i := by omega
        subst this
        exact hRD _ _ _ _ _ q2 e4
  · obtain ⟨sm, ys, el, eD, hr⟩ := p
    exact hd ys H' el sm eD hr
/-- items are kept or not: t tells which -/
theorem lc_filt {J : It} {n : Nat} {G : Hp → Prop} {Yd : Nat → Hp → V → Hp → Prop} (w : Walk J n G Yd) (hn : n ≤ 1000000) {g : TG} {tt : TT} {te : TE} {vs : List Nat} {D : Addr} (nD : H D = none) (t : Nat → Bool) (hG : ∀ H', Same H H' → G H') (hY : ∀ i H1 x H2, Yd i H1 x H2 → Same H1 H2)
    (hs : ∀ i x H1 H2 (Y : V → Hp → Prop) (No : Hp → Prop), i < n → Same H H1 → Yd i H1 x H2 → (t i = true → ∀ y H4, Same H2 H4 → Y y H4) → (t i = false → ∀ H4, Same H2 H4 → No H4) → LcT g tt te vs σ x H2 Y No)
    (hd : ∀ ys H', ys.isEmpty = (List.range n).all (fun i => !t i) → ys.length ≤ n → Same H H' → H' D = some (.lst ys) → Q (.ref D) H') : Lc J g tt te vs σ D Q H := by
  refine lc_by w (fun i H' => Same H H' ∧ ∃ ys : List V, ys.isEmpty = (List.range i).all (fun i => !t i) ∧ ys.length ≤ i ∧ H' D = some (.lst ys)) ⟨Same.upd_new nD, [], rfl, Nat.le_refl _, upd_same⟩ (fun i H' _ p => hG H' p.1) (fun i x H1 H2 hi p y => ?_) (fun H' p => ?_)
  · obtain ⟨sm, ys, ee, el, eD⟩ := p
    have s2 := hY _ _ _ _ y
    refine hs i x H1 H2 _ _ hi sm y (fun ht v H4 q => ?_) (fun ht H4 q => ?_)
    · have s4 : Same H1 H4 := s2.trans q
      refine ⟨ys, s4 _ _ eD, Nat.lt_of_le_of_lt el (Nat.lt_of_lt_of_le hi (Nat.le_trans hn (by decide))), fun b o e => hl_set (ne_of_none e nD) (s4 _ _ (sm _ _ e)), ys ++ [v], ?_, by simp; omega, upd_same⟩
      rw [List.range_succ, List.all_append, List.all_cons, ht]
      cases ys <;> simp
    · have s4 : Same H1 H4 := s2.trans q
      refine ⟨sm.trans s4, ys, ?_, by omega, s4 _ _ eD⟩
      rw [List.range_succ, List.all_append, List.all_cons, ht, ee]
      simp
  · obtain ⟨sm, ys, ee, el, eD⟩ := p
    exact hd ys H' ee el sm eD
theorem range_all {α : Type} (f : α → Bool) (d : α) : ∀ os : List α, (List.range os.length).all (fun i => f (os.getD i d)) = os.all f
  | [] => rfl
  | o :: os => by
    rw [List.length_cons, List.range_succ_eq_map, List.all_cons, List.all_map, List.all_cons, ← range_all f d os]
    rfl
end
/-! ### the rules with the written part told -/
section
variable {X : Cx} {K : PySem.W.Frag} {e l tg : Expr} {tl te : TE} {t ta : TA}
theorem ix_listK (q : X.K = K := by rfl) : IxR X (rIxL K) := q ▸ ix_list
theorem ix_tupK (q : X.K = K := by rfl) : IxR X (rIxT K) := q ▸ ix_tup
theorem pi_listK (h : PE X l tl) (q : X.K = K := by rfl) : PI X tg l (iList K tl) := q ▸ pi_list h
theorem pi_tupK (h : PE X l tl) (q : X.K = K := by rfl) : PI X tg l (iTup K tl) := q ▸ pi_tup h
theorem cr_lenK (q : X.K = K := by rfl) : CallR X (.builtin "len") (rLen K) := q ▸ cr_len
theorem cr_listOfK (q : X.K = K := by rfl) : CallR X (.type "list") (rListOf K) := q ▸ cr_listOf
theorem cr_tupOfK (q : X.K = K := by rfl) : CallR X (.type "tuple") (rTupOf K) := q ▸ cr_tupOf
theorem cr_allK (hc : X.calm = true) (q : X.K = K := by rfl) : CallR X (.builtin "all") (rAll K) := q ▸ cr_all hc
theorem cr_sumK (hc : X.calm = true) (q : X.K = K := by rfl) : CallR X (.builtin "sum") (rSum K) := q ▸ cr_sum hc
theorem cr_isiK (q : X.K = K := by rfl) : CallR X (.builtin "isinstance") (rIsi K) := q ▸ call_isi
theorem sl_listK (q : X.K = K := by rfl) : SlR X (rSlL K) := q ▸ sl_list
theorem sl_tupAK (q : X.K = K := by rfl) : SlR X (rSlA K) := q ▸ sl_tupA
theorem op_catAK (q : X.K = K := by rfl) : OpR X (binaryOp .Add) (rCatA K) := q ▸ op_catA
theorem castBM {e : Expr} {T : String} {r : V → List V → Hp → VK → Prop} {to : TE} (h : PE X e (tBM X.K T r to t)) (q : X.K = K := by rfl) : PE X e (tBM K T r to t) := q ▸ h
theorem castBM0 {e : Expr} {T : String} {r : V → List V → Hp → VK → Prop} {to : TE} (h : PE X e (tBM0 X.K T r to)) (q : X.K = K := by rfl) : PE X e (tBM0 K T r to) := q ▸ h
theorem castPI {iter : Expr} {wi : PySem.W.Frag → TI} (h : PI X tg iter (wi X.K)) (q : X.K = K := by rfl) : PI X tg iter (wi K) := q ▸ h
theorem castPG {n : Nat} {tg : Expr} {g : TGs} (h : PG X tg (gTup X.K n g)) (q : X.K = K := by rfl) : PG X tg (gTup K n g) := q ▸ h
end
/-! ### calls by keywords alone; keywords in any order -/
theorem pe_callK0 {X : Cx} {CX : CXT} {k : Nat} {f : Addr} {fd : FuncData} {ps ks : List Str} {sp : Sp} {E : XK} {x : Str} {p pos : Pos} {kws : List Keyword} {tk : TA} {g : List Value → List Value → List Value} {gV : List V → List V → List V}
    (F : FnOk X.prog X.w X.K X.mg X.base CX k f fd ps sp) (hr : Room k X.A) (hg : Gl X x) (hm : X.mg x = some (.ref f)) (hk : PySem.W.keepIn X.K (.ref f) = true) (hb : KBinds X.K fd ps ks g gV) (hx : Passes CX X E)
    (hkw : PK X kws tk) (hall : (backToKw pos (keywordEach kws X.env)).all (·.1.isSome) = true := by rfl) (hks : (backToKw pos (keywordEach kws X.env)).filterMap (·.1) = ks := by rfl)
    (hdb : (x == ("__debug__" : Str)) = false := by decide) (hpl : ((backTo pos (starEach [] X.env)).any (·.1) || (backToKw pos (keywordEach kws X.env)).any (·.1.isNone)) = false := by rfl) :
    PE X (.Call (.Name x p) [] kws pos) (tCallK sp gV E tNil tk) := by
  refine ⟨fun pins s σ H Q I h => wpAny_Call_Name_kw (ld_glob I hg hm ?_ hdb)⟩
  refine PySem.W.callWith_KW0 (h₀ := X.base) I.ok.mod.kin hk hall (thn (hkw.run pos pins s σ H _ I h) fun ws s2 ⟨zs, H2, I2, rz, q2⟩ => ⟨I2.kIn, ?_⟩) hpl
  rw [hks]
  exact run_fnk (us := []) F hr hb hx I2 .nil rz q2
def permV (na nb : Nat) (is : List Nat) (vs zs : List V) : List V := if vs.length = na ∧ zs.length = nb then is.map fun i => (vs ++ zs).getD i .non else []
def permU (na nb : Nat) (is : List Nat) (vs zs : List Value) : List Value := if vs.length = na ∧ zs.length = nb then is.map fun i => (vs ++ zs).getD i .none else []
theorem vals_getD : ∀ {xs : List V} {us : List Value} (i : Nat), Vals xs us → RelV (xs.getD i .non) (us.getD i .none)
  | _, _, _, .nil => rfl
  | _, _, 0, .cons r _ => r
  | _, _, i + 1, .cons _ t => by
    have := vals_getD i t
    simpa using this
theorem vals_map {xs : List V} {us : List Value} (r : Vals xs us) : ∀ is : List Nat, Vals (is.map fun i => xs.getD i .non) (is.map fun i => us.getD i .none)
  | [] => .nil
  | i :: is => .cons (vals_getD i r) (vals_map r is)
theorem kb_perm {K : PySem.W.Frag} {fd : FuncData} {ps ks : List Str} {us0 ws0 : Nat} {is : List Nat} (h0 : ps ≠ [])
    (h : ∀ (us ws : List Value), us.length = us0 → ws.length = ws0 → ∀ s : Shared, BindsTo s fd ⟨us, ks.zip ws⟩ (ps.zip (is.map fun i => (us ++ ws).getD i .none))) : KBinds K fd ps ks (permU us0 ws0 is) (permV us0 ws0 is) where
  to := fun s us ws _ hl => by
    unfold permU at hl ⊢
    by_cases c : us.length = us0 ∧ ws.length = ws0
    · rw [if_pos c]
      exact h us ws c.1 c.2 s
    · rw [if_neg c] at hl
      cases ps with
      | nil => exact absurd rfl h0
      | cons _ _ => simp at hl
  rel := fun {vs us zs ws} r1 r2 => by
    unfold permU permV
    rw [r1.length, r2.length]
    by_cases c : us.length = us0 ∧ ws.length = ws0
    · rw [if_pos c, if_pos c]
      exact vals_map (r1.append r2) is
    · rw [if_neg c, if_neg c]
      exact .nil
section
variable {K : PySem.W.Frag} {D : Ends} {σ : L2.St} {H : Hp} {Q : VK}
theorem r_callk {sp : Sp} {gV : List V → List V → List V} {E : XK} {t tk : TA} (h : t σ H fun vs H1 => tk σ H1 fun zs H2 => sp (gV vs zs) H2 Q E) : tCallK sp gV E t tk σ H Q := h
theorem r_perm {sp : Sp} {E : XK} {na nb : Nat} {is : List Nat} {vs zs : List V} (h1 : vs.length = na) (h2 : zs.length = nb) (h : sp (is.map fun i => (vs ++ zs).getD i .non) H Q E) : sp (permV na nb is vs zs) H Q E := by
  unfold permV; rw [if_pos ⟨h1, h2⟩]; exact h
end
theorem hu_of64 {A : Around} {k : Nat} (hr : Room k A) : A.units + 64 < cLine := hr.units
/-! ### against the empty list, the empty tuple -/
def rNil (K : PySem.W.Frag) (g : Bool → Bool) : R2 := fun x y H Q => ∃ a b xs, x = .ref a ∧ y = .ref b ∧ SqL K H a xs ∧ SqL K H b [] ∧ Q (.bl (g xs.isEmpty)) H
def rNilT (K : PySem.W.Frag) (g : Bool → Bool) : R2 := fun x y H Q => ∃ a b xs, x = .ref a ∧ y = .ref b ∧ SqT K H a xs ∧ SqT K H b [] ∧ Q (.bl (g xs.isEmpty)) H
theorem op_eqNil {X : Cx} (hu : X.A.units + 64 < cLine) : OpR X (compareOp .Eq) (rNil X.K id) := by
  intro pins s σ H x y v u Q I rx ry h
  obtain ⟨a, b, xs, rfl, rfl, h1, h2, q⟩ := h
  cases rx; cases ry
  obtain ⟨its, rv, p1, _⟩ := I.list h1
  obtain ⟨its2, rv2, p2, _⟩ := I.list h2
  cases rv2
  have e1 : xs.length = its.length := rv.length
  cases xs with
  | nil =>
    cases rv
    exact PySem.SeqAt.eq_listAt (e := fun _ => true) p1.isList p2.isList rfl (by omega) (fun j h => absurd h (Nat.not_lt_zero j)) ⟨.bl _, H, I, rfl, q⟩
  | cons z zs =>
    cases its with
    | nil => simp at e1
    | cons _ _ => exact PySem.SeqAt.eq_list_lengthsAt p1.isList p2.isList rfl (by omega) ⟨.bl false, H, I, rfl, q⟩
theorem op_neNil {X : Cx} (hu : X.A.units + 64 < cLine) : OpR X (compareOp .NotEq) (rNil X.K not) := by
  intro pins s σ H x y v u Q I rx ry h
  obtain ⟨a, b, xs, rfl, rfl, h1, h2, q⟩ := h
  cases rx; cases ry
  obtain ⟨its, rv, p1, _⟩ := I.list h1
  obtain ⟨its2, rv2, p2, _⟩ := I.list h2
  cases rv2
  have e1 : xs.length = its.length := rv.length
  cases xs with
  | nil =>
    cases rv
    exact PySem.SeqAt.RcNeAt.lists (e := fun _ => true) p1.isList p2.isList rfl (by omega) (fun j h => absurd h (Nat.not_lt_zero j)) _ _ _ _ ⟨.bl _, H, I, rfl, q⟩
  | cons z zs =>
    cases its with
    | nil => simp at e1
    | cons _ _ => exact PySem.SeqAt.RcNeAt.lists_lengths p1.isList p2.isList rfl (by omega) _ _ _ _ ⟨.bl true, H, I, rfl, q⟩
theorem op_eqNilT {X : Cx} (hu : X.A.units + 64 < cLine) : OpR X (compareOp .Eq) (rNilT X.K id) := by
  intro pins s σ H x y v u Q I rx ry h
  obtain ⟨a, b, xs, rfl, rfl, h1, h2, q⟩ := h
  cases rx; cases ry
  obtain ⟨its, rv, p1, _⟩ := I.tuple h1
  obtain ⟨its2, rv2, p2, _⟩ := I.tuple h2
  cases rv2
  have e1 : xs.length = its.length := rv.length
  refine PySem.SeqAt.eq_tupleAt (e := fun _ => true) (show s.heap.IsTuple a its.toArray from p1) (show s.heap.IsTuple b #[] from p2) (by omega) (fun j _ h => absurd h (Nat.not_lt_zero j)) ⟨.bl xs.isEmpty, H, I, ?_, q⟩
  cases xs with
  | nil =>
    cases rv
    rfl
  | cons z zs =>
    cases its with
    | nil => simp at e1
    | cons _ _ => rfl
theorem op_eqNilK {X : Cx} {K : PySem.W.Frag} (hu : X.A.units + 64 < cLine) (q : X.K = K := by rfl) : OpR X (compareOp .Eq) (rNil K id) := q ▸ op_eqNil hu
theorem op_neNilK {X : Cx} {K : PySem.W.Frag} (hu : X.A.units + 64 < cLine) (q : X.K = K := by rfl) : OpR X (compareOp .NotEq) (rNil K not) := q ▸ op_neNil hu
theorem op_eqNilTK {X : Cx} {K : PySem.W.Frag} (hu : X.A.units + 64 < cLine) (q : X.K = K := by rfl) : OpR X (compareOp .Eq) (rNilT K id) := q ▸ op_eqNilT hu
section
variable {K : PySem.W.Frag} {H : Hp} {Q : VK}
theorem r_nilL {g : Bool → Bool} {a b : Addr} {xs : List V} (h1 : SqL K H a xs) (h2 : SqL K H b []) (q : Q (.bl (g xs.isEmpty)) H) : rNil K g (.ref a) (.ref b) H Q := ⟨a, b, xs, rfl, rfl, h1, h2, q⟩
theorem r_nilT {g : Bool → Bool} {a b : Addr} {xs : List V} (h1 : SqT K H a xs) (h2 : SqT K H b []) (q : Q (.bl (g xs.isEmpty)) H) : rNilT K g (.ref a) (.ref b) H Q := ⟨a, b, xs, rfl, rfl, h1, h2, q⟩
end
theorem kt_NoneType_int {K : PySem.W.Frag} : PySem.W.kitOne K (.type "NoneType") (.type "int") = some false := kit_ty (by decide +kernel)
theorem kt_bool_int {K : PySem.W.Frag} : PySem.W.kitOne K (.type "bool") (.type "int") = some true := kit_ty (by decide +kernel)
theorem kt_int_int {K : PySem.W.Frag} : PySem.W.kitOne K (.type "int") (.type "int") = some true := kit_ty (by decide +kernel)
theorem kt_str_int {K : PySem.W.Frag} : PySem.W.kitOne K (.type "str") (.type "int") = some false := kit_ty (by decide +kernel)
theorem kt_tuple_int {K : PySem.W.Frag} : PySem.W.kitOne K (.type "tuple") (.type "int") = some false := kit_ty (by decide +kernel)
theorem kt_list_int {K : PySem.W.Frag} : PySem.W.kitOne K (.type "list") (.type "int") = some false := kit_ty (by decide +kernel)
theorem kt_dict_int {K : PySem.W.Frag} : PySem.W.kitOne K (.type "dict") (.type "int") = some false := kit_ty (by decide +kernel)
theorem kt_NoneType_bool {K : PySem.W.Frag} : PySem.W.kitOne K (.type "NoneType") (.type "bool") = some false := kit_ty (by decide +kernel)
theorem kt_bool_bool {K : PySem.W.Frag} : PySem.W.kitOne K (.type "bool") (.type "bool") = some true := kit_ty (by decide +kernel)
theorem kt_int_bool {K : PySem.W.Frag} : PySem.W.kitOne K (.type "int") (.type "bool") = some false := kit_ty (by decide +kernel)
theorem kt_str_bool {K : PySem.W.Frag} : PySem.W.kitOne K (.type "str") (.type "bool") = some false := kit_ty (by decide +kernel)
theorem kt_tuple_bool {K : PySem.W.Frag} : PySem.W.kitOne K (.type "tuple") (.type "bool") = some false := kit_ty (by decide +kernel)
theorem kt_list_bool {K : PySem.W.Frag} : PySem.W.kitOne K (.type "list") (.type "bool") = some false := kit_ty (by decide +kernel)
theorem kt_dict_bool {K : PySem.W.Frag} : PySem.W.kitOne K (.type "dict") (.type "bool") = some false := kit_ty (by decide +kernel)
theorem kt_NoneType_tuple {K : PySem.W.Frag} : PySem.W.kitOne K (.type "NoneType") (.type "tuple") = some false := kit_ty (by decide +kernel)
theorem kt_bool_tuple {K : PySem.W.Frag} : PySem.W.kitOne K (.type "bool") (.type "tuple") = some false := kit_ty (by decide +kernel)
theorem kt_int_tuple {K : PySem.W.Frag} : PySem.W.kitOne K (.type "int") (.type "tuple") = some false := kit_ty (by decide +kernel)
theorem kt_str_tuple {K : PySem.W.Frag} : PySem.W.kitOne K (.type "str") (.type "tuple") = some false := kit_ty (by decide +kernel)
theorem kt_tuple_tuple {K : PySem.W.Frag} : PySem.W.kitOne K (.type "tuple") (.type "tuple") = some true := kit_ty (by decide +kernel)
theorem kt_list_tuple {K : PySem.W.Frag} : PySem.W.kitOne K (.type "list") (.type "tuple") = some false := kit_ty (by decide +kernel)
theorem kt_dict_tuple {K : PySem.W.Frag} : PySem.W.kitOne K (.type "dict") (.type "tuple") = some false := kit_ty (by decide +kernel)
theorem kt_NoneType_str {K : PySem.W.Frag} : PySem.W.kitOne K (.type "NoneType") (.type "str") = some false := kit_ty (by decide +kernel)
theorem kt_bool_str {K : PySem.W.Frag} : PySem.W.kitOne K (.type "bool") (.type "str") = some false := kit_ty (by decide +kernel)
theorem kt_int_str {K : PySem.W.Frag} : PySem.W.kitOne K (.type "int") (.type "str") = some false := kit_ty (by decide +kernel)
theorem kt_str_str {K : PySem.W.Frag} : PySem.W.kitOne K (.type "str") (.type "str") = some true := kit_ty (by decide +kernel)
theorem kt_tuple_str {K : PySem.W.Frag} : PySem.W.kitOne K (.type "tuple") (.type "str") = some false := kit_ty (by decide +kernel)
theorem kt_list_str {K : PySem.W.Frag} : PySem.W.kitOne K (.type "list") (.type "str") = some false := kit_ty (by decide +kernel)
theorem kt_dict_str {K : PySem.W.Frag} : PySem.W.kitOne K (.type "dict") (.type "str") = some false := kit_ty (by decide +kernel)
theorem kt_NoneType_list {K : PySem.W.Frag} : PySem.W.kitOne K (.type "NoneType") (.type "list") = some false := kit_ty (by decide +kernel)
theorem kt_bool_list {K : PySem.W.Frag} : PySem.W.kitOne K (.type "bool") (.type "list") = some false := kit_ty (by decide +kernel)
theorem kt_int_list {K : PySem.W.Frag} : PySem.W.kitOne K (.type "int") (.type "list") = some false := kit_ty (by decide +kernel)
theorem kt_str_list {K : PySem.W.Frag} : PySem.W.kitOne K (.type "str") (.type "list") = some false := kit_ty (by decide +kernel)
theorem kt_tuple_list {K : PySem.W.Frag} : PySem.W.kitOne K (.type "tuple") (.type "list") = some false := kit_ty (by decide +kernel)
theorem kt_list_list {K : PySem.W.Frag} : PySem.W.kitOne K (.type "list") (.type "list") = some true := kit_ty (by decide +kernel)
theorem kt_dict_list {K : PySem.W.Frag} : PySem.W.kitOne K (.type "dict") (.type "list") = some false := kit_ty (by decide +kernel)
theorem kt_NoneType_dict {K : PySem.W.Frag} : PySem.W.kitOne K (.type "NoneType") (.type "dict") = some false := kit_ty (by decide +kernel)
theorem kt_bool_dict {K : PySem.W.Frag} : PySem.W.kitOne K (.type "bool") (.type "dict") = some false := kit_ty (by decide +kernel)
theorem kt_int_dict {K : PySem.W.Frag} : PySem.W.kitOne K (.type "int") (.type "dict") = some false := kit_ty (by decide +kernel)
theorem kt_str_dict {K : PySem.W.Frag} : PySem.W.kitOne K (.type "str") (.type "dict") = some false := kit_ty (by decide +kernel)
theorem kt_tuple_dict {K : PySem.W.Frag} : PySem.W.kitOne K (.type "tuple") (.type "dict") = some false := kit_ty (by decide +kernel)
theorem kt_list_dict {K : PySem.W.Frag} : PySem.W.kitOne K (.type "list") (.type "dict") = some false := kit_ty (by decide +kernel)
theorem kt_dict_dict {K : PySem.W.Frag} : PySem.W.kitOne K (.type "dict") (.type "dict") = some true := kit_ty (by decide +kernel)
local macro_rules | `(tactic| walk_at "ne") => `(tactic| first | assumption | (refine' Ne.symm ?h1; (case h1 => assumption)))
local macro_rules | `(tactic| walk_at "nin") => `(tactic| first | assumption | exact List.not_mem_nil)
local macro_rules | `(tactic| walk_at "hl") => `(tactic| first
  | assumption
  | exact upd_same
  | (refine' hl_new ?h1 ?h2; (case h2 => assumption); (case h1 => walk_at "hl"))
  | (refine' hl_set ?h2 ?h1; (case h2 => walk_at "ne"); (case h1 => walk_at "hl"))
  | (refine' hl_same ?h2 ?h1; (case h2 => assumption); (case h1 => walk_at "hl"))
  | (refine' hl_kp ?h2 ?h3 ?h1; (case h2 => assumption); (case h3 => walk_at "nin"); (case h1 => walk_at "hl")))
local macro_rules | `(tactic| walk_at "sq") => `(tactic| first | assumption | (refine' SqL.of ?h1; (case h1 => walk_at "hl")) | (refine' SqT.of ?h1; (case h1 => walk_at "hl")))
local macro_rules | `(tactic| walk_at "sc") => `(tactic| first | assumption | omega | (dsimp only; omega) | decide | exact .inl ⟨by omega, by omega⟩ | exact .inr ⟨by omega, by omega⟩ | exact ⟨by omega, by decide⟩)
local macro_rules | `(tactic| walk_at "sz") => `(tactic| first | assumption | ((try simp only [List.length_map, List.length_append, List.length_cons, List.length_nil]); have : (1000000 : Nat) ≤ sizeLine := (by decide); omega))
local macro_rules | `(tactic| walk_at "ty") => `(tactic| first | assumption | exact TyX.base (.int _) | exact TyX.base (.bl _) | exact TyX.base .non | exact TyX.base (.str _) | (refine' TyX.base (.tup ?h1); (case h1 => walk_at "hl")) | (refine' TyX.base (.lst ?h1); (case h1 => walk_at "hl")) | (refine' TyX.base (.dK ?h1); (case h1 => walk_at "hl")))
local macro_rules | `(tactic| walk_at "mem") => `(tactic| first | assumption | (simp; done) | (intro _ h; simp at h ⊢; first | exact h | exact .inr h | exact .inr (.inr h) | (rcases h with h | h <;> simp [h])))
local macro_rules | `(tactic| walk_at "stt") => `(tactic| first | assumption | (refine' St.new ?h1 ?h2; (case h2 => assumption); (case h1 => walk_at "stt")) | (refine' St.set ?h1 ?h2; (case h2 => assumption); (case h1 => walk_at "stt")) | (refine' St.same ?h1 ?h2; (case h2 => assumption); (case h1 => walk_at "stt")))
local macro_rules | `(tactic| walk_at "in") => `(tactic| first | assumption | exact List.mem_cons_self | exact List.mem_cons_of_mem _ List.mem_cons_self | exact List.mem_cons_of_mem _ (List.mem_cons_of_mem _ List.mem_cons_self))
local macro_rules | `(tactic| walk_at "kp") => `(tactic| first
  | exact Kp.refl
  | assumption
  | (refine' Kp.trans ?h1 (Kp.new ?h2); (case h2 => assumption); (case h1 => walk_at "kp"))
  | (refine' Kp.trans ?h1 (Kp.set ?h2); (case h2 => walk_at "in"); (case h1 => walk_at "kp"))
  | (refine' Kp.own ?h1 ?h2; (case h2 => assumption); (case h1 => walk_at "kp"))
  | (refine' Kp.trans ?h1 (Kp.sub ?h2 ?h3); (case h2 => assumption); (case h3 => walk_at "mem"); (case h1 => walk_at "kp"))
  | (refine' Kp.trans ?h1 (Kp.ofSame ?h2); (case h2 => assumption); (case h1 => walk_at "kp")))
local macro_rules | `(tactic| walk_at "sm") => `(tactic| first
  | exact Same.refl _
  | assumption
  | (refine' Same.trans ?h1 (Same.upd_new ?h2); (case h2 => assumption); (case h1 => walk_at "sm"))
  | (refine' Same.trans ?h1 ?h2; (case h2 => assumption); (case h1 => walk_at "sm")))
local macro_rules | `(tactic| walk_at "lf") => `(tactic| first
  | exact Lft.refl
  | (refine' Lft.trans ?h1 (Lft.new ?h2); (case h2 => assumption); (case h1 => walk_at "lf"))
  | (refine' Lft.trans ?h1 (Lft.set ?h2); (case h2 => walk_at "in"); (case h1 => walk_at "lf"))
  | (refine' Lft.trans ?h1 (Lft.kp ?h2 ?h3); (case h2 => assumption); (case h3 => walk_at "mem"); (case h1 => walk_at "lf"))
  | (refine' Lft.trans ?h1 (Lft.same ?h2); (case h2 => assumption); (case h1 => walk_at "lf"))
  | (refine' Lft.trans ?h1 (Lft.own ?h2); (case h2 => assumption); (case h1 => walk_at "lf")))
local macro_rules | `(tactic| walk_at "kt") => `(tactic| first | exact kt_NoneType_int | exact kt_bool_int | exact kt_int_int | exact kt_str_int | exact kt_tuple_int | exact kt_list_int | exact kt_dict_int | exact kt_NoneType_bool | exact kt_bool_bool | exact kt_int_bool | exact kt_str_bool | exact kt_tuple_bool | exact kt_list_bool | exact kt_dict_bool | exact kt_NoneType_tuple | exact kt_bool_tuple | exact kt_int_tuple | exact kt_str_tuple | exact kt_tuple_tuple | exact kt_list_tuple | exact kt_dict_tuple | exact kt_NoneType_str | exact kt_bool_str | exact kt_int_str | exact kt_str_str | exact kt_tuple_str | exact kt_list_str | exact kt_dict_str | exact kt_NoneType_list | exact kt_bool_list | exact kt_int_list | exact kt_str_list | exact kt_tuple_list | exact kt_list_list | exact kt_dict_list | exact kt_NoneType_dict | exact kt_bool_dict | exact kt_int_dict | exact kt_str_dict | exact kt_tuple_dict | exact kt_list_dict | exact kt_dict_dict)
local macro_rules | `(tactic| walk_at "st1") => `(tactic| first
  | with_reducible refine r_seq ?_
  | with_reducible refine r_for ?_
  | with_reducible refine r_irng1 ?_
  | ((with_reducible refine r_rg1 ?e1 ?_); (case e1 => omega))
  | with_reducible refine r_irng2 ?_
  | ((with_reducible refine r_rg2 ?e1 ?_); (case e1 => omega))
  | with_reducible refine r_ilist ?_
  | ((with_reducible refine' r_il ?e1 ?_); (case e1 => walk_at "sq"))
  | with_reducible refine r_itup ?_
  | ((with_reducible refine' r_it ?e1 ?_); (case e1 => walk_at "sq"))
  | with_reducible refine r_izip ?_
  | ((with_reducible refine' r_izt ?e1 ?e2 ?_); (case e1 => walk_at "sq"); (case e2 => walk_at "sq"))
  | with_reducible refine r_lc ?_
  | with_reducible refine r_tand ?_
  | with_reducible refine r_tor ?_
  | with_reducible refine r_tnot ?_
  | with_reducible refine r_andv ?_
  | with_reducible refine r_orv ?_
  | with_reducible refine r_notv ?_
  | with_reducible refine r_chain ?_
  | with_reducible refine' r_t ?_
  | with_reducible refine' r_f ?_
  | with_reducible refine r_bm ?_
  | with_reducible refine r_tb ?_
  | with_reducible refine r_yes ?_
  | ((with_reducible refine r_sz ?e1 ?_); (case e1 => rfl))
  | with_reducible refine r_sl ?_
  | ((with_reducible refine' r_sll ?e1 ?_); (case e1 => walk_at "sq"))
  | with_reducible refine r_nopart ?_
  | with_reducible refine r_part ?_
  | with_reducible refine r_parti ?_
  | with_reducible refine r_callk ?_
  | with_reducible refine r_perm (by rfl) (by rfl) ?_
  | ((with_reducible refine' r_nilL ?e1 ?e2 ?_); (case e1 => walk_at "sq"); (case e2 => walk_at "sq"))
  | ((with_reducible refine' r_nilT ?e1 ?e2 ?_); (case e1 => walk_at "sq"); (case e2 => walk_at "sq"))
  | ((with_reducible refine' r_app0 ?e1 ?e2 ?_); (case e1 => walk_at "hl"); (case e2 => walk_at "sz"))
  | ((with_reducible refine' r_ty ?e1 ?_); (case e1 => walk_at "hl"))
  | ((with_reducible refine' r_all ?e1 ?_); (case e1 => walk_at "sq"))
  | ((with_reducible refine' r_sum ?e1 ?_); (case e1 => walk_at "sq"))
  | ((with_reducible refine' r_isi ?e1 ?e2 ?e3 ?_); (case e1 => exact .ty _); (case e2 => walk_at "ty"); (case e3 => walk_at "kt"))
  | with_reducible refine r_asg ?_
  | with_reducible refine r_gname ?_
  | ((with_reducible refine' r_var ?e1 ?_); (case e1 => rfl))
  | with_reducible refine r_c ?_
  | with_reducible refine r_op ?_
  | with_reducible refine r_i0 ?_
  | ((with_reducible refine' r_i ?e1 ?_); (case e1 => walk_at "sc"))
  | ((with_reducible refine' r_ixl ?e1 ?e2 ?_); (case e1 => walk_at "sq"); (case e2 => first | assumption | rfl))
  | ((with_reducible refine' r_ixt ?e1 ?e2 ?_); (case e1 => walk_at "sq"); (case e2 => first | assumption | rfl))
  | with_reducible refine r_cb ?_
  | with_reducible refine r_cons ?_
  | with_reducible refine r_nil ?_
  | ((with_reducible refine' r_len ?e1 ?_); (case e1 => walk_at "sq"))
  | ((with_reducible refine' r_lent ?e1 ?_); (case e1 => walk_at "sq"))
  | with_reducible refine r_abs ?_
  | ((with_reducible refine' r_listl ?e1 ?_); (case e1 => walk_at "sq"))
  | ((with_reducible refine' r_listt ?e1 ?_); (case e1 => walk_at "sq"))
  | ((with_reducible refine' r_tupl ?e1 ?_); (case e1 => walk_at "sq"))
  | ((with_reducible refine' r_tupt ?e1 ?_); (case e1 => walk_at "sq"))
  | with_reducible refine r_ife ?_
  | with_reducible refine r_test ?_
  | with_reducible refine r_bl ?_
  | with_reducible refine r_ret ?_
  | with_reducible refine r_gsub ?_
  | ((with_reducible refine' r_setl ?e1 ?e2 ?_); (case e1 => walk_at "hl"); (case e2 => first | assumption | rfl))
  | with_reducible refine r_next ?_
  | with_reducible refine r_call ?_
  | with_reducible refine r_lst ?_
  | with_reducible refine r_tup ?_
  | with_reducible refine r_drop ?_
  | ((with_reducible refine' r_eq ?e1 ?_); (case e1 => rfl))
  | ((with_reducible refine' r_ne ?e1 ?_); (case e1 => rfl)))
local macro_rules | `(tactic| walk_at "st") => `(tactic| repeat (walk_at "st1"))
local macro_rules | `(tactic| walk_at "if") => `(tactic| ((first | refine r_if ?_ | (simp only []; refine r_if ?_)); walk_at "st"))
structure Tx (K : PySem.W.Frag) (mg : Str → Option Value) : Prop where
  c_FIGURES : ∃ t, mg "FIGURES" = some (.str "0123456789" t)
  c_LETTERS : ∃ t, mg "LETTERS" = some (.str "abcdefghijklmnopqrstuvwxyz" t)
  c_LONGEST_PLACE : ∃ t, mg "LONGEST_PLACE" = some (.int 40 t)
  m_abs : mg "abs" = none
  m_all : mg "all" = none
  m_bool : mg "bool" = none
  m_dict : mg "dict" = none
  m_int : mg "int" = none
  m_isinstance : mg "isinstance" = none
  m_len : mg "len" = none
  m_list : mg "list" = none
  m_range : mg "range" = none
  m_repr : mg "repr" = none
  m_sorted : mg "sorted" = none
  m_str : mg "str" = none
  m_sum : mg "sum" = none
  m_tuple : mg "tuple" = none
  m_zip : mg "zip" = none
def topS (i : Nat) : Stmt := PySem.Challenge.pw_onetrace_k03_forms_reckoned.main.body.getD i (.Pass ⟨0, 0, 0, 0⟩)
abbrev s_is_whole : Stmt := topS 4
theorem sc_is_whole : FnScope ["thing"] ["thing"] (defScope s_is_whole) := ⟨rfl, rfl, rfl, by decide +kernel, rfl, by decide +kernel, by decide +kernel⟩
abbrev s_is_number : Stmt := topS 5
theorem sc_is_number : FnScope ["thing", "p"] ["thing", "p"] (defScope s_is_number) := ⟨rfl, rfl, rfl, by decide +kernel, rfl, by decide +kernel, by decide +kernel⟩
abbrev s_is_place : Stmt := topS 6
theorem sc_is_place : FnScope ["thing"] ["thing"] (defScope s_is_place) := ⟨rfl, rfl, rfl, by decide +kernel, rfl, by decide +kernel, by decide +kernel⟩
abbrev s_has_only : Stmt := topS 7
theorem sc_has_only : FnScope ["text", "signs", "sign"] ["text", "signs"] (defScope s_has_only) := ⟨rfl, rfl, rfl, by decide +kernel, rfl, by decide +kernel, by decide +kernel⟩
abbrev s_is_tuple : Stmt := topS 8
theorem sc_is_tuple : FnScope ["thing", "least", "most"] ["thing", "least", "most"] (defScope s_is_tuple) := ⟨rfl, rfl, rfl, by decide +kernel, rfl, by decide +kernel, by decide +kernel⟩
abbrev s_do_rise : Stmt := topS 9
theorem sc_do_rise : FnScope ["things", "one", "other"] ["things"] (defScope s_do_rise) := ⟨rfl, rfl, rfl, by decide +kernel, rfl, by decide +kernel, by decide +kernel⟩
abbrev s_is_form : Stmt := topS 11
theorem sc_is_form : FnScope ["thing", "p", "n", "terms", "term", "place", "_"] ["thing", "p"] (defScope s_is_form) := ⟨rfl, rfl, rfl, by decide +kernel, rfl, by decide +kernel, by decide +kernel⟩
abbrev s_is_term : Stmt := topS 12
theorem sc_is_term : FnScope ["thing", "p"] ["thing", "p"] (defScope s_is_term) := ⟨rfl, rfl, rfl, by decide +kernel, rfl, by decide +kernel, by decide +kernel⟩
abbrev s_new_form : Stmt := topS 13
theorem sc_new_form : FnScope ["n", "pairs", "p", "worths", "place", "k"] ["n", "pairs", "p"] (defScope s_new_form) := ⟨rfl, rfl, rfl, by decide +kernel, rfl, by decide +kernel, by decide +kernel⟩
abbrev s_place_form : Stmt := topS 14
theorem sc_place_form : FnScope ["place"] ["place"] (defScope s_place_form) := ⟨rfl, rfl, rfl, by decide +kernel, rfl, by decide +kernel, by decide +kernel⟩
abbrev s_sum_of : Stmt := topS 15
theorem sc_sum_of : FnScope ["a", "b", "p"] ["a", "b", "p"] (defScope s_sum_of) := ⟨rfl, rfl, rfl, by decide +kernel, rfl, by decide +kernel, by decide +kernel⟩
abbrev s_times_of : Stmt := topS 16
theorem sc_times_of : FnScope ["a", "n", "p", "place", "k"] ["a", "n", "p"] (defScope s_times_of) := ⟨rfl, rfl, rfl, by decide +kernel, rfl, by decide +kernel, by decide +kernel⟩
abbrev s_put_in : Stmt := topS 17
theorem sc_put_in : FnScope ["form", "forms", "p", "n", "terms", "pairs", "place", "k", "more", "inner", "other", "many"] ["form", "forms", "p"] (defScope s_put_in) := ⟨rfl, rfl, rfl, by decide +kernel, rfl, by decide +kernel, by decide +kernel⟩
abbrev s_worth_of : Stmt := topS 18
theorem sc_worth_of : FnScope ["form", "worths", "p", "n", "terms", "place", "k"] ["form", "worths", "p"] (defScope s_worth_of) := ⟨rfl, rfl, rfl, by decide +kernel, rfl, by decide +kernel, by decide +kernel⟩
abbrev s_law_begun : Stmt := topS 20
theorem sc_law_begun : FnScope ["script", "cell"] ["script"] (defScope s_law_begun) := ⟨rfl, rfl, rfl, by decide +kernel, rfl, by decide +kernel, by decide +kernel⟩
abbrev s_law_draw : Stmt := topS 21
theorem sc_law_draw : FnScope ["state", "many", "cells", "at", "cell"] ["state", "many"] (defScope s_law_draw) := ⟨rfl, rfl, rfl, by decide +kernel, rfl, by decide +kernel, by decide +kernel⟩
abbrev s_law_prime : Stmt := topS 22
theorem sc_law_prime : FnScope ["state", "some"] ["state"] (defScope s_law_prime) := ⟨rfl, rfl, rfl, by decide +kernel, rfl, by decide +kernel, by decide +kernel⟩
abbrev s_law_place : Stmt := topS 23
theorem sc_law_place : FnScope ["state", "signs", "size", "word"] ["state"] (defScope s_law_place) := ⟨rfl, rfl, rfl, by decide +kernel, rfl, by decide +kernel, by decide +kernel⟩
abbrev s_law_places : Stmt := topS 24
theorem sc_law_places : FnScope ["state", "many", "some", "k", "place"] ["state", "many"] (defScope s_law_places) := ⟨rfl, rfl, rfl, by decide +kernel, rfl, by decide +kernel, by decide +kernel⟩
abbrev s_law_form : Stmt := topS 25
theorem sc_law_form : FnScope ["state", "places", "q", "terms", "place", "times"] ["state", "places", "q"] (defScope s_law_form) := ⟨rfl, rfl, rfl, by decide +kernel, rfl, by decide +kernel, by decide +kernel⟩
abbrev s_law_table : Stmt := topS 26
theorem sc_law_table : FnScope ["lot", "times", "table", "place", "many"] ["lot", "times"] (defScope s_law_table) := ⟨rfl, rfl, rfl, by decide +kernel, rfl, by decide +kernel, by decide +kernel⟩
abbrev s_law_owed : Stmt := topS 27
theorem sc_law_owed : FnScope ["tables", "q", "whole", "table", "place", "terms"] ["tables", "q"] (defScope s_law_owed) := ⟨rfl, rfl, rfl, by decide +kernel, rfl, by decide +kernel, by decide +kernel⟩
abbrev s_law_put : Stmt := topS 28
theorem sc_law_put : FnScope ["lot", "lots", "q", "tables", "place", "many"] ["lot", "lots", "q"] (defScope s_law_put) := ⟨rfl, rfl, rfl, by decide +kernel, rfl, by decide +kernel, by decide +kernel⟩
abbrev s_law_right : Stmt := topS 29
theorem sc_law_right : FnScope ["state", "places", "q", "one", "other", "times", "lots", "place", "kept", "made", "held", "owed", "many", "told"] ["state", "places", "q"] (defScope s_law_right) := ⟨rfl, rfl, rfl, by decide +kernel, rfl, by decide +kernel, by decide +kernel⟩
abbrev s_law : Stmt := topS 30
theorem sc_law : FnScope ["script", "state", "turn", "q", "places"] ["script"] (defScope s_law) := ⟨rfl, rfl, rfl, by decide +kernel, rfl, by decide +kernel, by decide +kernel⟩
theorem kb_put_in_2_1_0 {K : PySem.W.Frag} {f : Addr} {fd : FuncData} (F : Fun K "put_in" "put_in" s_put_in f fd) : ∀ (us ws : List Value), us.length = 0 → ws.length = 3 → ∀ s : Shared, BindsTo s fd ⟨us, (["p", "forms", "form"] : List Str).zip ws⟩ ((["form", "forms", "p"] : List Str).zip (([2, 1, 0] : List Nat).map fun i => (us ++ ws).getD i .none)) := by
  obtain ⟨oc, od, kV, doc, pm, an, cdv, ct, osl, rfl, lk, hcd⟩ := F.ex
  intro us ws h1 h2 s
  match us, h1, ws, h2 with
  | [], _, [w0, w1, w2], _ => exact .of_eq rfl
theorem kb_sum_of_1_0_2 {K : PySem.W.Frag} {f : Addr} {fd : FuncData} (F : Fun K "sum_of" "sum_of" s_sum_of f fd) : ∀ (us ws : List Value), us.length = 0 → ws.length = 3 → ∀ s : Shared, BindsTo s fd ⟨us, (["b", "a", "p"] : List Str).zip ws⟩ ((["a", "b", "p"] : List Str).zip (([1, 0, 2] : List Nat).map fun i => (us ++ ws).getD i .none)) := by
  obtain ⟨oc, od, kV, doc, pm, an, cdv, ct, osl, rfl, lk, hcd⟩ := F.ex
  intro us ws h1 h2 s
  match us, h1, ws, h2 with
  | [], _, [w0, w1, w2], _ => exact .of_eq rfl
theorem kb_times_of_2_0_1 {K : PySem.W.Frag} {f : Addr} {fd : FuncData} (F : Fun K "times_of" "times_of" s_times_of f fd) : ∀ (us ws : List Value), us.length = 0 → ws.length = 3 → ∀ s : Shared, BindsTo s fd ⟨us, (["n", "p", "a"] : List Str).zip ws⟩ ((["a", "n", "p"] : List Str).zip (([2, 0, 1] : List Nat).map fun i => (us ++ ws).getD i .none)) := by
  obtain ⟨oc, od, kV, doc, pm, an, cdv, ct, osl, rfl, lk, hcd⟩ := F.ex
  intro us ws h1 h2 s
  match us, h1, ws, h2 with
  | [], _, [w0, w1, w2], _ => exact .of_eq rfl
theorem kb_worth_of_2_0_1 {K : PySem.W.Frag} {f : Addr} {fd : FuncData} (F : Fun K "worth_of" "worth_of" s_worth_of f fd) : ∀ (us ws : List Value), us.length = 0 → ws.length = 3 → ∀ s : Shared, BindsTo s fd ⟨us, (["worths", "p", "form"] : List Str).zip ws⟩ ((["form", "worths", "p"] : List Str).zip (([2, 0, 1] : List Nat).map fun i => (us ++ ws).getD i .none)) := by
  obtain ⟨oc, od, kV, doc, pm, an, cdv, ct, osl, rfl, lk, hcd⟩ := F.ex
  intro us ws h1 h2 s
  match us, h1, ws, h2 with
  | [], _, [w0, w1, w2], _ => exact .of_eq rfl
/-! ### defs that run while nothing is being shown (repr): the list of guards is empty -/
structure FnG (P : Program) (w : World) (K : PySem.W.Frag) (mg : Str → Option Value) (base : Heap) (k : Nat) (f : Addr) (fd : FuncData) (ps : List Str) (sp : Sp) : Prop where
  len : ∀ vs H Q E, sp vs H Q E → vs.length = ps.length
  run : ∀ (A : Around) (outer : List Env) (s : Shared) (H : Hp) (args : Args) (us : List Value) (vs : List V) (Q : VK) (E : XK), A.guards = some [] → Room k A → Env0 P w K mg base A outer s H → BindsTo s fd args (ps.zip us) → Vals vs us → sp vs H Q E →
    codeAny (model P w) A (.call (.ref f) args) (CR CX0 outer P w H s Q E) s
section
variable {P : Program} {w : World} {K : PySem.W.Frag} {mg : Str → Option Value} {base : Heap}
theorem fnG_of {k : Nat} {x qual : Str} {st : Stmt} {f : Addr} {fd : FuncData} {N ps : List Str} {sp : Sp} (F : Fun K x qual st f fd) (S : FnScope N ps (defScope st)) (hlen : ∀ vs H Q E, sp vs H Q E → vs.length = ps.length)
    (body : ∀ (cdv : Value) (A : Around) (outer : List Env) (s : Shared) (H : Hp) (vs : List V) (Q : VK) (E : XK), A.guards = some [] → Room k (A.deeper (envOfC qual (defScope st) s.heap.objs.size f cdv)) → sp vs H Q E →
      ∃ t, PSs (cxOf CX0 P w K mg base N qual (defScope st) f cdv A outer s H E).nox (defBody st) t ∧ t { nx := fun _ H' => Q .non H', rt := Q } (L2.start N vs) H) : FnG P w K mg base (k + 1) f fd ps sp := by
  obtain ⟨oc, od, kV, doc, pm, an, cdv, ct, osl, rfl, lk, hcd⟩ := F.ex
  refine ⟨hlen, fun A outer s H args us vs Q E hga hr e0 hb r hsp => ?_⟩
  have inK : K.In s.heap := e0.mod.kin.keeps (fun b o q => (e0.bs b o q).1)
  have nl : s.heap.NoLimit := e0.mod.nolimit.keeps (fun b o q => (e0.bs b o q).1)
  have kinds : ∀ y ∈ ps.zip us, (defScope st).names.lookup y.1 = some .local ∨ ((defScope st).names.lookup y.1 = some .cell ∧ ((cellsFrom (s.heap.objs.size + 1) (defScope st).names []).lookup y.1).isSome = true) := by
    intro y hy
    have := S.par y.1 (List.of_mem_zip (a := y.1) (b := y.2) hy).1
    exact this.elim .inl (fun z => .inr ⟨z, PySem.W.cellsFrom_some _ _ _ (.inl z)⟩)
  apply codeAny_call_function hr.depth (inK _ _ lk) rfl S.co S.gen rfl (PySem.W.codeRec_of inK hcd)
  apply hb
  apply wpAny_newFunctionEnv_cells S.kind kinds
  intro env he s1 x
  subst he
  refine ⟨nl.keeps x.toInCall.keep, codeAny_func ?_⟩
  obtain ⟨t, ht, hq⟩ := body cdv A outer s H vs Q E hga (hr.deeper _) hsp
  have J0 := inv_start (CX := CX0) (E := E) S hr.hd e0 (hlen _ _ _ _ hsp) r x
  refine wpAny_mono (ht.nox.run [] s1 (L2.start N vs) H _ J0 hq) (fun fl s' hs => ?_) (fun e s' hs => hs)
  match fl, hs with
  | .ret u, ⟨v, σ', H', J, rv, q⟩ => exact ⟨v, H', J.os, J.bare, J.base, J.hok, rv, q⟩
  | .next, ⟨σ', H', J, q⟩ => exact ⟨V.non, H', J.os, J.bare, J.base, J.hok, rfl, q⟩
  | .brk, ⟨_, _, _, q⟩ => exact q.elim
  | .cont, ⟨_, _, _, q⟩ => exact q.elim
end
/-! ### the law's own call, where nothing is being shown -/
section
variable {P : Program} {w : World} {K : PySem.W.Frag} {mg mb : Str → Option Value} {k : Nat} {fa a : Addr} {fd : FuncData} {x : Str} {sp : Sp} {g0 : Shared} {vs : List Value} {ns : List Int}
/-- from a heap H that tracks nothing but, at most, the script -/
theorem lawG_from (inK : K.In g0.heap) (hns : g0.heap.Ns mainGlobals mg) (hb : g0.heap.Ns builtinsNs mb) (hbb : ∀ x : Str, x ≠ "__name__" → mb x = bootBuiltins x) (nl : g0.heap.NoLimit) (hg : g0.gens = #[])
    (ha : g0.heap.get? a = some { cls := .type "list", data := .seq vs.toArray }) (hr : Room k callerA)
    (F : ∀ base : Heap, K.In base → base.Ns mainGlobals mg → FnG P w K mg base k fa fd [x] sp) (hbind : ∀ (s : Shared) (u : Value), BindsTo s fd ⟨[u], []⟩ [(x, u)])
    (hsp : ∀ H : Hp, Only H → SqL K H a (ns.map V.int) → sp [.ref a] H (fun v _ => v = .bl true) fun _ _ _ => False)
    (H : Hp) (onl : Only H) (script : SqL K H a (ns.map V.int)) (ok : HOk P w H g0.heap) (at_ : ∀ b, H b ≠ none → b = a) (off : H a ≠ none → K.lookup a = none) :
    codeAny (model P w) callerA (.call (.ref fa) ⟨[.ref a], []⟩) (fun r s' => r = .ok (.ret (.bool true)) ∧ OldK g0.heap s'.heap ∧ s'.os = g0.os ∧ AllBare s'.gens) g0 := by
  have free_dict : ∀ (b : Addr) (o : Obj) (es : Array DictEntry) (ep : Nat), g0.heap.get? b = some o → o.data = .dict es ep → H b = none := by
    intro b o es ep e d
    by_cases q : H b = none
    · exact q
    · obtain rfl := at_ b q
      rw [e] at ha
      injection ha with ha
      rw [ha] at d
      cases d
  have to_base : ∀ (b : Addr) (m : Str → Option Value), g0.heap.Ns b m → (hidT g0.heap H).Ns b m := by
    intro b m n
    obtain ⟨o, es, ep, e, d, r⟩ := n
    exact ⟨o, es, ep, hidT_get e (free_dict b o es ep e d), d, r⟩
  have baseK : K.In (hidT g0.heap H) := by
    intro b o e
    refine hidT_get (inK b o e) ?_
    by_cases q : H b = none
    · exact q
    · obtain rfl := at_ b q
      rw [off q] at e
      cases e
  obtain ⟨mc, n1, n2⟩ := nl
  have M : Mod K mg (hidT g0.heap H) := ⟨baseK, to_base _ _ hns, ⟨mb, to_base _ _ hb, hbb⟩, ⟨mc, to_base _ _ n1, n2⟩⟩
  have env : Env0 P w K mg (hidT g0.heap H) callerA [] g0 H :=
    { frames := rfl, mod := M, bs := fun b o e => of_hidT e, bsz := Nat.le_of_eq (hidT_size _ _), funs := trivial, frf := fun b z => (by cases z), hok := ok, bare := .of_eq hg }
  have run := (F _ baseK (to_base _ _ hns)).run callerA [] g0 H ⟨[.ref a], []⟩ [.ref a] [.ref a] _ _ rfl hr env (hbind g0 (.ref a)) (.cons rfl .nil) (hsp H onl script)
  refine codeAny_mono run (fun r s' z => ?_)
  match r, z with
  | .ok (.ret u), z =>
    obtain ⟨v, H', os, bare, un, ok', rv, q⟩ := z
    have q : v = .bl true := q
    subst q
    obtain rfl : u = Value.bool true := rv
    refine ⟨rfl, OldK.of_keep (fun b o e => ?_), os, bare⟩
    by_cases q : H b = none
    · exact un.keep b o e q (by intro z; cases z) (by intro z; cases z)
    · rcases onl b with z | ⟨ob, xs, z⟩
      · exact absurd z q
      · have e1 := (ok b _ z).1
        have e2 := (ok' b _ (un.frzs b ob _ z)).1
        rw [e] at e1
        injection e1 with e1
        rw [e1]
        exact e2
theorem lawG_call (inK : K.In g0.heap) (hns : g0.heap.Ns mainGlobals mg) (hb : g0.heap.Ns builtinsNs mb) (hbb : ∀ x : Str, x ≠ "__name__" → mb x = bootBuiltins x) (nl : g0.heap.NoLimit) (hg : g0.gens = #[])
    (ha : g0.heap.get? a = some { cls := .type "list", data := .seq vs.toArray }) (hi : IntsAre vs ns) (hl : ns.length ≤ sizeLine) (hr : Room k callerA)
    (F : ∀ base : Heap, K.In base → base.Ns mainGlobals mg → FnG P w K mg base k fa fd [x] sp) (hbind : ∀ (s : Shared) (u : Value), BindsTo s fd ⟨[u], []⟩ [(x, u)])
    (hsp : ∀ H : Hp, Only H → SqL K H a (ns.map V.int) → sp [.ref a] H (fun v _ => v = .bl true) fun _ _ _ => False) :
    codeAny (model P w) callerA (.call (.ref fa) ⟨[.ref a], []⟩) (fun r s' => r = .ok (.ret (.bool true)) ∧ OldK g0.heap s'.heap ∧ s'.os = g0.os ∧ AllBare s'.gens) g0 := by
  have rv : Vals (ns.map V.int) vs := vals_ints hi
  have el : vs.length = ns.length := hi.length
  by_cases hk : K.lookup a = none
  · refine lawG_from inK hns hb hbb nl hg ha hr F hbind hsp (fun b => if b = a then some (.frz { cls := .type "list", data := .seq vs.toArray } (.lst (ns.map V.int))) else none) (fun b => ?_) (.inl (.inr ⟨_, if_pos rfl⟩)) (fun b o e => ?_) (fun b z => ?_) (fun _ => hk)
    · by_cases q : b = a
      · exact .inr ⟨_, _, if_pos q⟩
      · exact .inl (if_neg q)
    · by_cases q : b = a
      · subst q
        have e := (if_pos rfl).symm.trans e
        injection e with e
        rw [← e]
        exact ⟨ha, by rw [List.length_map]; exact hl, vs, _, rv, ha⟩
      · have e := (if_neg q).symm.trans e
        cases e
    · by_cases q : b = a
      · exact q
      · exact absurd (if_neg q) z
  · obtain ⟨o, ho⟩ := Option.ne_none_iff_exists'.mp hk
    have e := inK a o ho
    rw [ha] at e
    injection e with e
    subst e
    exact lawG_from inK hns hb hbb nl hg ha hr F hbind hsp (fun _ => none) (fun _ => .inl rfl) (.inr ⟨_, vs.toArray, _, ho, rfl, rfl, rfl, by rw [List.size_toArray, el]; exact hl, by simpa using rv⟩) (fun b o e => by cases e) (fun b z => absurd rfl z) (fun z => absurd rfl z)
end
theorem walkG_of {l : PySem.W.OpenLaw} {n k : Nat} {q : Program} {loose : List Str} {XP : (Str → Option Value) → Heap → Prop} {YP : World → Heap → Prop} {d : DefRec} {K : Params → PySem.W.Frag} {sp : World → Sp} {x : Str}
    (hn : l.most = some n) (hn2 : n ≤ sizeLine) (hdf : d.params.defaults = []) (hr : Room k callerA) (hY : ∀ (w : World) (h : Heap), YP w h → (K w.params).In h)
    (F : ∀ (w : World) (mg : Str → Option Value) (fa : Addr) (h : Heap), (K w.params).In h → h.Ns mainGlobals mg → mg d.name = some (.ref fa) →
      ∃ fd : FuncData, (∀ (s : Shared) (u : Value), BindsTo s fd ⟨[u], []⟩ [(x, u)]) ∧ ∀ base : Heap, (K w.params).In base → base.Ns mainGlobals mg → FnG l.prog w (K w.params) mg base k fa fd [x] (sp w))
    (hsp : ∀ (w : World) (H : Hp) (a : Addr) (ns : List Int), ns.length ≤ n → Only H → SqL (K w.params) H a (ns.map V.int) → sp w [.ref a] H (fun v _ => v = .bl true) fun _ _ _ => False) :
    PySem.W.WalkO q loose XP YP l.row.toRowW d [] (fun f vs => PySem.call f vs) := by
  apply Att.attach_call hn hdf
  intro w s₀ s₁ mg mb fa o pm cd doc a vs ns G Y ho hd hcd hmg hobj hints hlen hg
  obtain ⟨fd, b, f⟩ := F w mg fa _ (hY w _ Y) G.T.g hmg
  exact lawG_call (hY w _ Y) G.T.g G.T.b G.T.builtins G.T.nolimit hg hobj hints (Nat.le_trans hlen hn2) hr f b (fun H o s => hsp w H a ns hlen o s)
/-! ### the law's own: draws -/
def sp_law_draw (_ : PySem.W.Frag) : Sp := fun vs H Q _ => ∃ (s c : Addr) (m : Int), vs = [.ref s, .int m] ∧ St s c H ∧ (0 < m ∧ m < 1073741824) ∧
  ∀ d H', Kp [s, c] H H' → St s c H' → 0 ≤ d ∧ d < m → Q (.int d) H'
theorem St.nil0 {s c : Addr} {H : Hp} (h : St s c H) : H s ≠ none ∧ H c ≠ none := by
  obtain ⟨_, cs, j, r, h⟩ := h
  exact ⟨by rw [h.hs]; simp, by rw [h.hc]; simp⟩
theorem ints_of_all {p : Int → Prop} : ∀ {ys : List V}, (∀ y ∈ ys, ∃ n : Int, y = .int n ∧ p n) → ∃ cs : List Int, ys = cs.map .int ∧ ∀ n ∈ cs, p n
  | [], _ => ⟨[], rfl, by simp⟩
  | y :: ys, h => by
    obtain ⟨n, rfl, hn⟩ := h y List.mem_cons_self
    obtain ⟨cs, rfl, hc⟩ := ints_of_all (ys := ys) fun z hz => h z (List.mem_cons_of_mem _ hz)
    exact ⟨n :: cs, rfl, fun m hm => by
      rcases List.mem_cons.mp hm with rfl | hm
      · exact hn
      · exact hc m hm⟩
theorem atI_in {α : Type} {xs : List α} {i : Int} (h0 : 0 ≤ i) (h1 : i < xs.length) : ∃ v, atI xs i = some v ∧ v ∈ xs := by
  obtain ⟨j, rfl⟩ : ∃ j : Nat, i = j := ⟨i.toNat, by omega⟩
  have h2 : j < xs.length := by omega
  exact ⟨xs[j], atI_nat (List.getElem?_eq_getElem h2), List.getElem_mem h2⟩
section
variable {P : Program} {w : World} {K : PySem.W.Frag} {mg : Str → Option Value} {base : Heap}
theorem ok_law_draw (T : Tx K mg)  {f : Addr} {fd : FuncData} (F : Here K mg "_law_draw" s_law_draw ["state", "many"] f fd) : Cal P w K mg base "_law_draw" 1 ["state", "many"] (sp_law_draw K) s_law_draw f fd := by
  refine F.cal sc_law_draw (fun vs H Q E h => ?_) (fun cdv A outer s H vs Q E hr h => ?_)
  · obtain ⟨s, c, m, rfl, _⟩ := h
    rfl
  · obtain ⟨s, c, m, rfl, hst, ⟨m0, m1⟩, q⟩ := h
    refine ⟨_, (pss_cons (ps_set (i := 2) sc_law_draw.nd rfl (by first | exact .inl rfl | exact .inr rfl) (pe_ix (ix_listK (K := K)) (pv 0) pe_int (fun _ _ => rfl)))
      (pss_cons (ps_set (i := 3) sc_law_draw.nd rfl (by first | exact .inl rfl | exact .inr rfl) (pe_op op_mod (pe_ix (ix_listK (K := K)) (pv 0) pe_int (fun _ _ => rfl)) (pe_callB (cr_lenK (K := K)) (by rfl) T.m_len (by decide +kernel) (pa_cons (pv 2) pa_nil))))
      (pss_cons (ps_set (i := 4) sc_law_draw.nd rfl (by first | exact .inl rfl | exact .inr rfl) (pe_ix (ix_listK (K := K)) (pv 2) (pv 3) (fun _ _ => rfl)))
      (pss_cons (ps_if (pt_cmpR op_ge (pv 4) pe_int (nomark _)) (pss_cons (ps_asg (pe_op op_fdivW (pv 4) (pv 1)) (pg_sub (pv 2) (pv 3) set_list))
      (pss_one (ps_ret (pe_op op_mod (pv 4) (pv 1))))) pss_nil)
      (pss_cons (ps_asg (pe_op op_add (pe_ix (ix_listK (K := K)) (pv 0) pe_int (fun _ _ => rfl)) pe_int) (pg_sub (pv 0) pe_int set_list))
      (pss_cons (ps_asg (pe_op op_mod (pe_op op_add (pe_op op_add (pe_op op_mul (pe_ix (ix_listK (K := K)) (pv 0) pe_int (fun _ _ => rfl)) pe_int) (pv 4)) pe_int) pe_int) (pg_sub (pv 0) pe_int set_list))
      (pss_one (ps_ret (pe_op op_mod (pe_op op_fdivW (pe_op op_mod (pe_op op_mul (pe_ix (ix_listK (K := K)) (pv 0) pe_int (fun _ _ => rfl)) (pe_ix (ix_listK (K := K)) (pv 0) pe_int (fun _ _ => rfl))) pe_int) pe_int) (pv 1)))))))))), ?_⟩
    obtain ⟨hne, cs, j, r, hs, hc, ne, nn, len, hj, hr0, hr1⟩ := hst
    have hl : 0 < (cs.map V.int).length := by rw [List.length_map]; exact List.length_pos_iff.mpr ne
    obtain ⟨i, hi, ei⟩ : ∃ i : Nat, i < cs.length ∧ j % ((cs.map V.int).length : Int) = i := by
      have h1 := Int.emod_nonneg j (show ((cs.map V.int).length : Int) ≠ 0 by omega)
      have h2 := Int.emod_lt_of_pos j (show (0 : Int) < ((cs.map V.int).length : Int) by omega)
      rw [List.length_map] at h1 h2 ⊢
      exact ⟨(j % (cs.length : Int)).toNat, by omega, by omega⟩
    have hx : atI (cs.map V.int) (j % ((cs.map V.int).length : Int)) = some (.int cs[i]) := by
      rw [ei]; exact atI_nat (by rw [List.getElem?_map, List.getElem?_eq_getElem hi]; rfl)
    have hx0 : 0 ≤ cs[i] := nn _ (List.getElem_mem hi)
    have hxi : ixN (cs.map V.int).length (j % ((cs.map V.int).length : Int)) = some i := by
      rw [ei]; unfold ixN; rw [if_pos (by omega), if_pos (by rw [List.length_map]; omega)]; rfl
    have hw : CDivW cs[i] m := wide_div (b := 30) m0 (by omega) (by decide) (by decide)
    walk_at "st"
    walk_at "if"
    refine r_ite (fun hge => ?_) (fun hlt => ?_)
    · walk_at "st"
      refine q _ _ (fun b o e hb => ?_) ⟨hne, cs.set i (cs[i] / m), j, r, ?_, ?_, ?_, ?_, ?_, hj, hr0, hr1⟩ ⟨Int.emod_nonneg _ (by omega), Int.emod_lt_of_pos _ m0⟩
      · rw [upd_ne (by intro z; exact hb (by simp [z]))]; exact e
      · walk_at "hl"
      · rw [upd_same, List.map_set]
      · intro z; exact ne (by simpa using congrArg List.length z)
      · intro x hx
        rcases List.mem_or_eq_of_mem_set hx with h | h
        · exact nn _ h
        · rw [h]; exact Int.ediv_nonneg hx0 (by omega)
      · simpa using len
    · walk_at "st"
      refine q _ _ (fun b o e hb => ?_) ⟨hne, cs, j + 1, (r * 48271 + cs[i] + 12345) % 2147483647, upd_same, ?_, ne, nn, len, by omega, Int.emod_nonneg _ (by decide), Int.emod_lt_of_pos _ (by decide)⟩ ⟨Int.emod_nonneg _ (by omega), Int.emod_lt_of_pos _ m0⟩
      · rw [upd_ne (by intro z; exact hb (by simp [z])), upd_ne (by intro z; exact hb (by simp [z]))]; exact e
      · rw [upd_ne hne.symm, upd_ne hne.symm]; exact hc
end
def rInt1 : List V → Hp → VK → Prop := fun xs H Q => (∃ i, xs = [.int i] ∧ Q (.int i) H) ∨ ∃ k, xs = [.bl k] ∧ Q (.int (if k then 1 else 0)) H
theorem cr_int1 {X : Cx} : CallR X (.type "int") rInt1 := call_int1
section
variable {K : PySem.W.Frag} {σ : L2.St} {H : Hp} {Q : VK}
theorem r_int1b {k : Bool} (h : Q (.int (if k then 1 else 0)) H) : rInt1 [.bl k] H Q := .inr ⟨k, rfl, h⟩
theorem r_int1i {k : Int} (h : Q (.int k) H) : rInt1 [.int k] H Q := .inl ⟨k, rfl, h⟩
theorem r_cat {a b : Addr} {xs ys : List V} (h : H a = some (.lst xs)) (h2 : H b = some (.lst ys)) (z : xs.length + ys.length ≤ sizeLine) (q : ∀ p, H p = none → Q (.ref p) (upd H p (.lst (xs ++ ys)))) : rCat (.ref a) (.ref b) H Q := ⟨a, b, xs, ys, rfl, rfl, h, h2, z, q⟩
theorem r_rep {a : Addr} {k : Int} {xs : List V} (h : H a = some (.lst xs)) (c : -(2 ^ 63) ≤ k ∧ k < 2 ^ 63) (z : xs.length * k.toNat ≤ sizeLine) (q : ∀ p, H p = none → Q (.ref p) (upd H p (.lst (List.replicate k.toNat xs).flatten))) : rRep (.ref a) (.int k) H Q := ⟨a, k, xs, rfl, rfl, h, c.1, c.2, z, q⟩
end
local macro_rules | `(tactic| walk_at "st1") => `(tactic| first
  | with_reducible refine r_int1b ?_
  | with_reducible refine r_int1i ?_)
def sp_law_begun (K : PySem.W.Frag) : Sp := fun vs H Q _ => ∃ (a : Addr) (ns : List Int), vs = [.ref a] ∧ SqL K H a (ns.map .int) ∧ ns.length ≤ 63 ∧
  ∀ s c H', Same H H' → St s c H' → Q (.ref s) H'
section
variable {P : Program} {w : World} {K : PySem.W.Frag} {mg : Str → Option Value} {base : Heap}
theorem ok_law_begun (T : Tx K mg)  {f : Addr} {fd : FuncData} (F : Here K mg "_law_begun" s_law_begun ["script"] f fd) : Cal P w K mg base "_law_begun" 1 ["script"] (sp_law_begun K) s_law_begun f fd := by
  refine F.cal sc_law_begun (fun vs H Q E h => ?_) (fun cdv A outer s H vs Q E hr h => ?_)
  · obtain ⟨a, ns, rfl, _⟩ := h
    rfl
  · obtain ⟨a, ns, rfl, hS, hlen, q⟩ := h
    refine ⟨_, (pss_one (ps_ret (pe_lst (pa_cons (pe_op op_cat (pe_lc rfl sc_law_begun.nd (pi_listK (K := K) (pv 0)) (blkOk_by (own := [("cell", 1)]) (N := ["script", "cell"]) (sc := (defScope s_law_begun)) (by decide +kernel)) (fun _ _ _ _ _ => (pg_name (i := 1) sc_law_begun.nd rfl (by first | exact .inl rfl | exact .inr rfl))) (fun _ _ _ _ _ => pts_nil) (fun _ _ _ _ _ => (pe_callB cr_abs (by rfl) T.m_abs (by decide +kernel) (pa_cons (pv 1) pa_nil)))) (pe_op op_rep (pe_lst (pa_cons pe_int pa_nil)) (pe_callTy cr_int1 (by rfl) T.m_int (by decide +kernel) (pa_cons (pe_cmpR op_eq (pe_callB (cr_lenK (K := K)) (by rfl) T.m_len (by decide +kernel) (pa_cons (pv 0) pa_nil)) pe_int (nomark _)) pa_nil)))) (pa_cons pe_int (pa_cons pe_int pa_nil)))))), ?_⟩
    walk_at "st"
    intro D hD
    refine lc_map (walk_list (a := a) (xs := ns.map V.int)) (by rw [List.length_map]; omega) hD (fun i y _ => ∃ n : Int, y = .int n ∧ 0 ≤ n) (fun _ _ _ _ h _ => h) (fun _ _ _ _ _ h _ => h) (fun H' k => k.seq hS) (fun i H1 x H2 y => by rw [y.1]; exact Same.refl _)
      (fun i x H1 H2 Y No hi sm y hY => ?_) (fun ys H' el sm eD hys => ?_)
    · obtain ⟨rfl, ex⟩ := y
      rw [List.getElem?_map] at ex
      cases en : ns[i]? with
      | none => rw [en] at ex; cases ex
      | some n =>
        rw [en] at ex; cases ex
        refine ⟨rfl, ?_⟩
        walk_at "st"
        refine hY _ _ (Same.refl _) ⟨_, rfl, ?_⟩
        split <;> omega
    · have hall : ∀ y ∈ ys, ∃ n : Int, y = .int n ∧ 0 ≤ n := fun y hy => by
        obtain ⟨i, e⟩ := List.getElem?_of_mem hy
        exact hys i y e
      obtain ⟨cs, rfl, hcs⟩ := ints_of_all hall
      have e2 : cs.length = ns.length := by rw [List.length_map, List.length_map] at el; exact el
      walk_at "st"
      intro l1 hl1
      have hS2 : SqL K (upd H' l1 (.lst [.int 1])) a (ns.map .int) := (sm.trans (Same.upd_new hl1)).seq hS
      walk_at "st"
      rw [List.length_map]
      have fin : ∀ (p : Addr) (H2 : Hp) (zs : List Int), Same H H2 → H2 p = some (.lst (zs.map .int)) → zs ≠ [] → (∀ z ∈ zs, 0 ≤ z) → zs.length ≤ 100 → ∀ s, H2 s = none → Q (.ref s) (upd H2 s (.lst [.ref p, .int 0, .int 1])) := fun p H2 zs s2 ep ne nn ln s hs => by
        have nps : s ≠ p := (ne_of_none ep hs).symm
        exact q s p _ (s2.trans (Same.upd_new hs)) ⟨nps, zs, 0, 1, upd_same, hl_set nps.symm ep, ne, nn, by omega, by omega, by omega, by omega⟩
      have szl : (1000000 : Nat) ≤ sizeLine := by decide
      by_cases h0 : ns.length = 0
      · have e0 : decide (V.int (ns.length : Int) = V.int 0) = true := decide_eq_true (by rw [h0]; rfl)
        rw [e0]
        refine r_rep upd_same (by decide) (by decide) (fun l2 hl2 => ?_)
        refine r_cat (by walk_at "hl") upd_same (by rw [List.length_map]; simp; omega) (fun l3 hl3 => ?_)
        walk_at "st"
        intro s hs
        refine fin l3 _ (cs ++ [1]) (by walk_at "sm") (by rw [upd_same, List.map_append]; rfl) (by simp) (fun z hz => ?_) (by simp; omega) s hs
        rcases List.mem_append.mp hz with h | h
        · exact hcs z h
        · rw [List.mem_singleton.mp h]; decide
      · have e0 : decide (V.int (ns.length : Int) = V.int 0) = false := decide_eq_false (by simp; intro z; rw [z] at h0; exact h0 rfl)
        rw [e0]
        refine r_rep upd_same (by decide) (by decide) (fun l2 hl2 => ?_)
        refine r_cat (by walk_at "hl") upd_same (by rw [List.length_map]; simp; omega) (fun l3 hl3 => ?_)
        walk_at "st"
        intro s hs
        refine fin l3 _ cs (by walk_at "sm") (by rw [upd_same]; simp) (fun z => h0 (by rw [← e2, z]; rfl)) hcs (by omega) s hs
end
/-! ### texts -/
def rLenS : List V → Hp → VK → Prop := fun xs H Q => ∃ z, xs = [.str z] ∧ z.length ≤ sizeLine ∧ Q (.int z.length) H
theorem cr_lenS {X : Cx} : CallR X (.builtin "len") rLenS := call_len_str
def rInS : R2 := fun x y H Q => ∃ (c : Nat) (z : Str), x = .str ⟨#[c]⟩ ∧ y = .str z ∧ Q (.bl (decide (c ∈ z.cps.toList))) H
theorem op_inS {X : Cx} : OpR X (compareOp .In) rInS := op_in_sign
def rNinS : R2 := fun x y H Q => ∃ (c : Nat) (z : Str), x = .str ⟨#[c]⟩ ∧ y = .str z ∧ Q (.bl (!decide (c ∈ z.cps.toList))) H
theorem op_ninS {X : Cx} : OpR X (compareOp .NotIn) rNinS := op_notIn_sign
def rAddS : R2 := fun x y H Q => ∃ i j, x = .str i ∧ y = .str j ∧ i.length + j.length ≤ sizeLine ∧ Q (.str (i ++ j)) H
theorem op_addS {X : Cx} : OpR X (binaryOp .Add) rAddS := op_add_str
section
variable {K : PySem.W.Frag} {σ : L2.St} {H : Hp} {Q : VK}
theorem r_lenS {z : Str} (h : z.length ≤ sizeLine) (q : Q (.int z.length) H) : rLenS [.str z] H Q := ⟨z, rfl, h, q⟩
theorem r_inS {c : Nat} {z : Str} (q : Q (.bl (decide (c ∈ z.cps.toList))) H) : rInS (.str ⟨#[c]⟩) (.str z) H Q := ⟨c, z, rfl, rfl, q⟩
theorem r_ninS {c : Nat} {z : Str} (q : Q (.bl (!decide (c ∈ z.cps.toList))) H) : rNinS (.str ⟨#[c]⟩) (.str z) H Q := ⟨c, z, rfl, rfl, q⟩
theorem r_addS {a b : Str} (h : a.length + b.length ≤ sizeLine) (q : Q (.str (a ++ b)) H) : rAddS (.str a) (.str b) H Q := ⟨a, b, rfl, rfl, h, q⟩
theorem r_ixS {z : Str} {i : Int} {c : Nat} (h : z.length ≤ sizeLine) (e : atI z.cps.toList i = some c) (q : Q (.str ⟨#[c]⟩) H) : rIxS (.str z) (.int i) H Q := ⟨z, i, c, rfl, rfl, h, e, q⟩
def IsR (R : It → Hp → Prop) (v : V) (H : Hp) : Prop := ∃ x, v = .str x ∧ R (Its x) H
theorem r_istr {te : TE} {R : It → Hp → Prop} (h : te σ H (IsR R)) : iStr te σ H R := h
theorem r_is {R : It → Hp → Prop} {x : Str} (h : R (Its x) H) : IsR R (.str x) H := ⟨x, rfl, h⟩
end
theorem str_small {z : Str} (h : z.length ≤ 1000) : z.length ≤ sizeLine := Nat.le_trans h (by decide)
local macro_rules | `(tactic| walk_at "ssz") => `(tactic| first | decide | exact str_small (by assumption) | (have : (1000000 : Nat) ≤ sizeLine := (by decide); omega))
local macro_rules | `(tactic| walk_at "st1") => `(tactic| first
  | with_reducible refine' r_nt ?_ | with_reducible refine' r_nf ?_
  | ((with_reducible refine r_lenS ?e1 ?_); (case e1 => walk_at "ssz"))
  | with_reducible refine r_inS ?_
  | with_reducible refine r_ninS ?_
  | ((with_reducible refine r_addS ?e1 ?_); (case e1 => walk_at "ssz"))
  | ((with_reducible refine' r_ixS ?e1 ?e2 ?_); (case e1 => walk_at "ssz"); (case e2 => first | assumption | rfl))
  | with_reducible refine r_istr ?_
  | with_reducible refine r_is ?_
  | with_reducible refine r_un ?_
  | with_reducible refine r_u ?_)
def cs (x : Str) : List Nat := x.cps.toList
def onlyIn (x z : Str) : Bool := (cs x).all (fun c => decide (c ∈ cs z))
def nameO : O → Bool
  | .str x => decide (1 ≤ x.length) && (decide (x.length ≤ 8) && onlyIn x "abcdefghijklmnopqrstuvwxyz")
  | _ => false
def firstIn (x z : Str) : Bool := match cs x with
  | [] => false
  | c :: _ => decide (c ∈ cs z)
def placeO : O → Bool
  | .str x => decide (1 ≤ x.length) && (decide (x.length ≤ 40) && (firstIn x "abcdefghijklmnopqrstuvwxyz" && onlyIn x "abcdefghijklmnopqrstuvwxyz0123456789."))
  | _ => false
def namedO (m : Int) (more : Str) : O → Bool
  | .str x => decide (1 ≤ x.length) && (decide ((x.length : Int) ≤ m) && (firstIn x "abcdefghijklmnopqrstuvwxyz" && onlyIn x ("abcdefghijklmnopqrstuvwxyz" ++ more)))
  | _ => false
def smallS : O → Prop
  | .str x => x.length ≤ 1000
  | _ => True
def sp_has_only (_ : PySem.W.Frag) : Sp := fun vs H Q _ => ∃ x z : Str, vs = [.str x, .str z] ∧ x.length ≤ 1000 ∧ ∀ H', Same H H' → Q (.bl (onlyIn x z)) H'
def sp_is_place (_ : PySem.W.Frag) : Sp := fun vs H Q _ => ∃ (S : List Addr) (v : V) (o : O), vs = [v] ∧ Rep S H v o ∧ smallS o ∧ ∀ H', Same H H' → Q (.bl (placeO o)) H'
section
variable {P : Program} {w : World} {K : PySem.W.Frag} {mg : Str → Option Value} {base : Heap}
theorem ok_has_only (T : Tx K mg)  {f : Addr} {fd : FuncData} (F : Here K mg "has_only" s_has_only ["text", "signs"] f fd) : Cal P w K mg base "has_only" 1 ["text", "signs"] (sp_has_only K) s_has_only f fd := by
  refine F.cal sc_has_only (fun vs H Q E h => ?_) (fun cdv A outer s H vs Q E hr h => ?_)
  · obtain ⟨x, z, rfl, _⟩ := h
    rfl
  · obtain ⟨x, z, rfl, hx, q⟩ := h
    refine ⟨_, (pss_one (ps_ret (pe_callB (cr_allK (K := K) rfl) (by rfl) T.m_all (by decide +kernel) (pa_cons (pe_lc rfl sc_has_only.nd (pi_str (pv 0)) (blkOk_by (own := [("sign", 2)]) (N := ["text", "signs", "sign"]) (sc := (defScope s_has_only)) (by decide +kernel)) (fun _ _ _ _ _ => (pg_name (i := 2) sc_has_only.nd rfl (by first | exact .inl rfl | exact .inr rfl))) (fun _ _ _ _ _ => pts_nil) (fun _ _ _ _ _ => (pe_cmpR op_inS (pv 2) (pv 1) (by rfl)))) pa_nil)))), ?_⟩
    walk_at "st"
    intro D hD
    have hx2 : x.cps.size ≤ 1000 := hx
    refine lc_map (walk_str (z := x)) (by omega) hD (fun i y _ => ∃ c, x.cps[i]? = some c ∧ y = .bl (decide (c ∈ cs z))) (fun _ _ _ _ h _ => h) (fun _ _ _ _ _ h _ => h) (fun _ _ => trivial) (fun i H1 x H2 y => by rw [y.1]; exact Same.refl _)
      (fun i x' H1 H2 Y No hi sm y hY => ?_) (fun ys H' el sm eD hys => ?_)
    · obtain ⟨rfl, c, ec, rfl⟩ := y
      refine ⟨rfl, ?_⟩
      walk_at "st"
      exact hY _ _ (Same.refl _) ⟨c, ec, rfl⟩
    · have eys : ys = ((cs x).map fun c => decide (c ∈ cs z)).map V.bl := by
        apply List.ext_getElem?
        intro i
        cases e2 : ys[i]? with
        | none =>
          rw [List.getElem?_eq_none_iff] at e2
          rw [List.getElem?_eq_none_iff.mpr (by simp [cs]; omega)]
        | some y =>
          obtain ⟨c, ec, rfl⟩ := hys i y e2
          have : (cs x)[i]? = some c := by unfold cs; rw [Array.getElem?_toList]; exact ec
          rw [List.getElem?_map, List.getElem?_map, this]; rfl
      subst eys
      walk_at "st"
      have := q H' sm
      rw [List.all_map]
      exact this
end
local macro_rules | `(tactic| walk_at "ssz") => `(tactic| first | decide | exact str_small (by assumption) | (have : (1000000 : Nat) ≤ sizeLine := (by decide); omega))
local macro_rules | `(tactic| walk_at "st1") => `(tactic| first
  | with_reducible refine' r_nt ?_ | with_reducible refine' r_nf ?_
  | ((with_reducible refine r_lenS ?e1 ?_); (case e1 => walk_at "ssz"))
  | with_reducible refine r_inS ?_
  | with_reducible refine r_ninS ?_
  | ((with_reducible refine r_addS ?e1 ?_); (case e1 => walk_at "ssz"))
  | ((with_reducible refine' r_ixS ?e1 ?e2 ?_); (case e1 => walk_at "ssz"); (case e2 => first | assumption | rfl))
  | with_reducible refine r_istr ?_
  | with_reducible refine r_is ?_
  | with_reducible refine r_un ?_
  | with_reducible refine r_u ?_)
theorem cs_append (x y : Str) : cs (x ++ y) = cs x ++ cs y := by
  show (x.cps ++ y.cps).toList = _
  rw [Array.toList_append]; rfl
theorem cs_len (x : Str) : (cs x).length = x.length := by
  show x.cps.toList.length = x.cps.size
  rw [Array.length_toList]
theorem first_at {x : Str} (h : 1 ≤ x.length) : ∃ c, atI x.cps.toList 0 = some c ∧ ∀ z, firstIn x z = decide (c ∈ cs z) := by
  have hl := cs_len x
  cases e : cs x with
  | nil => rw [e] at hl; simp at hl; omega
  | cons c r =>
    refine ⟨c, ?_, fun z => ?_⟩
    · have : x.cps.toList = c :: r := e
      rw [this]; exact atI_nat (j := 0) rfl
    · unfold firstIn; rw [e]
section
variable {P : Program} {w : World} {K : PySem.W.Frag} {mg : Str → Option Value} {base : Heap}
theorem ok_is_place (T : Tx K mg) {f_has_only : Addr} {fd_has_only : FuncData} (C_has_only : Cal P w K mg base "has_only" 1 ["text", "signs"] (sp_has_only K) s_has_only f_has_only fd_has_only) {f : Addr} {fd : FuncData} (F : Here K mg "is_place" s_is_place ["thing"] f fd) : Cal P w K mg base "is_place" 2 ["thing"] (sp_is_place K) s_is_place f fd := by
  refine F.cal sc_is_place (fun vs H Q E h => ?_) (fun cdv A outer s H vs Q E hr h => ?_)
  · obtain ⟨S, v, o, rfl, _⟩ := h
    rfl
  · obtain ⟨S, v, o, rfl, r, sm0, q⟩ := h
    refine ⟨_, (pss_cons (ps_if (PW.pt (pw_or (pt_not (pt_val (pe_callB (cr_isiK (K := K)) (by rfl) T.m_isinstance (by decide +kernel) (pa_cons (pv 0) (pa_cons (pe_bltn (v := .ty "str") (by rfl) T.m_str (by decide +kernel) rfl) pa_nil))))) (pw_or1 (pt_not (pt_chain op_le op_le pe_int (pe_callB cr_lenS (by rfl) T.m_len (by decide +kernel) (pa_cons (pv 0) pa_nil)) (pe_glob (v := .int 40) (by rfl) (T.c_LONGEST_PLACE).choose_spec ⟨_, rfl⟩)))))) (pss_one (ps_ret pe_bl)) pss_nil)
      (pss_one (ps_ret (pe_and (pe_cmpR op_inS (pe_ix ix_str (pv 0) pe_int (fun _ _ => rfl)) (pe_glob (v := .str "abcdefghijklmnopqrstuvwxyz") (by rfl) (T.c_LETTERS).choose_spec ⟨_, rfl⟩) (by rfl)) (pe_one (pe_call C_has_only.ok (hr.mono (by decide)) (by rfl) C_has_only.at_ C_has_only.kp C_has_only.b .nil pass0 (pa_cons (pv 0) (pa_cons (pe_op op_addS (pe_op op_addS (pe_glob (v := .str "abcdefghijklmnopqrstuvwxyz") (by rfl) (T.c_LETTERS).choose_spec ⟨_, rfl⟩) (pe_glob (v := .str "0123456789") (by rfl) (T.c_FIGURES).choose_spec ⟨_, rfl⟩)) pe_str) pa_nil)))))))), ?_⟩
    cases r with
    | str x =>
      have hx : x.length ≤ 1000 := sm0
      walk_at "st"
      refine r_join (fun σ' H' => σ' = [some (.str x)] ∧ H' = H ∧ 1 ≤ x.length ∧ x.length ≤ 40) (fun σ' H' g => ?_) (fun N hN => ?_)
      · obtain ⟨rfl, rfl, g1, g2⟩ := g
        obtain ⟨c, ec, hc⟩ := first_at g1
        walk_at "st"
        refine r_iteB (fun h2 => ?_) (fun h2 => ?_)
        · walk_at "st"
          refine ⟨x, _, rfl, hx, fun H' sm => ?_⟩
          have := q H' sm
          have e : placeO (.str x) = onlyIn x ("abcdefghijklmnopqrstuvwxyz" ++ "0123456789" ++ ".") := by
            have e1 : firstIn x "abcdefghijklmnopqrstuvwxyz" = true := by rw [hc]; exact h2
            show (decide (1 ≤ x.length) && (decide (x.length ≤ 40) && (firstIn x "abcdefghijklmnopqrstuvwxyz" && _))) = _
            rw [e1, decide_eq_true g1, decide_eq_true g2]
            rfl
          rw [e] at this
          exact this
        · have := q H' (Same.refl _)
          have e : placeO (.str x) = false := by
            have e1 : firstIn x "abcdefghijklmnopqrstuvwxyz" = false := by rw [hc]; exact h2
            show (decide (1 ≤ x.length) && (decide (x.length ≤ 40) && (firstIn x "abcdefghijklmnopqrstuvwxyz" && _))) = _
            rw [e1]; simp
          rw [e] at this
          exact this
      · have no : ¬(1 ≤ x.length ∧ x.length ≤ 40) → Q (.bl false) H := fun z => by
          have := q H (Same.refl _)
          have e : placeO (.str x) = false := by
            by_cases h1 : 1 ≤ x.length
            · have h2 : ¬ x.length ≤ 40 := fun z2 => z ⟨h1, z2⟩
              simp [placeO, h2]
            · simp [placeO, h1]
          rw [e] at this
          exact this
        walk_at "if"
        refine r_ite (fun h1 => ?_) (fun h1 => ?_)
        · walk_at "st"
          by_cases h2 : (x.length : Int) ≤ 40
          · rw [decide_eq_true h2]
            walk_at "st"
            exact hN _ _ ⟨rfl, rfl, by omega, by omega⟩
          · rw [decide_eq_false h2]
            walk_at "st"
            exact no (by omega)
        · walk_at "st"
          exact no (by omega)
    | _ => (walk_at "st"; walk_at "if"; exact q H (Same.refl _))
end
def wholeO : O → Bool
  | .int _ => true
  | _ => false
def numO (p : Int) : O → Bool
  | .int n => decide (0 ≤ n) && decide (n < p)
  | _ => false
def sp_is_whole (_ : PySem.W.Frag) : Sp := fun vs H Q _ => ∃ (S : List Addr) (v : V) (o : O), vs = [v] ∧ Rep S H v o ∧ Q (.bl (wholeO o)) H
def sp_is_number (_ : PySem.W.Frag) : Sp := fun vs H Q _ => ∃ (S : List Addr) (v : V) (o : O) (p : Int), vs = [v, .int p] ∧ Rep S H v o ∧ Q (.bl (numO p o)) H
section
variable {P : Program} {w : World} {K : PySem.W.Frag} {mg : Str → Option Value} {base : Heap}
theorem ok_is_whole (T : Tx K mg)  {f : Addr} {fd : FuncData} (F : Here K mg "is_whole" s_is_whole ["thing"] f fd) : Cal P w K mg base "is_whole" 1 ["thing"] (sp_is_whole K) s_is_whole f fd := by
  refine F.cal sc_is_whole (fun vs H Q E h => ?_) (fun cdv A outer s H vs Q E hr h => ?_)
  · obtain ⟨S, v, o, rfl, _⟩ := h
    rfl
  · obtain ⟨S, v, o, rfl, r, q⟩ := h
    refine ⟨_, (pss_one (ps_ret (pe_and (pe_callB (cr_isiK (K := K)) (by rfl) T.m_isinstance (by decide +kernel) (pa_cons (pv 0) (pa_cons (pe_bltn (v := .ty "int") (by rfl) T.m_int (by decide +kernel) rfl) pa_nil))) (pe_one (pe_not (pe_callB (cr_isiK (K := K)) (by rfl) T.m_isinstance (by decide +kernel) (pa_cons (pv 0) (pa_cons (pe_bltn (v := .ty "bool") (by rfl) T.m_bool (by decide +kernel) rfl) pa_nil)))))))), ?_⟩
    cases r <;> (walk_at "st"; exact q)
theorem ok_is_number (T : Tx K mg) {f_is_whole : Addr} {fd_is_whole : FuncData} (C_is_whole : Cal P w K mg base "is_whole" 1 ["thing"] (sp_is_whole K) s_is_whole f_is_whole fd_is_whole) {f : Addr} {fd : FuncData} (F : Here K mg "is_number" s_is_number ["thing", "p"] f fd) : Cal P w K mg base "is_number" 2 ["thing", "p"] (sp_is_number K) s_is_number f fd := by
  refine F.cal sc_is_number (fun vs H Q E h => ?_) (fun cdv A outer s H vs Q E hr h => ?_)
  · obtain ⟨S, v, o, p, rfl, _⟩ := h
    rfl
  · obtain ⟨S, v, o, p, rfl, r, q⟩ := h
    refine ⟨_, (pss_one (ps_ret (pe_and (pe_call C_is_whole.ok (hr.mono (by decide)) (by rfl) C_is_whole.at_ C_is_whole.kp C_is_whole.b .nil pass0 (pa_cons (pv 0) pa_nil)) (pe_one (pe_chain op_le op_lt pe_int (pv 0) (pv 1)))))), ?_⟩
    walk_at "st"
    refine ⟨S, v, o, rfl, r, ?_⟩
    cases r with
    | int n =>
      walk_at "st"
      refine r_iteB (fun _ => ?_) (fun z => by cases z)
      walk_at "st"
      refine r_ite (fun h1 => ?_) (fun h1 => ?_)
      · walk_at "st"
        simpa [numO, h1] using q
      · simpa [numO, h1] using q
    | _ => (walk_at "st"; exact r_iteB (fun z => by cases z) (fun _ => q))
end
/-! ### places made unlike: the tries end -/
def lettersL : List Nat := cs "abcdefghijklmnopqrstuvwxyz"
def signsL : List Nat := cs "abcdefghijklmnopqrstuvwxyz0123456789."
def preW (n : Nat) : List Nat := 113 :: cs (toString (n : Int))
def stepW (n : Nat) (p : List Nat) : List Nat := preW n ++ p.take 30
def itW (n : Nat) : Nat → List Nat → List Nat
  | 0, p => p
  | t + 1, p => stepW n (itW n t p)
def goodW (w : List Nat) : Prop := 1 ≤ w.length ∧ w.length ≤ 40 ∧ (∃ c r, w = c :: r ∧ c ∈ lettersL) ∧ ∀ c ∈ w, c ∈ signsL
theorem pre_facts : ((List.range 20).all fun n => decide (2 ≤ (preW n).length) && decide ((preW n).length ≤ 3) && (preW n).all fun c => decide (c ∈ signsL)) = true := by decide +kernel
theorem pre_fact {n : Nat} (h : n < 20) : 2 ≤ (preW n).length ∧ (preW n).length ≤ 3 ∧ ∀ c ∈ preW n, c ∈ signsL := by
  have := List.all_eq_true.mp pre_facts n (List.mem_range.mpr h)
  simp only [Bool.and_eq_true, decide_eq_true_eq, List.all_eq_true] at this
  exact ⟨this.1.1, this.1.2, this.2⟩
theorem itW_take {n : Nat} (h : n < 20) (p q : List Nat) : ∀ t, (itW n t p).take (2 * t) = (itW n t q).take (2 * t)
  | 0 => by simp
  | t + 1 => by
    have ih := itW_take h p q t
    have l2 := (pre_fact h).1
    show (preW n ++ (itW n t p).take 30).take (2 * (t + 1)) = (preW n ++ (itW n t q).take 30).take (2 * (t + 1))
    rw [List.take_append, List.take_append, List.take_take, List.take_take]
    have e : ∀ x : List Nat, x.take (min (2 * (t + 1) - (preW n).length) 30) = (x.take (2 * t)).take (min (2 * (t + 1) - (preW n).length) 30) := fun x => by
      rw [List.take_take]; congr 1; omega
    rw [e (itW n t p), e (itW n t q), ih]
theorem stepW_len {n : Nat} (h : n < 20) (p : List Nat) : (stepW n p).length = (preW n).length + min 30 p.length := by
  unfold stepW; rw [List.length_append, List.length_take]
def endW (n : Nat) : List Nat := itW n 17 []
theorem itW_17 {n : Nat} (h : n < 20) (p : List Nat) : itW n 17 p = endW n := by
  have l3 := (pre_fact h).2.1
  have e := itW_take h p [] 17
  have l : ∀ q, (itW n 17 q).length ≤ 34 := fun q => by
    show (stepW n (itW n 16 q)).length ≤ 34
    rw [stepW_len h]; omega
  rwa [List.take_of_length_le (l p), List.take_of_length_le (l [])] at e
def tailL : List Nat := [97, 46, 48, 122]
/-- how a place came to be, as far as is needed -/
inductive OkW (n : Nat) (w : List Nat) : Prop
  | drawn : w.length ∈ [1, 2, 3, 6, 40] → OkW n w
  | tried (m x : Nat) (r : List Nat) : m < n → w = preW m ++ x :: r → x ∈ lettersL → OkW n w
  | more (u : List Nat) (c : Nat) : w = u ++ [c] → c ∈ tailL → (w.length ≤ 7 ∨ w.length = 40 ∨ ∃ v d, u = v ++ [d] ∧ d ∈ tailL) → OkW n w
theorem OkW.mono {n : Nat} {w : List Nat} (h : OkW n w) : OkW (n + 1) w := by
  cases h with
  | drawn h => exact .drawn h
  | tried m x r h e k => exact .tried m x r (by omega) e k
  | more u c e h k => exact .more u c e h k
theorem end_facts : ((List.range 20).all fun n => decide (32 ≤ (endW n).length) && decide ((endW n).length ≤ 33) &&
    ((List.range n).all fun m => !(decide ((endW n).take (preW m).length = preW m) && decide ((endW n).getD (preW m).length 0 ∈ lettersL))) &&
    !(decide ((endW n).getD ((endW n).length - 1) 0 ∈ tailL) && decide ((endW n).getD ((endW n).length - 2) 0 ∈ tailL))) = true := by decide +kernel
theorem OkW.end {n : Nat} (hn : n < 20) {w : List Nat} (h : OkW n w) : w ≠ endW n := by
  have f := List.all_eq_true.mp end_facts n (List.mem_range.mpr hn)
  simp only [Bool.and_eq_true, decide_eq_true_eq] at f
  obtain ⟨⟨⟨f1, f2⟩, f3⟩, f4⟩ := f
  rintro rfl
  cases h with
  | drawn h => simp at h; omega
  | tried m x r h e k =>
    have g := List.all_eq_true.mp f3 m (List.mem_range.mpr h)
    rw [e] at g
    have e1 : (preW m ++ x :: r).take (preW m).length = preW m := by rw [List.take_append_of_le_length (Nat.le_refl _), List.take_length]
    have e2 : (preW m ++ x :: r).getD (preW m).length 0 = x := by simp [List.getD]
    rw [e1, e2, decide_eq_true rfl, decide_eq_true k] at g
    cases g
  | more u c e hc k =>
    rcases k with k | k | ⟨v, d, rfl, hd⟩
    · omega
    · omega
    · rw [e] at f4
      have e1 : (v ++ [d] ++ [c]).getD ((v ++ [d] ++ [c]).length - 1) 0 = c := by simp [List.getD]
      have e2 : (v ++ [d] ++ [c]).getD ((v ++ [d] ++ [c]).length - 2) 0 = d := by simp [List.getD]
      rw [e1, e2, decide_eq_true hc, decide_eq_true hd] at f4
      cases f4
theorem OkW.grow {n : Nat} (hn : n < 20) {w : List Nat} {c : Nat} (h : OkW n w) (hw : 1 ≤ w.length ∧ w.length ≤ 40) (hc : c ∈ tailL) : OkW n (w.take 39 ++ [c]) := by
  have hl : (w.take 39 ++ [c]).length = min 39 w.length + 1 := by rw [List.length_append, List.length_take]; rfl
  cases h with
  | drawn h =>
    refine .more _ _ rfl hc ?_
    simp at h
    omega
  | tried m x r h e k =>
    have l3 := (pre_fact (show m < 20 by omega)).2.1
    refine .tried m x (r.take (39 - (preW m).length - 1) ++ [c]) h ?_ k
    rw [e, List.take_append, List.append_assoc, List.take_of_length_le (show (preW m).length ≤ 39 by omega)]
    congr 1
    obtain ⟨j, ej⟩ : ∃ j, 39 - (preW m).length = j + 1 := ⟨39 - (preW m).length - 1, by omega⟩
    rw [ej]; rfl
  | more u d e hd k =>
    refine .more _ _ rfl hc ?_
    by_cases g : w.length = 40
    · omega
    · refine .inr (.inr ⟨u, d, ?_, hd⟩)
      rw [List.take_of_length_le (by omega)]; exact e
theorem OkW.step {n : Nat} {p : List Nat} (h : goodW p) : OkW (n + 1) (stepW n p) := by
  obtain ⟨_, _, ⟨c, r, rfl, hc⟩, _⟩ := h
  exact .tried n c (r.take 29) (Nat.lt_succ_self n) rfl hc
theorem goodW.step {n : Nat} (hn : n < 20) {p : List Nat} (h : goodW p) : goodW (stepW n p) := by
  have f := pre_fact hn
  refine ⟨by rw [stepW_len hn]; omega, by rw [stepW_len hn]; omega, ⟨113, cs (toString (n : Int)) ++ p.take 30, rfl, by decide +kernel⟩, fun c m => ?_⟩
  rcases List.mem_append.mp m with m | m
  · exact f.2.2 c m
  · exact h.2.2.2 c (List.mem_of_mem_take m)
theorem goodW.grow {p : List Nat} {c : Nat} (h : goodW p) (hc : c ∈ tailL) : goodW (p.take 39 ++ [c]) := by
  obtain ⟨h1, h2, ⟨d, r, rfl, hd⟩, h4⟩ := h
  refine ⟨by simp, by rw [List.length_append, List.length_take]; simp; omega, ⟨d, r.take 38 ++ [c], rfl, hd⟩, fun x m => ?_⟩
  rcases List.mem_append.mp m with m | m
  · exact h4 x (List.mem_of_mem_take m)
  · rw [List.mem_singleton.mp m]
    simp [tailL] at hc
    rcases hc with rfl | rfl | rfl | rfl <;> decide +kernel
theorem goodW.it {n : Nat} (hn : n < 20) {p : List Nat} (h : goodW p) : ∀ t, goodW (itW n t p)
  | 0 => h
  | t + 1 => (goodW.it hn h t).step hn
local macro_rules | `(tactic| walk_at "ssz") => `(tactic| first | decide | exact str_small (by assumption) | (have : (1000000 : Nat) ≤ sizeLine := (by decide); omega))
local macro_rules | `(tactic| walk_at "st1") => `(tactic| first
  | with_reducible refine' r_nt ?_ | with_reducible refine' r_nf ?_
  | ((with_reducible refine r_lenS ?e1 ?_); (case e1 => walk_at "ssz"))
  | with_reducible refine r_inS ?_
  | with_reducible refine r_ninS ?_
  | ((with_reducible refine r_addS ?e1 ?_); (case e1 => walk_at "ssz"))
  | ((with_reducible refine' r_ixS ?e1 ?e2 ?_); (case e1 => walk_at "ssz"); (case e2 => first | assumption | rfl))
  | with_reducible refine r_istr ?_
  | with_reducible refine r_is ?_
  | with_reducible refine r_un ?_
  | with_reducible refine r_u ?_)
theorem op_inSeqK {X : Cx} {K : PySem.W.Frag} (q : X.K = K := by rfl) : OpR X (compareOp .In) (rIn K false) := q ▸ op_in_seq
def rStrOf : List V → Hp → VK → Prop := fun xs H Q => ∃ i : Int, xs = [.int i] ∧ i.natAbs.log2 < 1920 ∧ Q (.str (toString i)) H
theorem cr_strOf {X : Cx} : CallR X (.type "str") rStrOf := call_str_int
theorem cs_inj {x y : Str} (h : cs x = cs y) : x = y := by
  cases x; cases y
  simp only [cs] at h
  congr 1
  exact Array.toList_inj.mp h
theorem inV_strs (z : Str) : ∀ zs : List Str, inV (.str z) (zs.map V.str) = decide (z ∈ zs)
  | [] => by simp [inV]
  | y :: zs => by
    have ih := inV_strs z zs
    unfold inV at ih ⊢
    rw [List.map_cons, List.any_cons, ih]
    have e : eqV (V.str y) (V.str z) = decide (z = y) := by
      show (y == z) = _
      by_cases c : z = y
      · subst c; simp
      · rw [decide_eq_false c]; exact beq_false_of_ne fun w => c w.symm
    rw [e]
    by_cases c : z = y <;> simp [c]
theorem flat_strs (zs : List Str) : (zs.map V.str).all flatV = true := by
  rw [List.all_map]; exact List.all_eq_true.mpr fun _ _ => rfl
theorem cs_cut (z : Str) (n : Nat) : cs (cutS z none (some (n : Int))) = (cs z).take n := by
  unfold cutS cs
  have e1 : HT.sIx z.length 0 none = 0 := rfl
  have e2 : HT.sIx z.length z.length (some (n : Int)) = min n z.length := by
    simp [HT.sIx]; omega
  rw [e1, e2]
  simp only [List.drop_zero, Nat.sub_zero]
  have l : z.cps.toList.length = z.length := by rw [Array.length_toList]; rfl
  by_cases h : n ≤ z.length
  · rw [Nat.min_eq_left h]
  · rw [Nat.min_eq_right (by omega), List.take_of_length_le (by omega), List.take_of_length_le (by omega)]
section
variable {K : PySem.W.Frag} {σ : L2.St} {H : Hp} {Q : VK}
theorem r_slS {z : Str} {lo hi : Option Int} (h : z.length ≤ sizeLine) (q : Q (.str (cutS z lo hi)) H) : rSlS (.str z) lo hi H Q := ⟨z, rfl, h, q⟩
theorem r_inSeq {p : Addr} {z : Str} {zs : List Str} (h : SqL K H p (zs.map V.str)) (q : Q (.bl (decide (z ∈ zs))) H) : rIn K false (.str z) (.ref p) H Q :=
  ⟨p, _, rfl, .inl h, rfl, flat_strs zs, by rw [if_neg (by decide), inV_strs]; exact q⟩
theorem r_strOf {i : Int} (h : i.natAbs.log2 < 1920) (q : Q (.str (toString i)) H) : rStrOf [.int i] H Q := ⟨i, rfl, h, q⟩
end
local macro_rules | `(tactic| walk_at "st1") => `(tactic| first
  | with_reducible refine r_par ?_
  | with_reducible refine r_parx ?_
  | ((with_reducible refine r_slS ?e1 ?_); (case e1 => walk_at "ssz"))
  | ((with_reducible refine' r_inSeq ?e1 ?_); (case e1 => walk_at "sq"))
  | ((with_reducible refine r_strOf ?e1 ?_); (case e1 => assumption)))
def primes14 : List Int := [2, 3, 5, 7, 11, 13, 29, 53, 97, 101, 499, 523, 991, 997]
def sp_law_prime (_ : PySem.W.Frag) : Sp := fun vs H Q _ => ∃ (s c : Addr), vs = [.ref s] ∧ St s c H ∧ ∀ p H', Kp [s, c] H H' → St s c H' → p ∈ primes14 → Q (.int p) H'
def sp_law_place (_ : PySem.W.Frag) : Sp := fun vs H Q _ => ∃ (s c : Addr), vs = [.ref s] ∧ St s c H ∧ ∀ z H', Kp [s, c] H H' → St s c H' → goodW (cs z) → (cs z).length ∈ [1, 2, 3, 6, 40] → Q (.str z) H'
def sp_law_places (_ : PySem.W.Frag) : Sp := fun vs H Q _ => ∃ (s c : Addr) (m : Int), vs = [.ref s, .int m] ∧ St s c H ∧ (0 ≤ m ∧ m ≤ 20) ∧
  ∀ (l : Addr) (zs : List Str) (H' : Hp), Kp [s, c] H H' → St s c H' → H l = none → H' l = some (.lst (zs.map V.str)) → (zs.length : Int) = m → zs.Nodup → (∀ z ∈ zs, goodW (cs z)) → Q (.ref l) H'
section
variable {P : Program} {w : World} {K : PySem.W.Frag} {mg : Str → Option Value} {base : Heap}
theorem ok_law_prime (T : Tx K mg) {f_law_draw : Addr} {fd_law_draw : FuncData} (C_law_draw : Cal P w K mg base "_law_draw" 1 ["state", "many"] (sp_law_draw K) s_law_draw f_law_draw fd_law_draw) {f : Addr} {fd : FuncData} (F : Here K mg "_law_prime" s_law_prime ["state"] f fd) : Cal P w K mg base "_law_prime" 2 ["state"] (sp_law_prime K) s_law_prime f fd := by
  refine F.cal sc_law_prime (fun vs H Q E h => ?_) (fun cdv A outer s H vs Q E hr h => ?_)
  · obtain ⟨s, c, rfl, _⟩ := h
    rfl
  · obtain ⟨s, c, rfl, hst, q⟩ := h
    refine ⟨_, (pss_cons (ps_set (i := 1) sc_law_prime.nd rfl (by first | exact .inl rfl | exact .inr rfl) (pe_lst (pa_cons pe_int (pa_cons pe_int (pa_cons pe_int (pa_cons pe_int (pa_cons pe_int (pa_cons pe_int (pa_cons pe_int (pa_cons pe_int (pa_cons pe_int (pa_cons pe_int (pa_cons pe_int (pa_cons pe_int (pa_cons pe_int (pa_cons pe_int pa_nil))))))))))))))))
      (pss_one (ps_ret (pe_ix (ix_listK (K := K)) (pv 1) (pe_call C_law_draw.ok (hr.mono (by decide)) (by rfl) C_law_draw.at_ C_law_draw.kp C_law_draw.b .nil pass0 (pa_cons (pv 0) (pa_cons pe_int pa_nil))) (fun _ _ => rfl))))), ?_⟩
    walk_at "st"
    intro l hl
    have ol := hst.out hl
    walk_at "st"
    refine ⟨s, c, 14, rfl, by walk_at "stt", by omega, fun d H1 k1 st1 hd => ?_⟩
    obtain ⟨v, ev, hv⟩ := atI_in (xs := [V.int 2, V.int 3, V.int 5, V.int 7, V.int 11, V.int 13, V.int 29, V.int 53, V.int 97, V.int 101, V.int 499, V.int 523, V.int 991, V.int 997]) hd.1 (by simpa using hd.2)
    walk_at "st"
    obtain ⟨p, rfl, hp⟩ : ∃ p, v = .int p ∧ p ∈ primes14 := by
      obtain ⟨p, hp, e⟩ := List.mem_map.mp (show v ∈ primes14.map V.int from hv)
      exact ⟨p, e.symm, hp⟩
    exact q p H1 (by walk_at "kp") st1 hp
theorem all_signs : (cs "abcxyz0189.mnopqrstuvwdefghijkl234567").all (fun c => decide (c ∈ signsL)) = true := by decide +kernel
theorem all_firsts : (cs "abcxyzqm").all (fun c => decide (c ∈ lettersL) && decide (c ∈ signsL)) = true := by decide +kernel
theorem ok_law_place (T : Tx K mg) {f_law_draw : Addr} {fd_law_draw : FuncData} (C_law_draw : Cal P w K mg base "_law_draw" 1 ["state", "many"] (sp_law_draw K) s_law_draw f_law_draw fd_law_draw) {f : Addr} {fd : FuncData} (F : Here K mg "_law_place" s_law_place ["state"] f fd) : Cal P w K mg base "_law_place" 2 ["state"] (sp_law_place K) s_law_place f fd := by
  refine F.cal sc_law_place (fun vs H Q E h => ?_) (fun cdv A outer s H vs Q E hr h => ?_)
  · obtain ⟨s, c, rfl, _⟩ := h
    rfl
  · obtain ⟨s, c, rfl, hst, q⟩ := h
    refine ⟨_, (pss_cons (ps_set (i := 1) sc_law_place.nd rfl (by first | exact .inl rfl | exact .inr rfl) pe_str)
      (pss_cons (ps_set (i := 2) sc_law_place.nd rfl (by first | exact .inl rfl | exact .inr rfl) (pe_ix (ix_listK (K := K)) (pe_lst (pa_cons pe_int (pa_cons pe_int (pa_cons pe_int (pa_cons pe_int (pa_cons pe_int (pa_cons pe_int pa_nil))))))) (pe_call C_law_draw.ok (hr.mono (by decide)) (by rfl) C_law_draw.at_ C_law_draw.kp C_law_draw.b .nil pass0 (pa_cons (pv 0) (pa_cons pe_int pa_nil))) (fun _ _ => rfl)))
      (pss_cons (ps_set (i := 3) sc_law_place.nd rfl (by first | exact .inl rfl | exact .inr rfl) (pe_ix ix_str pe_str (pe_call C_law_draw.ok (hr.mono (by decide)) (by rfl) C_law_draw.at_ C_law_draw.kp C_law_draw.b .nil pass0 (pa_cons (pv 0) (pa_cons pe_int pa_nil))) (fun _ _ => rfl)))
      (pss_cons (ps_while PassesOwn.never (pt_cmpR op_lt (pe_callB cr_lenS (by rfl) T.m_len (by decide +kernel) (pa_cons (pv 3) pa_nil)) (pv 2) (nomark _)) (pss_one (ps_set (i := 3) sc_law_place.nd rfl (by first | exact .inl rfl | exact .inr rfl) (pe_op op_addS (pv 3) (pe_ix ix_str (pv 1) (pe_call C_law_draw.ok (hr.mono (by decide)) (by rfl) C_law_draw.at_ C_law_draw.kp C_law_draw.b .nil pass0 (pa_cons (pv 0) (pa_cons pe_int pa_nil))) (fun _ _ => rfl))))))
      (pss_one (ps_ret (pv 3))))))), ?_⟩
    walk_at "st"
    intro l hl
    have ol := hst.out hl
    walk_at "st"
    refine ⟨s, c, 6, rfl, by walk_at "stt", by omega, fun d H1 k1 st1 hd => ?_⟩
    obtain ⟨v, ev, hv⟩ := atI_in (xs := [V.int 1, V.int 1, V.int 2, V.int 3, V.int 6, V.int 40]) hd.1 (by simpa using hd.2)
    walk_at "st"
    obtain ⟨sz, rfl, hsz⟩ : ∃ p : Nat, v = .int p ∧ p ∈ [1, 2, 3, 6, 40] := by
      simp at hv
      rcases hv with h | h | h | h | h
      · exact ⟨1, h, by decide⟩
      · exact ⟨2, h, by decide⟩
      · exact ⟨3, h, by decide⟩
      · exact ⟨6, h, by decide⟩
      · exact ⟨40, h, by decide⟩
    have hsz2 : 1 ≤ sz ∧ sz ≤ 40 := by simp at hsz; omega
    refine ⟨s, c, 8, rfl, st1, by omega, fun d2 H2 k2 st2 hd2 => ?_⟩
    obtain ⟨c2, ec2, mc2⟩ := atI_in (xs := (Str.ofString "abcxyzqm").cps.toList) hd2.1 (by show d2 < 8; exact hd2.2)
    have f2 := List.all_eq_true.mp all_firsts c2 mc2
    simp only [Bool.and_eq_true, decide_eq_true_eq] at f2
    have k02 : Kp [s, c] H H2 := by walk_at "kp"
    walk_at "st"
    refine ⟨fun m σ' H' => ∃ (z : Str), σ' = [some (.ref s), some (.str "abcxyz0189.mnopqrstuvwdefghijkl234567"), some (.int sz), some (.str z)] ∧ Kp [s, c] H H' ∧ St s c H' ∧ z.length ≤ sz ∧ goodW (cs z) ∧ m = 41 - z.length, ⟨40, _, rfl, k02, st2, by show 1 ≤ sz; omega, ⟨by show 1 ≤ 1; decide, by show 1 ≤ 40; decide, ⟨c2, [], rfl, f2.1⟩, fun x m => by rw [List.mem_singleton.mp m]; exact f2.2⟩, rfl⟩, fun m σ' H' w => ?_⟩
    obtain ⟨z, rfl, k3, st3, hz, gz, rfl⟩ := w
    have lz : z.length ≤ 1000 := by omega
    walk_at "st"
    refine r_ite (fun h => ?_) (fun h => ?_)
    · refine ⟨fun σ' H' => ∃ m', m' < 41 - z.length ∧ ∃ (z : Str), σ' = [some (.ref s), some (.str "abcxyz0189.mnopqrstuvwdefghijkl234567"), some (.int sz), some (.str z)] ∧ Kp [s, c] H H' ∧ St s c H' ∧ z.length ≤ sz ∧ goodW (cs z) ∧ m' = 41 - z.length, fun _ _ h => h, ?_⟩
      walk_at "st"
      refine ⟨s, c, 37, rfl, st3, by omega, fun d4 H4 k4 st4 hd4 => ?_⟩
      obtain ⟨c4, ec4, mc4⟩ := atI_in (xs := (Str.ofString "abcxyz0189.mnopqrstuvwdefghijkl234567").cps.toList) hd4.1 (by show d4 < 37; exact hd4.2)
      have f4 := of_decide_eq_true (List.all_eq_true.mp all_signs c4 mc4)
      have k04 : Kp [s, c] H H4 := by walk_at "kp"
      have l1 : z.length + (⟨#[c4]⟩ : Str).length ≤ 50 := by show z.length + 1 ≤ 50; omega
      walk_at "st"
      have el : (z ++ (⟨#[c4]⟩ : Str)).length = z.length + 1 := by
        show (z.cps ++ #[c4]).size = _
        rw [Array.size_append]; rfl
      have gl := cs_len z
      refine ⟨_, by rw [el]; omega, _, rfl, k04, st4, by rw [el]; omega, ?_, rfl⟩
      rw [cs_append]
      obtain ⟨g1, g2, ⟨x, r, ex, hx⟩, g4⟩ := gz
      refine ⟨by rw [List.length_append]; omega, by rw [List.length_append, gl]; show z.length + 1 ≤ 40; omega, ⟨x, r ++ [c4], by rw [ex]; rfl, hx⟩, fun y m => ?_⟩
      rcases List.mem_append.mp m with m | m
      · exact g4 y m
      · rw [List.mem_singleton.mp m]; exact f4
    · walk_at "st"
      have e : (cs z).length = sz := by rw [cs_len]; omega
      exact q z _ k3 st3 gz (by rw [e]; exact hsz)
end
section
variable {P : Program} {w : World} {K : PySem.W.Frag} {mg : Str → Option Value} {base : Heap}
theorem ok_law_places (T : Tx K mg) {f_law_place : Addr} {fd_law_place : FuncData} (C_law_place : Cal P w K mg base "_law_place" 2 ["state"] (sp_law_place K) s_law_place f_law_place fd_law_place) {f_law_draw : Addr} {fd_law_draw : FuncData} (C_law_draw : Cal P w K mg base "_law_draw" 1 ["state", "many"] (sp_law_draw K) s_law_draw f_law_draw fd_law_draw) {f : Addr} {fd : FuncData} (F : Here K mg "_law_places" s_law_places ["state", "many"] f fd) : Cal P w K mg base "_law_places" 3 ["state", "many"] (sp_law_places K) s_law_places f fd := by
  refine F.cal sc_law_places (fun vs H Q E h => ?_) (fun cdv A outer s H vs Q E hr h => ?_)
  · obtain ⟨s, c, m, rfl, _⟩ := h
    rfl
  · obtain ⟨s, c, m, rfl, hst, hm, q⟩ := h
    refine ⟨_, (pss_cons (ps_set (i := 2) sc_law_places.nd rfl (by first | exact .inl rfl | exact .inr rfl) (pe_lst pa_nil))
      (pss_cons (ps_for PassesOwn.never rfl (pi_range1 (by rfl) T.m_range (pa_cons (pv 1) pa_nil)) (pg_name (i := 3) sc_law_places.nd rfl (by first | exact .inl rfl | exact .inr rfl)) (pss_cons (ps_set (i := 4) sc_law_places.nd rfl (by first | exact .inl rfl | exact .inr rfl) (pe_call C_law_place.ok (hr.mono (by decide)) (by rfl) C_law_place.at_ C_law_place.kp C_law_place.b .nil pass0 (pa_cons (pv 0) pa_nil)))
      (pss_cons (ps_if (PW.pt (pw_and (pt_cmpR (op_neNilK (K := K) (hu_of64 hr)) (pv 2) (pe_lst pa_nil) (nomark _)) (pw_and1 (pt_cmpR op_eq (pe_call C_law_draw.ok (hr.mono (by decide)) (by rfl) C_law_draw.at_ C_law_draw.kp C_law_draw.b .nil pass0 (pa_cons (pv 0) (pa_cons pe_int pa_nil))) pe_int (nomark _))))) (pss_one (ps_set (i := 4) sc_law_places.nd rfl (by first | exact .inl rfl | exact .inr rfl) (pe_op op_addS (pe_slice sl_str (pe_ix (ix_listK (K := K)) (pv 2) (pe_un un_neg pe_int) (fun _ _ => rfl)) po_none (po_some pe_int)) (pe_ix (ix_listK (K := K)) (pe_lst (pa_cons pe_str (pa_cons pe_str (pa_cons pe_str (pa_cons pe_str pa_nil))))) (pe_call C_law_draw.ok (hr.mono (by decide)) (by rfl) C_law_draw.at_ C_law_draw.kp C_law_draw.b .nil pass0 (pa_cons (pv 0) (pa_cons pe_int pa_nil))) (fun _ _ => rfl))))) pss_nil)
      (pss_cons (ps_while PassesOwn.never (pt_cmpR (op_inSeqK (K := K)) (pv 4) (pv 2) (by rfl)) (pss_one (ps_set (i := 4) sc_law_places.nd rfl (by first | exact .inl rfl | exact .inr rfl) (pe_op op_addS (pe_op op_addS pe_str (pe_callTy cr_strOf (by rfl) T.m_str (by decide +kernel) (pa_cons (pe_callB (cr_lenK (K := K)) (by rfl) T.m_len (by decide +kernel) (pa_cons (pv 2) pa_nil)) pa_nil))) (pe_slice sl_str (pv 4) po_none (po_some pe_int))))))
      (pss_one (ps_expr (castBM (K := K) (pe_bm PySem.F.plainAttrs_list PySem.F.slot_list_append PySem.F.type_list_append mt_append (pv 2) (pa_cons (pv 4) pa_nil)))))))))
      (pss_one (ps_ret (pv 2))))), ?_⟩
    walk_at "st"
    intro l hl
    have ol := hst.out hl
    walk_at "st"
    refine lp_by (walk_range (lo := 0) (n := m.toNat)) (fun i σ' H' => ∃ x3 x4, σ' = [some (.ref s), some (.int m), some (.ref l), x3, x4] ∧ Kp [s, c] H H' ∧ St s c H' ∧
      ∃ zs : List Str, H' l = some (.lst (zs.map V.str)) ∧ zs.length = i ∧ zs.Nodup ∧ ∀ z ∈ zs, goodW (cs z) ∧ OkW i (cs z)) ⟨none, none, rfl, by walk_at "kp", by walk_at "stt", [], upd_same, rfl, List.nodup_nil, by simp⟩ (fun _ _ _ _ _ => trivial) (fun i x σ' H2 H3 hi p y => ?_) (fun σ' H2 p => ?_)
    · obtain ⟨x3, x4, rfl, k2, st2, zs, el, en, nd, hz⟩ := p
      obtain ⟨rfl, rfl⟩ := y
      have i20 : i < 20 := by omega
      walk_at "st"
      refine ⟨s, c, rfl, st2, fun z H4 k4 st4 gz lz => ?_⟩
      have el4 : H4 l = some (.lst (zs.map V.str)) := by walk_at "hl"
      have k04 : Kp [s, c] H H4 := by walk_at "kp"
      walk_at "st"
      refine r_join (fun σ' H' => ∃ z, σ' = [some (.ref s), some (.int m), some (.ref l), some (.int (0 + (i : Int))), some (.str z)] ∧ Kp [s, c] H H' ∧ St s c H' ∧ H' l = some (.lst (zs.map V.str)) ∧ goodW (cs z) ∧ OkW i (cs z)) (fun σ' H' g => ?_) (fun N hN => ?_)
      · obtain ⟨z, rfl, k5, st5, el5, gz, oz⟩ := g
        walk_at "st"
        refine ⟨fun m' σ1 H1 => ∃ t z1, m' = 17 - t ∧ t ≤ 17 ∧ σ1 = [some (.ref s), some (.int m), some (.ref l), some (.int (0 + (i : Int))), some (.str z1)] ∧ H1 = H' ∧ cs z1 = itW i t (cs z), ⟨17, 0, z, rfl, by omega, rfl, rfl, rfl⟩, fun m' σ1 H1 w => ?_⟩
        obtain ⟨t, z1, rfl, ht, rfl, rfl, ez⟩ := w
        have g1 : goodW (cs z1) := by rw [ez]; exact gz.it i20 t
        have l1 : z1.length ≤ 1000 := by rw [← cs_len]; exact Nat.le_trans g1.2.1 (by decide)
        walk_at "st"
        refine r_ite (fun h => ?_) (fun h => ?_)
        · have t17 : t < 17 := by
            rcases Nat.lt_or_ge t 17 with g | g
            · exact g
            · obtain rfl : t = 17 := by omega
              rw [itW_17 i20] at ez
              exact absurd ez ((hz z1 h).2.end i20)
          refine ⟨fun σ2 H2 => ∃ m2, m2 < 17 - t ∧ ∃ t z1, m2 = 17 - t ∧ t ≤ 17 ∧ σ2 = [some (.ref s), some (.int m), some (.ref l), some (.int (0 + (i : Int))), some (.str z1)] ∧ H2 = H1 ∧ cs z1 = itW i t (cs z), fun _ _ h => h, ?_⟩
          have e9 : ((zs.map V.str).length : Int) = (i : Int) := by rw [List.length_map, en]
          have lg : ((i : Nat) : Int).natAbs.log2 < 1920 := by
            have : ((i : Nat) : Int).natAbs = i := rfl
            rw [this]
            exact Nat.lt_of_le_of_lt (Nat.log2_le_self i) (by omega)
          walk_at "st"
          rw [e9]
          have l2 := pre_fact i20
          have lpre : (Str.ofString "q" ++ Str.ofString (toString (i : Int))).length ≤ 3 := by
            have e : cs (Str.ofString "q" ++ Str.ofString (toString (i : Int))) = preW i := by rw [cs_append]; rfl
            rw [← cs_len, e]; exact l2.2.1
          have lq : (Str.ofString "q").length + (Str.ofString (toString (i : Int))).length ≤ 3 := by
            have : (Str.ofString "q" ++ Str.ofString (toString (i : Int))).length = (Str.ofString "q").length + (Str.ofString (toString (i : Int))).length := Array.size_append
            omega
          walk_at "st"
          have lc := cutS_length z1 none (some 30)
          refine r_addS (show _ ≤ sizeLine from Nat.le_trans (show _ ≤ 1003 by omega) (by decide)) ?_
          walk_at "st"
          refine ⟨17 - (t + 1), by omega, t + 1, _, rfl, by omega, rfl, rfl, ?_⟩
          rw [cs_append, cs_append]
          show _ = stepW i (itW i t (cs z))
          rw [← ez]
          have := cs_cut z1 30
          unfold stepW preW
          rw [← this]
          rfl
        · walk_at "st"
          have okl : OkW (i + 1) (cs z1) := by
            cases t with
            | zero => rw [ez]; exact oz.mono
            | succ t => rw [ez]; exact OkW.step (gz.it i20 t)
          refine ⟨_, _, rfl, by walk_at "kp", by walk_at "stt", zs ++ [z1], by rw [upd_same, List.map_append]; rfl, by simp [en], ?_, fun y m => ?_⟩
          · exact List.nodup_append.mpr ⟨nd, by simp, fun a ha b hb e => h (by rw [List.mem_singleton.mp hb] at e; exact e ▸ ha)⟩
          · rcases List.mem_append.mp m with m | m
            · exact ⟨(hz y m).1, (hz y m).2.mono⟩
            · rw [List.mem_singleton.mp m]; exact ⟨g1, okl⟩
      · walk_at "if"
        intro p hp
        walk_at "st"
        have keep : ∀ H6, Kp [s, c] H H6 → St s c H6 → H6 l = some (.lst (zs.map V.str)) → N [some (.ref s), some (.int m), some (.ref l), some (.int (0 + (i : Int))), some (.str z)] H6 := fun H6 k6 st6 el6 => hN _ _ ⟨z, rfl, k6, st6, el6, gz, .drawn lz⟩
        refine r_iteB (fun h => ?_) (fun h => ?_)
        · have ne : zs ≠ [] := fun e => by rw [e] at h; cases h
          obtain ⟨us, y, rfl⟩ : ∃ us y, zs = us ++ [y] := ⟨zs.dropLast, zs.getLast ne, (List.dropLast_concat_getLast ne).symm⟩
          walk_at "st"
          refine ⟨s, c, 3, rfl, by walk_at "stt", by omega, fun d H6 k6 st6 hd => ?_⟩
          have el6 : H6 l = some (.lst ((us ++ [y]).map V.str)) := by walk_at "hl"
          have k06 : Kp [s, c] H H6 := by walk_at "kp"
          walk_at "st"
          refine r_iteB (fun h2 => ?_) (fun h2 => ?_)
          · have my := hz y (List.mem_append_right _ (List.mem_singleton.mpr rfl))
            have ly : y.length ≤ 1000 := by rw [← cs_len]; exact Nat.le_trans my.1.2.1 (by decide)
            have ea : atI ((us ++ [y]).map V.str) (-1) = some (.str y) := by rw [List.map_append]; exact atI_last _ _
            walk_at "st"
            intro l7 hl7
            have ol7 := st6.out hl7
            walk_at "st"
            refine ⟨s, c, 4, rfl, by walk_at "stt", by omega, fun d8 H8 k8 st8 hd8 => ?_⟩
            obtain ⟨v8, ev8, mv8⟩ := atI_in (xs := [V.str "a", V.str ".", V.str "0", V.str "z"]) hd8.1 (by simpa using hd8.2)
            obtain ⟨c8, rfl, mc8⟩ : ∃ c8, v8 = V.str ⟨#[c8]⟩ ∧ c8 ∈ tailL := by
              simp at mv8
              rcases mv8 with h | h | h | h
              · exact ⟨97, h, by decide⟩
              · exact ⟨46, h, by decide⟩
              · exact ⟨48, h, by decide⟩
              · exact ⟨122, h, by decide⟩
            have lc := cutS_length y none (some 39)
            have ls : (cutS y none (some 39)).length + (⟨#[c8]⟩ : Str).length ≤ sizeLine := Nat.le_trans (show _ ≤ 1001 from by show _ + 1 ≤ 1001; omega) (by decide)
            have el8 : H8 l = some (.lst ((us ++ [y]).map V.str)) := by walk_at "hl"
            have e7 := k8 _ _ upd_same ol7
            have k08 : Kp [s, c] H H8 := by walk_at "kp"
            walk_at "st"
            have ec : cs (cutS y none (some 39) ++ ⟨#[c8]⟩) = (cs y).take 39 ++ [c8] := by
              rw [cs_append]
              have := cs_cut y 39
              rw [← this]; rfl
            exact hN _ _ ⟨_, rfl, k08, st8, el8, by rw [ec]; exact my.1.grow mc8, by rw [ec]; exact my.2.grow i20 ⟨my.1.1, my.1.2.1⟩ mc8⟩
          · walk_at "st"
            exact keep _ k06 st6 el6
        · walk_at "st"
          exact keep _ (by walk_at "kp") (by walk_at "stt") (by walk_at "hl")
    · obtain ⟨x3, x4, rfl, k2, st2, zs, el, en, nd, hz⟩ := p
      walk_at "st"
      exact q l zs _ k2 st2 hl el (by omega) nd fun z m => (hz z m).1
end
/-! ### terms: rising, one for each place, noughts left out -/
abbrev Tr := Str × Int
def ltS (x y : Str) : Prop := cs x < cs y
def rise (ts : List Tr) : Prop := (ts.map (·.1)).Pairwise ltS
theorem ltS.ne {x y : Str} (h : ltS x y) : x ≠ y := fun e => by rw [e] at h; exact List.lt_irrefl _ h
theorem ltS.asymm {x y : Str} (h : ltS x y) (k : ltS y x) : False := List.lt_asymm h k
theorem rise.nodup {ts : List Tr} (h : rise ts) : (ts.map (·.1)).Nodup := h.imp fun r => r.ne
theorem le_trans_S {x y z : Str} (h : ¬ ltS y x) (k : ¬ ltS z y) : ¬ ltS z x := by
  unfold ltS at *
  rw [List.not_lt] at *
  exact List.le_trans h k
theorem risingS_pairwise : ∀ (p : Str) (l : List Str), risingS p l = true → (p :: l).Pairwise fun a b => ¬ ltS b a
  | p, [], _ => List.pairwise_singleton _ _
  | p, x :: r, h => by
    unfold risingS at h
    rw [Bool.and_eq_true, Bool.not_eq_true', PyProof.Rows.ltCps_eq] at h
    have h1 : ¬ ltS x p := fun z => absurd (show x.cps.toList < p.cps.toList from z) (of_decide_eq_false h.1)
    have ih := risingS_pairwise x r h.2
    refine List.pairwise_cons.mpr ⟨fun y m => ?_, ih⟩
    rcases List.mem_cons.mp m with rfl | m
    · exact h1
    · exact le_trans_S h1 ((List.pairwise_cons.mp ih).1 y m)
theorem sortedS_pairwise {l : List Str} (h : sortedS l = true) : l.Pairwise fun a b => ¬ ltS b a := by
  cases l with
  | nil => exact .nil
  | cons x r => exact risingS_pairwise x r h
theorem sortedS_rise {l : List Str} (h : sortedS l = true) (nd : l.Nodup) : l.Pairwise ltS := by
  have p := sortedS_pairwise h
  refine (p.and nd).imp fun {a b} q => ?_
  rcases Std.lt_trichotomy (cs a) (cs b) with z | z | z
  · exact z
  · exact absurd (cs_inj z) q.2
  · exact absurd z q.1
theorem rise_same {ts us : List Tr} (h : rise ts) (k : rise us) (e : ∀ x, x ∈ ts ↔ x ∈ us) : ts = us := by
  have nt : ts.Nodup := nodup_of_keysS h.nodup
  have nu : us.Nodup := nodup_of_keysS k.nodup
  refine List.Perm.eq_of_pairwise (le := fun x y : Tr => ltS x.1 y.1) (fun a b _ _ p q => (p.asymm q).elim) (List.pairwise_map.mp h) (List.pairwise_map.mp k) ((List.perm_ext_iff_of_nodup nt nu).mpr e)
where
  nodup_of_keysS {l : List Tr} (h : (l.map (·.1)).Nodup) : l.Nodup := (List.pairwise_map.mp h).imp fun p e => p (by rw [e])
/-- how much the pairs tell of a place, together -/
def coef (ps : List Tr) (z : Str) : Int := ((ps.filter fun x => decide (x.1 = z)).map (·.2)).sum
theorem coef_nil (z : Str) : coef [] z = 0 := rfl
theorem coef_cons (x : Tr) (ps : List Tr) (z : Str) : coef (x :: ps) z = (if x.1 = z then x.2 else 0) + coef ps z := by
  unfold coef
  by_cases c : x.1 = z
  · rw [List.filter_cons_of_pos (by simpa using c), List.map_cons, List.sum_cons, if_pos c]
  · rw [List.filter_cons_of_neg (by simpa using c), if_neg c, Int.zero_add]
theorem coef_app (ps qs : List Tr) (z : Str) : coef (ps ++ qs) z = coef ps z + coef qs z := by
  induction ps with
  | nil => rw [List.nil_append, coef_nil, Int.zero_add]
  | cons x ps ih => rw [List.cons_append, coef_cons, coef_cons, ih, Int.add_assoc]
theorem coef_out {ps : List Tr} {z : Str} (h : z ∉ ps.map (·.1)) : coef ps z = 0 := by
  induction ps with
  | nil => rfl
  | cons x ps ih =>
    rw [List.map_cons] at h
    rw [coef_cons, if_neg fun e => h (by rw [e]; exact List.mem_cons_self), ih fun m => h (List.mem_cons_of_mem _ m)]; rfl
theorem coef_in {ps : List Tr} {z : Str} {k : Int} (nd : (ps.map (·.1)).Nodup) (h : (z, k) ∈ ps) : coef ps z = k := by
  induction ps with
  | nil => cases h
  | cons x ps ih =>
    rw [List.map_cons] at nd
    have nd2 := List.nodup_cons.mp nd
    rcases List.mem_cons.mp h with rfl | m
    · rw [coef_cons, if_pos rfl, coef_out nd2.1]; show k + 0 = k; omega
    · have : x.1 ≠ z := fun e => nd2.1 (by rw [e]; exact List.mem_map.mpr ⟨_, m, rfl⟩)
      rw [coef_cons, if_neg this, ih nd2.2 m, Int.zero_add]
/-- the terms of a form, by p: what these pairs tell together -/
structure Canon (p : Int) (ps ts : List Tr) : Prop where
  rise : rise ts
  mem : ∀ z k, (z, k) ∈ ts ↔ k = coef ps z % p ∧ k ≠ 0
theorem Canon.same {p : Int} {ps qs ts us : List Tr} (h : Canon p ps ts) (k : Canon p qs us) (e : ∀ z, coef ps z % p = coef qs z % p) : ts = us :=
  rise_same h.rise k.rise fun x => by
    obtain ⟨z, n⟩ := x
    rw [h.mem, k.mem, e]
structure TermsOk (p : Int) (ts : List Tr) : Prop where
  rise : rise ts
  ok : ∀ x ∈ ts, goodW (cs x.1) ∧ 1 ≤ x.2 ∧ x.2 < p
theorem TermsOk.canon {p : Int} {ts : List Tr} (h : TermsOk p ts) : Canon p ts ts where
  rise := h.rise
  mem := fun z k => by
    constructor
    · intro m
      have b := (h.ok _ m).2
      rw [coef_in h.rise.nodup m, Int.emod_eq_of_lt (by omega) b.2]
      exact ⟨rfl, by omega⟩
    · rintro ⟨e, ne⟩
      by_cases m : z ∈ ts.map (·.1)
      · obtain ⟨x, hx, rfl⟩ := List.mem_map.mp m
        have b := (h.ok x hx).2
        have e2 := coef_in h.rise.nodup (show (x.1, x.2) ∈ ts from hx)
        rw [e2, Int.emod_eq_of_lt (by omega) b.2] at e
        rw [e]; exact hx
      · rw [coef_out m] at e
        exact absurd (by rw [e]; rfl) ne
theorem Canon.ok {p : Int} {ps ts : List Tr} (hp : 0 < p) (h : Canon p ps ts) (g : ∀ x ∈ ps, goodW (cs x.1)) : TermsOk p ts where
  rise := h.rise
  ok := fun x m => by
    obtain ⟨z, k⟩ := x
    obtain ⟨e, ne⟩ := (h.mem z k).mp m
    have e0 := Int.emod_nonneg (coef ps z) (show p ≠ 0 by omega)
    have e1 := Int.emod_lt_of_pos (coef ps z) hp
    refine ⟨?_, by show 1 ≤ k; omega, by show k < p; omega⟩
    by_cases m2 : z ∈ ps.map (·.1)
    · obtain ⟨y, hy, rfl⟩ := List.mem_map.mp m2
      exact g y hy
    · rw [coef_out m2] at e
      exact absurd (by rw [e]; rfl) ne
/-! ### tables: a dict from texts to numbers -/
def encT (D : List Tr) : List (Key × V) := D.map fun x => (Sum.inr x.1, V.int x.2)
def getT (D : List Tr) (z : Str) : Option Int := (D.find? fun x => decide (x.1 = z)).map (·.2)
def putT (D : List Tr) (z : Str) (k : Int) : List Tr := if (D.any fun x => decide (x.1 = z)) = true then D.map (fun x => if x.1 = z then (x.1, k) else x) else D ++ [(z, k)]
theorem enc_get (D : List Tr) (z : Str) : valV (encT D) (Sum.inr z) = (getT D z).map V.int := by
  unfold valV getT encT
  rw [List.find?_map, Option.map_map, Option.map_map]
  have e : ((fun kv : Key × V => decide (kv.1 = Sum.inr z)) ∘ fun x : Tr => ((Sum.inr x.1 : Key), V.int x.2)) = fun x : Tr => decide (x.1 = z) := by
    funext x
    show decide ((Sum.inr x.1 : Key) = Sum.inr z) = _
    exact decide_eq_decide.mpr ⟨fun h => Sum.inr.inj h, fun h => by rw [h]⟩
  rw [e]; rfl
theorem enc_put (D : List Tr) (z : Str) (k : Int) : putK (encT D) (Sum.inr z) (V.int k) = encT (putT D z k) := by
  unfold putK putT
  have e : (encT D).any (fun kv => decide (kv.1 = Sum.inr z)) = D.any fun x => decide (x.1 = z) := by
    unfold encT
    rw [List.any_map]
    congr 1
    funext x
    show decide ((Sum.inr x.1 : Key) = Sum.inr z) = _
    exact decide_eq_decide.mpr ⟨fun h => Sum.inr.inj h, fun h => by rw [h]⟩
  rw [e]
  by_cases c : (D.any fun x => decide (x.1 = z)) = true
  · rw [if_pos c, if_pos c]
    unfold encT
    rw [List.map_map, List.map_map]
    refine List.map_congr_left fun x _ => ?_
    show (if (Sum.inr x.1 : Key) = Sum.inr z then (Sum.inr x.1, V.int k) else (Sum.inr x.1, V.int x.2)) = _
    by_cases d : x.1 = z
    · rw [if_pos (by rw [d])]
      show _ = ((Sum.inr (if x.1 = z then (x.1, k) else x).1 : Key), V.int (if x.1 = z then (x.1, k) else x).2)
      rw [if_pos d]
    · rw [if_neg fun h => d (Sum.inr.inj h)]
      show _ = ((Sum.inr (if x.1 = z then (x.1, k) else x).1 : Key), V.int (if x.1 = z then (x.1, k) else x).2)
      rw [if_neg d]
  · rw [if_neg c, if_neg c]
    unfold encT
    rw [List.map_append]; rfl
theorem any_key (D : List Tr) (z : Str) : (D.any fun x => decide (x.1 = z)) = true ↔ z ∈ D.map (·.1) := by
  rw [List.any_eq_true, List.mem_map]
  exact ⟨fun ⟨x, m, e⟩ => ⟨x, m, of_decide_eq_true e⟩, fun ⟨x, m, e⟩ => ⟨x, m, decide_eq_true e⟩⟩
theorem putT_keys (D : List Tr) (z : Str) (k : Int) : (putT D z k).map (·.1) = if z ∈ D.map (·.1) then D.map (·.1) else D.map (·.1) ++ [z] := by
  unfold putT
  by_cases c : z ∈ D.map (·.1)
  · rw [if_pos c, if_pos ((any_key D z).mpr c), List.map_map]
    refine List.map_congr_left fun x _ => ?_
    show (if x.1 = z then (x.1, k) else x).1 = x.1
    by_cases d : x.1 = z
    · rw [if_pos d]
    · rw [if_neg d]
  · rw [if_neg c, if_neg fun h => c ((any_key D z).mp h), List.map_append]; rfl
theorem getT_put (D : List Tr) (z y : Str) (k : Int) : getT (putT D z k) y = if y = z then some k else getT D y := by
  have h := valV_put (encT D) (Sum.inr z) (Sum.inr y) (V.int k)
  rw [enc_put, enc_get, enc_get] at h
  have inj : ∀ a b : Option Int, a.map V.int = b.map V.int → a = b := fun a b e => by
    cases a <;> cases b <;> simp at e <;> simp [e]
  by_cases c : y = z
  · subst c
    rw [if_pos rfl] at h ⊢
    exact inj _ (some k) h
  · rw [if_neg fun e => c (Sum.inr.inj e)] at h
    rw [if_neg c]
    exact inj _ _ h
theorem getT_out {D : List Tr} {z : Str} (h : z ∉ D.map (·.1)) : getT D z = none := by
  unfold getT
  rw [List.find?_eq_none.mpr fun x m e => h (List.mem_map.mpr ⟨x, m, of_decide_eq_true e⟩)]; rfl
theorem getT_in {D : List Tr} (nd : (D.map (·.1)).Nodup) {z : Str} {k : Int} (h : (z, k) ∈ D) : getT D z = some k := by
  induction D with
  | nil => cases h
  | cons x D ih =>
    rw [List.map_cons] at nd
    have nd2 := List.nodup_cons.mp nd
    unfold getT
    rcases List.mem_cons.mp h with rfl | m
    · rw [List.find?_cons_of_pos (by simp)]; rfl
    · have : x.1 ≠ z := fun e => nd2.1 (by rw [e]; exact List.mem_map.mpr ⟨_, m, rfl⟩)
      rw [List.find?_cons_of_neg (by simpa using this)]
      exact ih nd2.2 m
theorem putT_nodup {D : List Tr} (nd : (D.map (·.1)).Nodup) (z : Str) (k : Int) : ((putT D z k).map (·.1)).Nodup := by
  rw [putT_keys]
  by_cases c : z ∈ D.map (·.1)
  · rw [if_pos c]; exact nd
  · rw [if_neg c]
    exact List.nodup_append.mpr ⟨nd, by simp, fun a ha b hb e => c (by rw [List.mem_singleton.mp hb] at e; exact e ▸ ha)⟩
theorem putT_mem (D : List Tr) (z y : Str) (k : Int) : y ∈ (putT D z k).map (·.1) ↔ y ∈ D.map (·.1) ∨ y = z := by
  rw [putT_keys]
  by_cases c : z ∈ D.map (·.1)
  · rw [if_pos c]
    exact ⟨.inl, fun h => h.elim id fun e => e ▸ c⟩
  · rw [if_neg c, List.mem_append, List.mem_singleton]
theorem putT_len (D : List Tr) (z : Str) (k : Int) : (putT D z k).length ≤ D.length + 1 := by
  have := congrArg List.length (putT_keys D z k)
  rw [List.length_map] at this
  rw [this]
  split
  · rw [List.length_map]; omega
  · simp
/-! ### forms as they stand -/
def TrV (H : Hp) (v : V) (x : Tr) : Prop := ∃ t, v = .ref t ∧ H t = some (.tup [.str x.1, .int x.2])
def Trs (H : Hp) (us : List V) (ts : List Tr) : Prop := us.length = ts.length ∧ ∀ (i : Nat) (v : V), us[i]? = some v → ∃ x, ts[i]? = some x ∧ TrV H v x
def FrmV (H : Hp) (v : V) (n : Int) (ts : List Tr) : Prop := ∃ a b us, v = .ref a ∧ H a = some (.tup [.int n, .ref b]) ∧ H b = some (.tup us) ∧ Trs H us ts
structure FormOk (q n : Int) (ts : List Tr) : Prop where
  num : 0 ≤ n ∧ n < q
  ok : TermsOk q ts
/-- H' has all tuples of H -/
def Tups (H H' : Hp) : Prop := ∀ a xs, H a = some (.tup xs) → H' a = some (.tup xs)
theorem Tups.refl {H : Hp} : Tups H H := fun _ _ h => h
theorem Tups.trans {H H1 H2 : Hp} (a : Tups H H1) (b : Tups H1 H2) : Tups H H2 := fun _ _ h => b _ _ (a _ _ h)
theorem Tups.same {H H' : Hp} (k : Same H H') : Tups H H' := fun _ _ h => k _ _ h
theorem Tups.st {s c : Addr} {H H' : Hp} (k : Kp [s, c] H H') (t : St s c H) : Tups H H' := fun a xs h => k _ _ h fun z => by
  obtain ⟨_, cs, j, r, h2⟩ := t
  rcases List.mem_cons.mp z with e1 | z
  · rw [e1, h2.hs] at h; cases h
  · rw [List.mem_singleton.mp z, h2.hc] at h; cases h
theorem Tups.lst {H : Hp} {l : Addr} {xs : List V} {o : HO} (e : H l = some (.lst xs)) : Tups H (upd H l o) := fun a xs h => hl_set (fun z => by rw [z, e] at h; cases h) h
theorem Tups.dk {H : Hp} {l : Addr} {xs : List (Key × V)} {o : HO} (e : H l = some (.dK xs)) : Tups H (upd H l o) := fun a xs h => hl_set (fun z => by rw [z, e] at h; cases h) h
theorem TrV.to {H H' : Hp} {v : V} {x : Tr} (h : TrV H v x) (k : Tups H H') : TrV H' v x := by
  obtain ⟨t, e, h1⟩ := h
  exact ⟨t, e, k _ _ h1⟩
theorem Trs.to {H H' : Hp} {us : List V} {ts : List Tr} (h : Trs H us ts) (k : Tups H H') : Trs H' us ts := ⟨h.1, fun i v e => (h.2 i v e).imp fun _ y => ⟨y.1, y.2.to k⟩⟩
theorem FrmV.to {H H' : Hp} {v : V} {n : Int} {ts : List Tr} (h : FrmV H v n ts) (k : Tups H H') : FrmV H' v n ts := by
  obtain ⟨a, b, us, e, h1, h2, h3⟩ := h
  exact ⟨a, b, us, e, k _ _ h1, k _ _ h2, h3.to k⟩
theorem Trs.nil {H : Hp} : Trs H [] [] := ⟨rfl, fun i v e => by simp at e⟩
theorem Trs.append {H : Hp} {us vs : List V} {ts qs : List Tr} (h : Trs H us ts) (k : Trs H vs qs) : Trs H (us ++ vs) (ts ++ qs) :=
  ⟨by rw [List.length_append, List.length_append, h.1, k.1], fun i v e => by
    by_cases lt : i < us.length
    · rw [List.getElem?_append_left lt] at e
      rw [List.getElem?_append_left (by rw [← h.1]; exact lt)]
      exact h.2 i v e
    · rw [List.getElem?_append_right (by omega)] at e
      rw [List.getElem?_append_right (by rw [← h.1]; omega), ← h.1]
      exact k.2 _ v e⟩
theorem Trs.one {H : Hp} {v : V} {x : Tr} (h : TrV H v x) : Trs H [v] [x] := ⟨rfl, fun i u e => by
  cases i with
  | zero => exact ⟨x, rfl, (Option.some.inj (show some v = some u from e)) ▸ h⟩
  | succ i => simp at e⟩
theorem cr_sortedSK {X : Cx} {K : PySem.W.Frag} (q : X.K = K := by rfl) : CallR X (.builtin "sorted") (rSortedS K) := q ▸ cr_sortedS
section
variable {K : PySem.W.Frag} {H : Hp} {Q : VK}
theorem r_sortS {a : Addr} {xs : List Str} (h : SqL K H a (xs.map V.str)) (z : xs.length < 64) (q : ∀ (ys : List Str) (p : Addr), ys.Perm xs → sortedS ys = true → H p = none → Q (.ref p) (upd H p (.lst (ys.map V.str)))) : rSortedS K [.ref a] H Q := ⟨a, xs, rfl, h, z, q⟩
end
theorem getElem?_map_str {ns : List Str} {i : Nat} {x : V} (e : (ns.map V.str)[i]? = some x) : ∃ n, ns[i]? = some n ∧ x = .str n := by
  rw [List.getElem?_map] at e
  cases h : ns[i]? with
  | none => rw [h] at e; cases e
  | some n => rw [h] at e; exact ⟨n, rfl, (Option.some.inj e).symm⟩
def sp_law_form (_ : PySem.W.Frag) : Sp := fun vs H Q _ => ∃ (s c l : Addr) (q : Int) (zs : List Str), vs = [.ref s, .ref l, .int q] ∧ St s c H ∧ H l = some (.lst (zs.map V.str)) ∧ l ∉ [s, c] ∧ zs.Nodup ∧ zs.length < 64 ∧ (∀ z ∈ zs, goodW (cs z)) ∧ (2 ≤ q ∧ q ≤ 997) ∧
  ∀ (a : Addr) (n : Int) (ts : List Tr) (H' : Hp), Kp [s, c] H H' → St s c H' → FrmV H' (.ref a) n ts → FormOk q n ts → (∀ x ∈ ts, x.1 ∈ zs) → ts.length ≤ zs.length → Q (.ref a) H'
section
variable {P : Program} {w : World} {K : PySem.W.Frag} {mg : Str → Option Value} {base : Heap}
theorem ok_law_form (T : Tx K mg) {f_law_draw : Addr} {fd_law_draw : FuncData} (C_law_draw : Cal P w K mg base "_law_draw" 1 ["state", "many"] (sp_law_draw K) s_law_draw f_law_draw fd_law_draw) {f : Addr} {fd : FuncData} (F : Here K mg "_law_form" s_law_form ["state", "places", "q"] f fd) : Cal P w K mg base "_law_form" 2 ["state", "places", "q"] (sp_law_form K) s_law_form f fd := by
  refine F.cal sc_law_form (fun vs H Q E h => ?_) (fun cdv A outer s H vs Q E hr h => ?_)
  · obtain ⟨s, c, l, q, zs, rfl, _⟩ := h
    rfl
  · obtain ⟨s, c, l, q, zs, rfl, hst, hl, nl, nd, lz, gz, hq, fin⟩ := h
    refine ⟨_, (pss_cons (ps_set (i := 3) sc_law_form.nd rfl (by first | exact .inl rfl | exact .inr rfl) (pe_lst pa_nil))
      (pss_cons (ps_for PassesOwn.never rfl (pi_listK (K := K) (pe_callB (cr_sortedSK (K := K)) (by rfl) T.m_sorted (by decide +kernel) (pa_cons (pv 1) pa_nil))) (pg_name (i := 4) sc_law_form.nd rfl (by first | exact .inl rfl | exact .inr rfl)) (pss_cons (ps_set (i := 5) sc_law_form.nd rfl (by first | exact .inl rfl | exact .inr rfl) (pe_ix (ix_listK (K := K)) (pe_lst (pa_cons pe_int (pa_cons pe_int (pa_cons (pe_op op_sub (pv 2) pe_int) (pa_cons (pe_call C_law_draw.ok (hr.mono (by decide)) (by rfl) C_law_draw.at_ C_law_draw.kp C_law_draw.b .nil pass0 (pa_cons (pv 0) (pa_cons (pv 2) pa_nil))) pa_nil))))) (pe_call C_law_draw.ok (hr.mono (by decide)) (by rfl) C_law_draw.at_ C_law_draw.kp C_law_draw.b .nil pass0 (pa_cons (pv 0) (pa_cons pe_int pa_nil))) (fun _ _ => rfl)))
      (pss_one (ps_if (pt_cmpR op_gt (pv 5) pe_int (nomark _)) (pss_one (ps_expr (castBM (K := K) (pe_bm PySem.F.plainAttrs_list PySem.F.slot_list_append PySem.F.type_list_append mt_append (pv 3) (pa_cons (pe_tup (pa_cons (pv 4) (pa_cons (pv 5) pa_nil))) pa_nil))))) pss_nil))))
      (pss_one (ps_ret (pe_tup (pa_cons (pe_ix (ix_listK (K := K)) (pe_lst (pa_cons pe_int (pa_cons pe_int (pa_cons (pe_op op_sub (pv 2) pe_int) (pa_cons (pe_call C_law_draw.ok (hr.mono (by decide)) (by rfl) C_law_draw.at_ C_law_draw.kp C_law_draw.b .nil pass0 (pa_cons (pv 0) (pa_cons (pv 2) pa_nil))) pa_nil))))) (pe_call C_law_draw.ok (hr.mono (by decide)) (by rfl) C_law_draw.at_ C_law_draw.kp C_law_draw.b .nil pass0 (pa_cons (pv 0) (pa_cons pe_int pa_nil))) (fun _ _ => rfl)) (pa_cons (pe_callTy (cr_tupOfK (K := K)) (by rfl) T.m_tuple (by decide +kernel) (pa_cons (pv 3) pa_nil)) pa_nil))))))), ?_⟩
    walk_at "st"
    intro lt hlt
    have olt := hst.out hlt
    have nlt : l ≠ lt := ne_of_none hl hlt
    walk_at "st"
    refine r_sortS (SqL.of (hl_new hl hlt)) lz fun ys p pm so hp => ?_
    have st1 : St s c (upd H lt (.lst [])) := hst.new hlt
    have op := st1.out hp
    have np : lt ≠ p := ne_of_none upd_same hp
    have ri := sortedS_rise so (pm.symm.nodup nd)
    have gy : ∀ z ∈ ys, goodW (cs z) ∧ z ∈ zs := fun z m => ⟨gz z (pm.mem_iff.mp m), pm.mem_iff.mp m⟩
    walk_at "st"
    refine lp_by (walk_list (a := p) (xs := ys.map V.str)) (fun i σ' H' => ∃ x4 x5, σ' = [some (.ref s), some (.ref l), some (.int q), some (.ref lt), x4, x5] ∧ Kp [s, c] H H' ∧ St s c H' ∧ H' p = some (.lst (ys.map V.str)) ∧
      ∃ us ts, H' lt = some (.lst us) ∧ Trs H' us ts ∧ (ts.map (·.1)).Sublist (ys.take i) ∧ ∀ x ∈ ts, 1 ≤ x.2 ∧ x.2 < q) ⟨none, none, rfl, by walk_at "kp", by walk_at "stt", upd_same, [], [], by walk_at "hl", Trs.nil, List.Sublist.refl _, by simp⟩ (fun i σ' H' _ g => ?_) (fun i x σ' H2 H3 hi g y => ?_) (fun σ' H2 g => ?_)
    · obtain ⟨_, _, _, _, _, ep, _⟩ := g
      exact SqL.of ep
    · obtain ⟨x4, x5, rfl, k2, st2, ep, us, ts, et, ht, sb, bd⟩ := g
      obtain ⟨rfl, ex⟩ := y
      obtain ⟨z, ez, rfl⟩ := getElem?_map_str ex
      have lts : ts.length ≤ 64 := by
        have := sb.length_le
        rw [List.length_map, List.length_take] at this
        have := pm.length_eq
        omega
      walk_at "st"
      refine ⟨s, c, q, rfl, st2, by omega, fun d4 H4 k4 st4 hd4 => ?_⟩
      walk_at "st"
      intro l5 hl5
      have ol5 := st4.out hl5
      walk_at "st"
      refine ⟨s, c, 4, rfl, by walk_at "stt", by omega, fun d6 H6 k6 st6 hd6 => ?_⟩
      obtain ⟨v6, ev6, mv6⟩ := atI_in (xs := [V.int 0, V.int 1, V.int (q - 1), V.int d4]) hd6.1 (by simpa using hd6.2)
      obtain ⟨n6, rfl, hn6⟩ : ∃ n, v6 = V.int n ∧ (0 ≤ n ∧ n < q) := by
        simp at mv6
        rcases mv6 with h | h | h | h <;> exact ⟨_, h, by omega⟩
      have e5 := k6 _ _ upd_same ol5
      have k5 : Kp [s, c] H4 (upd H4 l5 (.lst [V.int 0, V.int 1, V.int (q - 1), V.int d4])) := Kp.new hl5
      have et6 : H6 lt = some (.lst us) := k6 _ _ (k5 _ _ (k4 _ _ et olt) olt) olt
      have ep6 : H6 p = some (.lst (ys.map V.str)) := k6 _ _ (k5 _ _ (k4 _ _ ep op) op) op
      have T6 := (Tups.st k4 st2).trans ((Tups.same (Same.upd_new hl5)).trans (Tups.st k6 (st4.new hl5)))
      have k06 : Kp [s, c] H H6 := ((k2.trans k4).trans k5).trans k6
      walk_at "st"
      walk_at "if"
      have sb' : (ts.map (·.1)).Sublist (ys.take (i + 1)) := sb.trans (by rw [List.take_succ]; exact List.sublist_append_left _ _)
      refine r_ite (fun h => ?_) (fun h => ?_)
      · walk_at "st"
        intro t ht8
        have lu : us.length ≤ 64 := by rw [ht.1]; exact lts
        have ht6 := hl_new et6 ht8 (u := .tup [V.str z, V.int n6])
        walk_at "st"
        have nt : t ≠ lt := (ne_of_none et6 ht8).symm
        refine ⟨_, _, rfl, by walk_at "kp", by walk_at "stt", by walk_at "hl", us ++ [.ref t], ts ++ [(z, n6)], upd_same, ?_, ?_, fun x m => ?_⟩
        · exact ((ht.to (T6.trans (Tups.same (Same.upd_new ht8)))).append (Trs.one ⟨t, rfl, upd_same⟩)).to (Tups.lst ht6)
        · rw [List.map_append, List.take_succ, ez]
          exact sb.append (List.Sublist.refl _)
        · rcases List.mem_append.mp m with m | m
          · exact bd x m
          · rw [List.mem_singleton.mp m]; exact ⟨by show 1 ≤ n6; omega, hn6.2⟩
      · walk_at "st"
        exact ⟨_, _, rfl, k06, st6, ep6, us, ts, et6, ht.to T6, sb', bd⟩
    · obtain ⟨x4, x5, rfl, k2, st2, ep, us, ts, et, ht, sb, bd⟩ := g
      rw [List.take_of_length_le (by rw [List.length_map]; exact Nat.le_refl _)] at sb
      walk_at "st"
      refine ⟨s, c, q, rfl, st2, by omega, fun d4 H4 k4 st4 hd4 => ?_⟩
      walk_at "st"
      intro l5 hl5
      have ol5 := st4.out hl5
      walk_at "st"
      refine ⟨s, c, 4, rfl, by walk_at "stt", by omega, fun d6 H6 k6 st6 hd6 => ?_⟩
      obtain ⟨v6, ev6, mv6⟩ := atI_in (xs := [V.int 0, V.int 1, V.int (q - 1), V.int d4]) hd6.1 (by simpa using hd6.2)
      obtain ⟨n6, rfl, hn6⟩ : ∃ n, v6 = V.int n ∧ (0 ≤ n ∧ n < q) := by
        simp at mv6
        rcases mv6 with h | h | h | h <;> exact ⟨_, h, by omega⟩
      have e5 := k6 _ _ upd_same ol5
      have k5 : Kp [s, c] H4 (upd H4 l5 (.lst [V.int 0, V.int 1, V.int (q - 1), V.int d4])) := Kp.new hl5
      have et6 : H6 lt = some (.lst us) := k6 _ _ (k5 _ _ (k4 _ _ et olt) olt) olt
      have T6 := (Tups.st k4 st2).trans ((Tups.same (Same.upd_new hl5)).trans (Tups.st k6 (st4.new hl5)))
      have k06 : Kp [s, c] H H6 := ((k2.trans k4).trans k5).trans k6
      walk_at "st"
      intro b hb
      walk_at "st"
      intro a ha
      have S8 : Same H6 (upd (upd H6 b (.tup us)) a (.tup [V.int n6, V.ref b])) := (Same.upd_new hb).trans (Same.upd_new ha)
      refine fin a n6 ts _ (by walk_at "kp") (by walk_at "stt") ⟨a, b, us, rfl, upd_same, hl_new upd_same ha, ht.to (T6.trans (Tups.same S8))⟩ ⟨hn6, ri.sublist sb, fun x m => ?_⟩ (fun x m => ?_) (by have := sb.length_le; rw [List.length_map, pm.length_eq] at this; exact this)
      · exact ⟨(gy _ (sb.subset (List.mem_map.mpr ⟨x, m, rfl⟩))).1, bd x m⟩
      · exact (gy _ (sb.subset (List.mem_map.mpr ⟨x, m, rfl⟩))).2
end
/-! ### dicts from texts to numbers: their readings -/
def DG3 (d : Addr) (Q : VK) (y z : V) (H : Hp) : Prop := ∃ o, DGet H d y o ∧ Q (o.getD z) H
def DG2 (ty tx : TE) (σ : L2.St) (Q : VK) (x : V) (H1 : Hp) : Prop := ∃ a, x = .ref a ∧ IsD H1 a ∧ ty σ H1 fun y H2 => tx σ H2 fun z H3 => DG3 a Q y z H3
def DG1 (Q : VK) (x y : V) (H2 : Hp) : Prop := ∃ a v, x = .ref a ∧ DGet H2 a y (some v) ∧ Q v H2
def rSortedD : List V → Hp → VK → Prop := fun xs H Q => ∃ (a : Addr) (kvs : List (Key × V)) (ks : List Str), xs = [.ref a] ∧ Rd H a (.dK kvs) ∧ kvs.map (·.1) = ks.map Sum.inr ∧ ks.length < 64 ∧
    ∀ ys p, ys.Perm ks → sortedS ys = true → H p = none → Q (.ref p) (upd H p (.lst (ys.map V.str)))
theorem cr_sortedD {X : Cx} (hc : X.calm = true) : CallR X (.builtin "sorted") rSortedD := call_sortedD hc
section
variable {K : PySem.W.Frag} {D : Ends} {σ : L2.St} {H : Hp} {Q : VK}
theorem r_par {i j : Nat} {ta : TA} (h : ta σ H fun vs H1 => ∃ v w, vs = [v, w] ∧ D.nx ((σ.set i (some v)).set j (some w)) H1) : tPar i j ta D σ H := h
theorem r_parx {v w : V} {R : V → V → Prop} (h : R v w) : ∃ v' w', [v, w] = [v', w'] ∧ R v' w' := ⟨v, w, rfl, h⟩
theorem r_gtup {n : Nat} {t : TGs} {a : Addr} {xs : List V} {N : L2.St → Hp → Prop} (h : SqT K H a xs) (e : xs.length = n) (q : t xs σ H N) : gTup K n t (.ref a) σ H N := ⟨a, xs, rfl, h, e, q⟩
theorem r_gcons {t : TG} {u : TGs} {v : V} {r : List V} {N : L2.St → Hp → Prop} (q : t v σ H fun σ' H' => u r σ' H' N) : gCons t u (v :: r) σ H N := ⟨v, r, rfl, q⟩
theorem r_gnil {N : L2.St → Hp → Prop} (q : N σ H) : gNil [] σ H N := ⟨rfl, q⟩
end
section
variable {σ : L2.St} {H : Hp} {Q : VK}
theorem r_dget2 {td ty tx : TE} (h : td σ H (DG2 ty tx σ Q)) : tDGet2 td ty tx σ H Q := h
theorem r_dg2 {ty tx : TE} {d : Addr} {D : List Tr} (e : H d = some (.dK (encT D))) (h : ty σ H fun y H2 => tx σ H2 fun z H3 => DG3 d Q y z H3) : DG2 ty tx σ Q (.ref d) H := ⟨d, rfl, .inl ⟨_, .inl e⟩, h⟩
theorem r_dg3 {d : Addr} {D : List Tr} {z : Str} {n : Int} (e : H d = some (.dK (encT D))) (q : Q (.int ((getT D z).getD n)) H) : DG3 d Q (.str z) (.int n) H :=
  ⟨_, DGet.k (k := Sum.inr z) e, by
    rw [enc_get]
    cases h : getT D z with
    | none => rw [h] at q; exact q
    | some k => rw [h] at q; exact q⟩
theorem r_dget {td ty : TE} (h : td σ H fun x H1 => ty σ H1 fun y H2 => DG1 Q x y H2) : tDGet td ty σ H Q := h
theorem r_dgv {d : Addr} {D : List Tr} {z : Str} {k : Int} (e : H d = some (.dK (encT D))) (g : getT D z = some k) (q : Q (.int k) H) : DG1 Q (.ref d) (.str z) H :=
  ⟨d, _, rfl, by
    have := DGet.k (k := Sum.inr z) e
    rw [enc_get, g] at this
    exact this, q⟩
theorem r_setD {d : Addr} {D : List Tr} {z : Str} {k : Int} {N : Hp → Prop} (e : H d = some (.dK (encT D))) (l : D.length ≤ 1000) (q : N (upd H d (.dK (encT (putT D z k))))) : rSetD (.ref d) (.str z) (.int k) H N :=
  ⟨d, _, rfl, by
    have := DPut.k (k := Sum.inr z) (v := .int k) e (by unfold encT; rw [List.length_map]; exact Nat.lt_of_le_of_lt l (by decide))
    rw [enc_put] at this
    exact this, q⟩
theorem r_sortD {d : Addr} {D : List Tr} (e : H d = some (.dK (encT D))) (l : D.length < 64) (q : ∀ (ys : List Str) (p : Addr), ys.Perm (D.map (·.1)) → sortedS ys = true → H p = none → Q (.ref p) (upd H p (.lst (ys.map V.str)))) : rSortedD [.ref d] H Q :=
  ⟨d, _, D.map (·.1), rfl, .inl e, by unfold encT; rw [List.map_map, List.map_map]; rfl, by rw [List.length_map]; exact l, q⟩
def DP (p : Addr) (Q : VK) (ps : List (V × V)) (H2 : Hp) : Prop := H2 p = some (.dK []) ∧ ∃ kvs : List (Key × V), ps = kvs.map (fun kv => (kV kv.1, kv.2)) ∧ kvs.length ≤ 15 ∧ Q (.ref p) (upd H2 p (.dK (mergeK [] kvs)))
theorem r_disp {trs : List (TE × TE)} (h : ∀ p, H p = none → tPairs trs σ (upd H p (.dK [])) (DP p Q)) : tDisp trs σ H Q := h
theorem r_tp1 {tk tv : TE} {r : List (TE × TE)} {R : List (V × V) → Hp → Prop} (h : tk σ H fun x H1 => tv σ H1 fun y H2 => tPairs r σ H2 fun ps H3 => R ((x, y) :: ps) H3) : tPairs ((tk, tv) :: r) σ H R := h
theorem r_tp0 {R : List (V × V) → Hp → Prop} (h : R [] H) : tPairs [] σ H R := h
theorem r_dp1 {p : Addr} {z : Str} {n : Int} (h : H p = some (.dK [])) (q : Q (.ref p) (upd H p (.dK (encT [(z, n)])))) : DP p Q [(V.str z, V.int n)] H := ⟨h, [(Sum.inr z, .int n)], rfl, by simp, q⟩
theorem r_dnewK (h : ∀ p, H p = none → Q (.ref p) (upd H p (.dK (encT [])))) : tDNewK σ H Q := h
end
local macro_rules | `(tactic| walk_at "st1") => `(tactic| first
  | with_reducible refine r_par ?_
  | with_reducible refine r_parx ?_
  | ((with_reducible refine' r_gtup ?e1 ?e2 ?_); (case e1 => walk_at "sq"); (case e2 => rfl))
  | with_reducible refine r_gcons ?_
  | with_reducible refine r_gnil ?_
  | with_reducible refine r_disp ?_
  | with_reducible refine r_tp1 ?_
  | with_reducible refine r_tp0 ?_
  | ((with_reducible refine' r_dp1 ?e1 ?_); (case e1 => walk_at "hl"))
  | with_reducible refine r_dnewK ?_
  | with_reducible refine r_dget2 ?_
  | ((with_reducible refine' r_dg2 ?e1 ?_); (case e1 => walk_at "hl"))
  | ((with_reducible refine' r_dg3 ?e1 ?_); (case e1 => walk_at "hl"))
  | with_reducible refine r_dget ?_
  | ((with_reducible refine' r_dgv ?e1 ?e2 ?_); (case e1 => walk_at "hl"); (case e2 => assumption))
  | ((with_reducible refine' r_setD ?e1 ?e2 ?_); (case e1 => walk_at "hl"); (case e2 => omega)))
def sp_new_form (_ : PySem.W.Frag) : Sp := fun vs H Q _ => ∃ (l : Addr) (n p : Int) (us : List V) (ps : List Tr), vs = [.int n, .ref l, .int p] ∧ H l = some (.lst us) ∧ Trs H us ps ∧ ps.length < 64 ∧ (2 ≤ p ∧ p ≤ 997) ∧
  ∀ (a : Addr) (ts : List Tr) (H' : Hp), Same H H' → FrmV H' (.ref a) (n % p) ts → Canon p ps ts → Q (.ref a) H'
section
variable {P : Program} {w : World} {K : PySem.W.Frag} {mg : Str → Option Value} {base : Heap}
theorem ok_new_form (T : Tx K mg)  {f : Addr} {fd : FuncData} (F : Here K mg "new_form" s_new_form ["n", "pairs", "p"] f fd) : Cal P w K mg base "new_form" 1 ["n", "pairs", "p"] (sp_new_form K) s_new_form f fd := by
  refine F.cal sc_new_form (fun vs H Q E h => ?_) (fun cdv A outer s H vs Q E hr h => ?_)
  · obtain ⟨l, n, p, us, ps, rfl, _⟩ := h
    rfl
  · obtain ⟨l, n, p, us, ps, rfl, hl, hu, lp, hp, q⟩ := h
    have lu : us.length < 64 := by rw [hu.1]; exact lp
    refine ⟨_, (pss_cons (ps_set (i := 3) sc_new_form.nd rfl (by first | exact .inl rfl | exact .inr rfl) pe_dnewK)
      (pss_cons (ps_for PassesOwn.never rfl (pi_listK (K := K) (pv 1)) (castPG (K := K) (n := 2) (pg_tup rfl (pgs_cons (pg_name (i := 4) sc_new_form.nd rfl (by first | exact .inl rfl | exact .inr rfl)) (pgs_cons (pg_name (i := 5) sc_new_form.nd rfl (by first | exact .inl rfl | exact .inr rfl)) pgs_nil)))) (pss_one (ps_asg (pe_op op_mod (pe_op op_add (pe_dget2 (hu_of hr) (pv 3) (pv 4) pe_int ⟨by rfl, by rfl, by rfl, by rfl⟩) (pv 5)) (pv 2)) (pg_sub (pv 3) (pv 4) (set_dict (hu_of hr))))))
      (pss_one (ps_ret (pe_tup (pa_cons (pe_op op_mod (pv 0) (pv 2)) (pa_cons (pe_callTy (cr_tupOfK (K := K)) (by rfl) T.m_tuple (by decide +kernel) (pa_cons (pe_lc rfl sc_new_form.nd (pi_listK (K := K) (pe_callB (cr_sortedD rfl) (by rfl) T.m_sorted (by decide +kernel) (pa_cons (pv 3) pa_nil))) (blkOk_by (own := [("place", 4)]) (N := ["n", "pairs", "p", "worths", "place", "k"]) (sc := (defScope s_new_form)) (by decide +kernel)) (fun _ _ _ _ _ => (pg_name (i := 4) sc_new_form.nd rfl (by first | exact .inl rfl | exact .inr rfl))) (fun _ _ _ _ _ => (pts_one (pt_cmpR op_ne (pe_dget (hu_of hr) (pv 3) (pv 4) (fun _ _ => rfl)) pe_int (nomark _)))) (fun _ _ _ _ _ => (pe_tup (pa_cons (pv 4) (pa_cons (pe_dget (hu_of hr) (pv 3) (pv 4) (fun _ _ => rfl)) pa_nil))))) pa_nil)) pa_nil))))))), ?_⟩
    walk_at "st"
    intro d hd
    walk_at "st"
    refine lp_by (walk_list (a := l) (xs := us)) (fun i σ' H' => ∃ x4 x5, σ' = [some (.int n), some (.ref l), some (.int p), some (.ref d), x4, x5] ∧ Same H H' ∧
      ∃ D, H' d = some (.dK (encT D)) ∧ (D.map (·.1)).Nodup ∧ D.length ≤ i ∧ ∀ z, (getT D z).getD 0 = coef (ps.take i) z % p) ⟨none, none, rfl, Same.upd_new hd, [], upd_same, List.nodup_nil, Nat.le_refl _, fun z => by simp [getT, coef]⟩ (fun i σ' H' _ g => ?_) (fun i x σ' H2 H3 hi g y => ?_) (fun σ' H2 g => ?_)
    · obtain ⟨_, _, _, sm, _⟩ := g
      exact SqL.of (sm _ _ hl)
    · obtain ⟨x4, x5, rfl, sm, D, eD, nd, lD, hD⟩ := g
      obtain ⟨rfl, ex⟩ := y
      obtain ⟨⟨z, k⟩, ez, t, rfl, ht⟩ := hu.2 i x ex
      have ht2 := sm _ _ ht
      have lD2 : D.length ≤ 1000 := by omega
      walk_at "st"
      refine ⟨_, _, rfl, fun b o e => hl_set (ne_of_none e hd) (sm _ _ e), _, upd_same, putT_nodup nd _ _, Nat.le_trans (putT_len _ _ _) (by omega), fun y => ?_⟩
      rw [getT_put, List.take_succ, ez]
      show _ = coef (ps.take i ++ [(z, k)]) y % p
      rw [coef_app, coef_cons, coef_nil, Int.add_zero]
      by_cases c : y = z
      · subst c
        rw [if_pos rfl, if_pos rfl, Option.getD_some, hD y, Int.emod_add_emod]
      · rw [if_neg c, if_neg (fun e => c e.symm), Int.add_zero]
        exact hD y
    · obtain ⟨x4, x5, rfl, sm, D, eD, nd, lD, hD⟩ := g
      rw [List.take_of_length_le (by rw [hu.1]; exact Nat.le_refl _)] at hD
      walk_at "st"
      refine r_sortD eD (by omega) fun ys p0 pm so hp0 => ?_
      have sD : Same H2 (upd H2 p0 (.lst (ys.map V.str))) := Same.upd_new hp0
      have nys : ys.Nodup := pm.symm.nodup nd
      have ri := sortedS_rise so nys
      have lys : ys.length < 64 := by rw [pm.length_eq, List.length_map]; omega
      have ed := sD _ _ eD
      have ep : upd H2 p0 (.lst (ys.map V.str)) p0 = some (.lst (ys.map V.str)) := upd_same
      have S0 := sm.trans sD
      generalize upd H2 p0 (.lst (ys.map V.str)) = H3 at *
      walk_at "st"
      intro Dl hDl
      refine lc_by (walk_list (a := p0) (xs := ys.map V.str)) (fun i H' => Same H3 H' ∧ ∃ us ts, H' Dl = some (.lst us) ∧ Trs H' us ts ∧ (ts.map (·.1)).Sublist (ys.take i) ∧ (∀ x ∈ ts, getT D x.1 = some x.2 ∧ x.2 ≠ 0) ∧ ∀ (j : Nat) z k, j < i → ys[j]? = some z → getT D z = some k → k ≠ 0 → (z, k) ∈ ts)
        ⟨Same.upd_new hDl, [], [], upd_same, Trs.nil, List.Sublist.refl _, by simp, fun j z k g => absurd g (Nat.not_lt_zero j)⟩ (fun i H' _ g => SqL.of (g.1 _ _ ep)) (fun i x H4 H5 hi g y => ?_) (fun H4 g => ?_)
      · obtain ⟨s4, us, ts, et, ht, sb, h1, h2⟩ := g
        obtain ⟨rfl, ex⟩ := y
        obtain ⟨z, ez, rfl⟩ := getElem?_map_str ex
        have mz : z ∈ D.map (·.1) := pm.mem_iff.mp (List.mem_of_getElem? ez)
        obtain ⟨⟨z', k⟩, mk, rfl⟩ := List.mem_map.mp mz
        have gk := getT_in nd mk
        have ed4 := s4 _ _ ed
        have lts : ts.length ≤ 64 := by
          have := sb.length_le
          rw [List.length_map, List.length_take] at this
          omega
        have sb' : (ts.map (·.1)).Sublist (ys.take (i + 1)) := sb.trans (by rw [List.take_succ]; exact List.sublist_append_left _ _)
        refine ⟨rfl, ?_⟩
        walk_at "st"
        have old : ∀ (j : Nat) z'' k'', j < i + 1 → ys[j]? = some z'' → getT D z'' = some k'' → k'' ≠ 0 → (z'', k'') ∈ ts ∨ (z'', k'') = (z', k) := fun j z'' k'' lt e1 e2 e3 => by
          rcases Nat.lt_succ_iff_lt_or_eq.mp lt with g | g
          · exact .inl (h2 j _ _ g e1 e2 e3)
          · rw [g, ez] at e1
            cases e1
            rw [gk] at e2
            cases e2
            exact .inr rfl
        refine r_iteB (fun h => ?_) (fun h => ?_)
        · have k0 : k ≠ 0 := by simpa using h
          walk_at "st"
          intro t ht8
          have ht4 := hl_new et ht8 (u := .tup [V.str z', V.int k])
          refine ⟨us, ht4, by rw [ht.1]; exact Nat.lt_of_le_of_lt lts (by decide), fun b o e => hl_set (ne_of_none e hDl) (hl_new (s4 _ _ e) ht8), us ++ [.ref t], ts ++ [(z', k)], upd_same, ?_, ?_, fun x m => ?_, fun j z'' k'' lt e1 e2 e3 => ?_⟩
          · exact ((ht.to (Tups.same (Same.upd_new ht8))).append (Trs.one ⟨t, rfl, upd_same⟩)).to (Tups.lst ht4)
          · rw [List.map_append, List.take_succ, ez]
            exact sb.append (List.Sublist.refl _)
          · rcases List.mem_append.mp m with m | m
            · exact h1 x m
            · rw [List.mem_singleton.mp m]; exact ⟨gk, k0⟩
          · rcases old j z'' k'' lt e1 e2 e3 with g | g
            · exact List.mem_append_left _ g
            · rw [g]; exact List.mem_append_right _ (List.mem_singleton.mpr rfl)
        · have k0 : k = 0 := by simpa using h
          refine ⟨s4, us, ts, et, ht, sb', h1, fun j z'' k'' lt e1 e2 e3 => ?_⟩
          rcases old j z'' k'' lt e1 e2 e3 with g | g
          · exact g
          · cases g; exact absurd k0 e3
      · obtain ⟨s4, us, ts, et, ht, sb, h1, h2⟩ := g
        rw [List.take_of_length_le (by rw [List.length_map]; exact Nat.le_refl _)] at sb
        walk_at "st"
        intro b hb
        walk_at "st"
        intro a ha
        have S5 : Same H4 (upd (upd H4 b (.tup us)) a (.tup [V.int (n % p), V.ref b])) := (Same.upd_new hb).trans (Same.upd_new ha)
        refine q a ts _ ((S0.trans s4).trans S5) ⟨a, b, us, rfl, upd_same, hl_new upd_same ha, ht.to (Tups.same S5)⟩ ⟨ri.sublist sb, fun z k => ⟨fun m => ?_, fun m => ?_⟩⟩
        · have e := h1 _ m
          have e2 := hD z
          rw [e.1] at e2
          exact ⟨e2, e.2⟩
        · obtain ⟨e, ne⟩ := m
          have e2 := hD z
          cases g : getT D z with
          | none => rw [g] at e2; exact absurd (e.trans e2.symm) ne
          | some k' =>
            rw [g] at e2
            obtain rfl : k' = k := e2.trans e.symm
            have mz : z ∈ D.map (·.1) := by
              by_cases c : z ∈ D.map (·.1)
              · exact c
              · rw [getT_out c] at g; cases g
            obtain ⟨j, ej⟩ := List.getElem?_of_mem (pm.mem_iff.mpr mz)
            exact h2 j z k' (by rw [List.length_map]; exact (List.getElem?_eq_some_iff.mp ej).1) ej g ne
end
local macro_rules | `(tactic| walk_at "st1") => `(tactic| first
  | with_reducible refine r_par ?_
  | with_reducible refine r_parx ?_
  | ((with_reducible refine' r_gtup ?e1 ?e2 ?_); (case e1 => walk_at "sq"); (case e2 => rfl))
  | with_reducible refine r_gcons ?_
  | with_reducible refine r_gnil ?_
  | with_reducible refine r_disp ?_
  | with_reducible refine r_tp1 ?_
  | with_reducible refine r_tp0 ?_
  | ((with_reducible refine' r_dp1 ?e1 ?_); (case e1 => walk_at "hl"))
  | with_reducible refine r_dnewK ?_
  | with_reducible refine r_dget2 ?_
  | ((with_reducible refine' r_dg2 ?e1 ?_); (case e1 => walk_at "hl"))
  | ((with_reducible refine' r_dg3 ?e1 ?_); (case e1 => walk_at "hl"))
  | with_reducible refine r_dget ?_
  | ((with_reducible refine' r_dgv ?e1 ?e2 ?_); (case e1 => walk_at "hl"); (case e2 => assumption))
  | ((with_reducible refine' r_setD ?e1 ?e2 ?_); (case e1 => walk_at "hl"); (case e2 => omega)))
theorem list_ext_int {ys : List V} {ms : List Int} (hl : ys.length = ms.length) (h : ∀ (i : Nat) (y : V), ys[i]? = some y → ∃ m, ms[i]? = some m ∧ y = V.int m) : ys = ms.map V.int := by
  apply List.ext_getElem?
  intro i
  cases e : ys[i]? with
  | none =>
    rw [List.getElem?_eq_none_iff] at e
    rw [List.getElem?_eq_none_iff.mpr (by rw [List.length_map]; omega)]
  | some y =>
    obtain ⟨m, h1, rfl⟩ := h i y e
    rw [List.getElem?_map, h1]; rfl
/-- a comprehension's list of pairs -/
theorem trs_of {H : Hp} {ys : List V} {ts : List Tr} (hl : ys.length = ts.length) (h : ∀ (i : Nat) (y : V), ys[i]? = some y → ∃ x, ts[i]? = some x ∧ TrV H y x) : Trs H ys ts := ⟨hl, h⟩
def sp_place_form (_ : PySem.W.Frag) : Sp := fun vs H Q _ => ∃ z : Str, vs = [.str z] ∧ ∀ (a : Addr) (H' : Hp), Same H H' → FrmV H' (.ref a) 0 [(z, 1)] → Q (.ref a) H'
def sp_sum_of (_ : PySem.W.Frag) : Sp := fun vs H Q _ => ∃ (a b : Addr) (n m p : Int) (ts us : List Tr), vs = [.ref a, .ref b, .int p] ∧ FrmV H (.ref a) n ts ∧ FrmV H (.ref b) m us ∧ ts.length + us.length < 64 ∧ (2 ≤ p ∧ p ≤ 997) ∧
  ∀ (c : Addr) (rs : List Tr) (H' : Hp), Same H H' → FrmV H' (.ref c) ((n + m) % p) rs → Canon p (ts ++ us) rs → Q (.ref c) H'
def mulT (k : Int) (ts : List Tr) : List Tr := ts.map fun x => (x.1, x.2 * k)
def sp_times_of (_ : PySem.W.Frag) : Sp := fun vs H Q _ => ∃ (a : Addr) (n k p : Int) (ts : List Tr), vs = [.ref a, .int k, .int p] ∧ FrmV H (.ref a) n ts ∧ ts.length < 64 ∧ (2 ≤ p ∧ p ≤ 997) ∧ (-1000000000000 ≤ k ∧ k ≤ 1000000000000) ∧
  ∀ (c : Addr) (rs : List Tr) (H' : Hp), Same H H' → FrmV H' (.ref c) (n * k % p) rs → Canon p (mulT k ts) rs → Q (.ref c) H'
def sp_worth_of (_ : PySem.W.Frag) : Sp := fun vs H Q _ => ∃ (a d : Addr) (n p : Int) (ts D : List Tr), vs = [.ref a, .ref d, .int p] ∧ FrmV H (.ref a) n ts ∧ H d = some (.dK (encT D)) ∧ ts.length < 64 ∧ (2 ≤ p ∧ p ≤ 997) ∧ (∀ x ∈ ts, 0 ≤ x.2 ∧ x.2 ≤ 1000) ∧
  ∀ H', Same H H' → Q (.int ((n + (ts.map fun x => x.2 * (getT D x.1).getD 0).sum) % p)) H'
section
variable {P : Program} {w : World} {K : PySem.W.Frag} {mg : Str → Option Value} {base : Heap}
theorem ok_place_form (T : Tx K mg)  {f : Addr} {fd : FuncData} (F : Here K mg "place_form" s_place_form ["place"] f fd) : Cal P w K mg base "place_form" 1 ["place"] (sp_place_form K) s_place_form f fd := by
  refine F.cal sc_place_form (fun vs H Q E h => ?_) (fun cdv A outer s H vs Q E hr h => ?_)
  · obtain ⟨z, rfl, _⟩ := h
    rfl
  · obtain ⟨z, rfl, q⟩ := h
    refine ⟨_, (pss_one (ps_ret (pe_tup (pa_cons pe_int (pa_cons (pe_tup (pa_cons (pe_tup (pa_cons (pv 0) (pa_cons pe_int pa_nil))) pa_nil)) pa_nil))))), ?_⟩
    walk_at "st"
    intro p1 h1
    walk_at "st"
    intro p2 h2
    walk_at "st"
    intro p3 h3
    exact q p3 _ (by walk_at "sm") ⟨p3, p2, [.ref p1], rfl, upd_same, hl_new upd_same h3, Trs.one ⟨p1, rfl, hl_new (hl_new upd_same h2) h3⟩⟩
theorem ok_sum_of (T : Tx K mg) {f_new_form : Addr} {fd_new_form : FuncData} (C_new_form : Cal P w K mg base "new_form" 1 ["n", "pairs", "p"] (sp_new_form K) s_new_form f_new_form fd_new_form) {f : Addr} {fd : FuncData} (F : Here K mg "sum_of" s_sum_of ["a", "b", "p"] f fd) : Cal P w K mg base "sum_of" 2 ["a", "b", "p"] (sp_sum_of K) s_sum_of f fd := by
  refine F.cal sc_sum_of (fun vs H Q E h => ?_) (fun cdv A outer s H vs Q E hr h => ?_)
  · obtain ⟨a, b, n, m, p, ts, us, rfl, _⟩ := h
    rfl
  · obtain ⟨a, b, n, m, p, ts, us, rfl, ⟨a, a2, vs1, e1, ha, ha2, hts⟩, ⟨b, b2, vs2, e2, hb, hb2, hus⟩, hl, hp, q⟩ := h
    cases e1; cases e2
    refine ⟨_, (pss_one (ps_ret (pe_call C_new_form.ok (hr.mono (by decide)) (by rfl) C_new_form.at_ C_new_form.kp C_new_form.b .nil pass0 (pa_cons (pe_op op_add (pe_ix (ix_tupK (K := K)) (pv 0) pe_int (fun _ _ => rfl)) (pe_ix (ix_tupK (K := K)) (pv 1) pe_int (fun _ _ => rfl))) (pa_cons (pe_op op_cat (pe_callTy (cr_listOfK (K := K)) (by rfl) T.m_list (by decide +kernel) (pa_cons (pe_ix (ix_tupK (K := K)) (pv 0) pe_int (fun _ _ => rfl)) pa_nil)) (pe_callTy (cr_listOfK (K := K)) (by rfl) T.m_list (by decide +kernel) (pa_cons (pe_ix (ix_tupK (K := K)) (pv 1) pe_int (fun _ _ => rfl)) pa_nil))) (pa_cons (pv 2) pa_nil)))))), ?_⟩
    walk_at "st"
    intro l1 hl1
    walk_at "st"
    intro l2 hl2
    have z1 : vs1.length + vs2.length ≤ sizeLine := by rw [hts.1, hus.1]; exact Nat.le_trans (show _ ≤ 64 by omega) (by decide)
    refine r_cat (hl_new upd_same hl2) upd_same z1 fun l3 hl3 => ?_
    walk_at "st"
    have S3 : Same H (upd (upd (upd H l1 (.lst vs1)) l2 (.lst vs2)) l3 (.lst (vs1 ++ vs2))) := by walk_at "sm"
    refine ⟨l3, _, p, vs1 ++ vs2, ts ++ us, rfl, upd_same, (hts.append hus).to (Tups.same S3), by rw [List.length_append]; exact hl, hp, fun c rs H' sm hf hc => ?_⟩
    exact q c rs H' (S3.trans sm) hf hc
theorem ok_times_of (T : Tx K mg) {f_new_form : Addr} {fd_new_form : FuncData} (C_new_form : Cal P w K mg base "new_form" 1 ["n", "pairs", "p"] (sp_new_form K) s_new_form f_new_form fd_new_form) {f : Addr} {fd : FuncData} (F : Here K mg "times_of" s_times_of ["a", "n", "p"] f fd) : Cal P w K mg base "times_of" 2 ["a", "n", "p"] (sp_times_of K) s_times_of f fd := by
  refine F.cal sc_times_of (fun vs H Q E h => ?_) (fun cdv A outer s H vs Q E hr h => ?_)
  · obtain ⟨a, n, k, p, ts, rfl, _⟩ := h
    rfl
  · obtain ⟨a, n, k, p, ts, rfl, ⟨a, a2, vs1, e1, ha, ha2, hts⟩, hl, hp, hk, q⟩ := h
    cases e1
    have lv : vs1.length < 64 := by rw [hts.1]; exact hl
    refine ⟨_, (pss_one (ps_ret (pe_call C_new_form.ok (hr.mono (by decide)) (by rfl) C_new_form.at_ C_new_form.kp C_new_form.b .nil pass0 (pa_cons (pe_op op_mul (pe_ix (ix_tupK (K := K)) (pv 0) pe_int (fun _ _ => rfl)) (pv 1)) (pa_cons (pe_lc rfl sc_times_of.nd (pi_tupK (K := K) (pe_ix (ix_tupK (K := K)) (pv 0) pe_int (fun _ _ => rfl))) (blkOk_by (own := [("place", 3), ("k", 4)]) (N := ["a", "n", "p", "place", "k"]) (sc := (defScope s_times_of)) (by decide +kernel)) (fun _ _ _ _ _ => (castPG (K := K) (n := 2) (pg_tup rfl (pgs_cons (pg_name (i := 3) sc_times_of.nd rfl (by first | exact .inl rfl | exact .inr rfl)) (pgs_cons (pg_name (i := 4) sc_times_of.nd rfl (by first | exact .inl rfl | exact .inr rfl)) pgs_nil))))) (fun _ _ _ _ _ => pts_nil) (fun _ _ _ _ _ => (pe_tup (pa_cons (pv 3) (pa_cons (pe_op op_mul (pv 4) (pv 1)) pa_nil))))) (pa_cons (pv 2) pa_nil)))))), ?_⟩
    walk_at "st"
    intro D hD
    refine lc_map (walk_tup (xs := vs1)) (by omega) hD (fun i y H' => ∃ x, (mulT k ts)[i]? = some x ∧ TrV H' y x) (fun _ _ _ _ h k => h.imp fun _ z => ⟨z.1, z.2.to (Tups.same k)⟩) (fun i v H' acc acc' h eD => h.imp fun _ z => ⟨z.1, z.2.to (Tups.lst eD)⟩) (fun H' k => SqT.of (k _ _ ha2)) (fun i H1 x H2 y => by rw [y.1]; exact Same.refl _)
      (fun i x H1 H2 Y No hi sm y hY => ?_) (fun ys H' el sm eD hys => ?_)
    · obtain ⟨rfl, ex⟩ := y
      obtain ⟨⟨z, j⟩, ez, t, rfl, ht⟩ := hts.2 i x ex
      have ht2 := sm _ _ ht
      refine ⟨t, _, rfl, SqT.of ht2, rfl, ?_⟩
      walk_at "st"
      refine ⟨rfl, ?_⟩
      walk_at "st"
      intro t2 ht3
      exact hY _ _ (Same.upd_new ht3) ⟨(z, j * k), by unfold mulT; rw [List.getElem?_map, ez]; rfl, t2, rfl, upd_same⟩
    · walk_at "st"
      refine ⟨D, _, p, ys, mulT k ts, rfl, eD, ⟨by rw [el, hts.1]; unfold mulT; rw [List.length_map], hys⟩, by unfold mulT; rw [List.length_map]; exact hl, hp, fun c rs H2 sm2 hf hc => ?_⟩
      exact q c rs H2 (sm.trans sm2) hf hc
theorem ok_worth_of (T : Tx K mg)  {f : Addr} {fd : FuncData} (F : Here K mg "worth_of" s_worth_of ["form", "worths", "p"] f fd) : Cal P w K mg base "worth_of" 1 ["form", "worths", "p"] (sp_worth_of K) s_worth_of f fd := by
  refine F.cal sc_worth_of (fun vs H Q E h => ?_) (fun cdv A outer s H vs Q E hr h => ?_)
  · obtain ⟨a, d, n, p, ts, D, rfl, _⟩ := h
    rfl
  · obtain ⟨a, d, n, p, ts, D, rfl, ⟨a, a2, vs1, e1, ha, ha2, hts⟩, hd, hl, hp, hb, q⟩ := h
    cases e1
    have lv : vs1.length < 64 := by rw [hts.1]; exact hl
    refine ⟨_, (pss_cons (ps_asg (pv 0) (castPG (K := K) (n := 2) (pg_tup rfl (pgs_cons (pg_name (i := 3) sc_worth_of.nd rfl (by first | exact .inl rfl | exact .inr rfl)) (pgs_cons (pg_name (i := 4) sc_worth_of.nd rfl (by first | exact .inl rfl | exact .inr rfl)) pgs_nil)))))
      (pss_one (ps_ret (pe_op op_mod (pe_op op_add (pv 3) (pe_callB (cr_sumK (K := K) rfl) (by rfl) T.m_sum (by decide +kernel) (pa_cons (pe_lc rfl sc_worth_of.nd (pi_tupK (K := K) (pv 4)) (blkOk_by (own := [("place", 5), ("k", 6)]) (N := ["form", "worths", "p", "n", "terms", "place", "k"]) (sc := (defScope s_worth_of)) (by decide +kernel)) (fun _ _ _ _ _ => (castPG (K := K) (n := 2) (pg_tup rfl (pgs_cons (pg_name (i := 5) sc_worth_of.nd rfl (by first | exact .inl rfl | exact .inr rfl)) (pgs_cons (pg_name (i := 6) sc_worth_of.nd rfl (by first | exact .inl rfl | exact .inr rfl)) pgs_nil))))) (fun _ _ _ _ _ => pts_nil) (fun _ _ _ _ _ => (pe_op op_mul (pv 6) (pe_dget2 (hu_of hr) (pv 1) (pv 5) pe_int ⟨by rfl, by rfl, by rfl, by rfl⟩)))) pa_nil))) (pv 2))))), ?_⟩
    walk_at "st"
    intro Dl hD
    refine lc_map (walk_tup (xs := vs1)) (by omega) hD (fun i y _ => ∃ m, (ts.map fun x => x.2 * (getT D x.1).getD 0)[i]? = some m ∧ y = .int m) (fun _ _ _ _ h _ => h) (fun _ _ _ _ _ h _ => h) (fun H' k => SqT.of (k _ _ ha2)) (fun i H1 x H2 y => by rw [y.1]; exact Same.refl _)
      (fun i x H1 H2 Y No hi sm y hY => ?_) (fun ys H' el sm eD hys => ?_)
    · obtain ⟨rfl, ex⟩ := y
      obtain ⟨⟨z, j⟩, ez, t, rfl, ht⟩ := hts.2 i x ex
      have ht2 := sm _ _ ht
      have hd2 := sm _ _ hd
      have hj : 0 ≤ j ∧ j ≤ 1000 := hb _ (List.mem_of_getElem? ez)
      refine ⟨t, _, rfl, SqT.of ht2, rfl, ?_⟩
      walk_at "st"
      refine ⟨rfl, ?_⟩
      walk_at "st"
      exact hY _ _ (Same.refl _) ⟨_, by rw [List.getElem?_map, ez]; rfl, rfl⟩
    · obtain rfl := list_ext_int (by rw [el, List.length_map, hts.1]) hys
      walk_at "st"
      exact q _ sm
end
local macro_rules | `(tactic| walk_at "st1") => `(tactic| first
  | with_reducible refine r_par ?_
  | with_reducible refine r_parx ?_
  | ((with_reducible refine' r_gtup ?e1 ?e2 ?_); (case e1 => walk_at "sq"); (case e2 => rfl))
  | with_reducible refine r_gcons ?_
  | with_reducible refine r_gnil ?_
  | with_reducible refine r_disp ?_
  | with_reducible refine r_tp1 ?_
  | with_reducible refine r_tp0 ?_
  | ((with_reducible refine' r_dp1 ?e1 ?_); (case e1 => walk_at "hl"))
  | with_reducible refine r_dnewK ?_
  | with_reducible refine r_dget2 ?_
  | ((with_reducible refine' r_dg2 ?e1 ?_); (case e1 => walk_at "hl"))
  | ((with_reducible refine' r_dg3 ?e1 ?_); (case e1 => walk_at "hl"))
  | with_reducible refine r_dget ?_
  | ((with_reducible refine' r_dgv ?e1 ?e2 ?_); (case e1 => walk_at "hl"); (case e2 => assumption))
  | ((with_reducible refine' r_setD ?e1 ?e2 ?_); (case e1 => walk_at "hl"); (case e2 => omega)))
abbrev Fm := Str × Int × List Tr
def look (F : List Fm) (z : Str) : Int × List Tr := ((F.find? fun x => decide (x.1 = z)).map (·.2)).getD (0, [(z, 1)])
def putN (F : List Fm) (ts : List Tr) : Int := (ts.map fun x => (look F x.1).1 * x.2).sum
def putP (F : List Fm) (ts : List Tr) : List Tr := ts.flatMap fun x => mulT x.2 (look F x.1).2
def DF (H : Hp) (d : Addr) (F : List Fm) : Prop := ∃ kvs, H d = some (.dK kvs) ∧ kvs.length = F.length ∧ ∀ (i : Nat) (e : Key × V), kvs[i]? = some e → ∃ x, F[i]? = some x ∧ e.1 = Sum.inr x.1 ∧ FrmV H e.2 x.2.1 x.2.2
theorem df_get {H : Hp} {z : Str} {a : Addr} : ∀ {kvs : List (Key × V)} {F : List Fm}, kvs.length = F.length → (∀ (i : Nat) (e : Key × V), kvs[i]? = some e → ∃ x, F[i]? = some x ∧ e.1 = Sum.inr x.1 ∧ FrmV H e.2 x.2.1 x.2.2) → FrmV H (.ref a) 0 [(z, 1)] →
    FrmV H ((valV kvs (Sum.inr z)).getD (.ref a)) (look F z).1 (look F z).2
  | [], [], _, _, h => h
  | [], _ :: _, e, _, _ => by simp at e
  | _ :: _, [], e, _, _ => by simp at e
  | e :: kvs, x :: F, l, k, h => by
    obtain ⟨y, ey, e1, e2⟩ := k 0 e rfl
    obtain rfl : x = y := Option.some.inj ey
    have ih := df_get (H := H) (z := z) (a := a) (kvs := kvs) (F := F) (by simpa using l) (fun i e he => k (i + 1) e (by simpa using he)) h
    by_cases c : x.1 = z
    · have h1 : valV (e :: kvs) (Sum.inr z) = some e.2 := valV_pos (by rw [e1, c])
      have h2 : look (x :: F) z = x.2 := by
        unfold look
        rw [List.find?_cons_of_pos (by simpa using c)]; rfl
      rw [h1, h2]
      exact e2
    · have h1 : valV (e :: kvs) (Sum.inr z) = valV kvs (Sum.inr z) := valV_neg (by rw [e1]; exact fun g => c (Sum.inr.inj g))
      have h2 : look (x :: F) z = look F z := by
        unfold look
        rw [List.find?_cons_of_neg (by simpa using c)]
      rw [h1, h2]
      exact ih
theorem DF.to {H H' : Hp} {d : Addr} {F : List Fm} (h : DF H d F) (k : Tups H H') (e : ∀ kvs, H d = some (.dK kvs) → H' d = some (.dK kvs)) : DF H' d F := by
  obtain ⟨kvs, h1, h2, h3⟩ := h
  exact ⟨kvs, e _ h1, h2, fun i x ex => (h3 i x ex).imp fun _ z => ⟨z.1, z.2.1, z.2.2.to k⟩⟩
theorem r_dg2K {ty tx : TE} {σ : L2.St} {Q : VK} {H : Hp} {d : Addr} {kvs : List (Key × V)} (e : H d = some (.dK kvs)) (h : ty σ H fun y H2 => tx σ H2 fun z H3 => DG3 d Q y z H3) : DG2 ty tx σ Q (.ref d) H := ⟨d, rfl, .inl ⟨_, .inl e⟩, h⟩
theorem mulT_len (k : Int) (ts : List Tr) : (mulT k ts).length = ts.length := by unfold mulT; rw [List.length_map]
theorem putP_take (F : List Fm) (ts : List Tr) (i : Nat) : (putP F (ts.take i)).length ≤ (putP F ts).length := by
  have : putP F ts = putP F (ts.take i) ++ putP F (ts.drop i) := by
    unfold putP
    rw [← List.flatMap_append, List.take_append_drop]
  rw [this, List.length_append]; omega
def sp_put_in (_ : PySem.W.Frag) : Sp := fun vs H Q _ => ∃ (a d : Addr) (n p : Int) (ts : List Tr) (F : List Fm), vs = [.ref a, .ref d, .int p] ∧ FrmV H (.ref a) n ts ∧ DF H d F ∧ ts.length < 64 ∧ (putP F ts).length < 64 ∧ (2 ≤ p ∧ p ≤ 997) ∧ (∀ x ∈ ts, 0 ≤ x.2 ∧ x.2 ≤ 1000) ∧
  ∀ (c : Addr) (rs : List Tr) (H' : Hp), Same H H' → FrmV H' (.ref c) ((n + putN F ts) % p) rs → Canon p (putP F ts) rs → Q (.ref c) H'
section
variable {P : Program} {w : World} {K : PySem.W.Frag} {mg : Str → Option Value} {base : Heap}
theorem ok_put_in (T : Tx K mg) {f_new_form : Addr} {fd_new_form : FuncData} (C_new_form : Cal P w K mg base "new_form" 1 ["n", "pairs", "p"] (sp_new_form K) s_new_form f_new_form fd_new_form) {f_place_form : Addr} {fd_place_form : FuncData} (C_place_form : Cal P w K mg base "place_form" 1 ["place"] (sp_place_form K) s_place_form f_place_form fd_place_form) {f : Addr} {fd : FuncData} (F : Here K mg "put_in" s_put_in ["form", "forms", "p"] f fd) : Cal P w K mg base "put_in" 2 ["form", "forms", "p"] (sp_put_in K) s_put_in f fd := by
  refine F.cal sc_put_in (fun vs H Q E h => ?_) (fun cdv A outer s H vs Q E hr h => ?_)
  · obtain ⟨a, d, n, p, ts, F, rfl, _⟩ := h
    rfl
  · obtain ⟨a, d, n, p, ts, F, rfl, ⟨a, a2, vs1, e1, ha, ha2, hts⟩, ⟨kvs, hd, lF, hF⟩, hl, hl2, hp, hb, q⟩ := h
    cases e1
    have lv : vs1.length < 64 := by rw [hts.1]; exact hl
    refine ⟨_, (pss_cons (ps_asg (pv 0) (castPG (K := K) (n := 2) (pg_tup rfl (pgs_cons (pg_name (i := 3) sc_put_in.nd rfl (by first | exact .inl rfl | exact .inr rfl)) (pgs_cons (pg_name (i := 4) sc_put_in.nd rfl (by first | exact .inl rfl | exact .inr rfl)) pgs_nil)))))
      (pss_cons (ps_set (i := 5) sc_put_in.nd rfl (by first | exact .inl rfl | exact .inr rfl) (pe_lst pa_nil))
      (pss_cons (ps_for PassesOwn.never rfl (pi_tupK (K := K) (pv 4)) (castPG (K := K) (n := 2) (pg_tup rfl (pgs_cons (pg_name (i := 6) sc_put_in.nd rfl (by first | exact .inl rfl | exact .inr rfl)) (pgs_cons (pg_name (i := 7) sc_put_in.nd rfl (by first | exact .inl rfl | exact .inr rfl)) pgs_nil)))) (pss_cons (ps_asg (pe_dget2 (hu_of hr) (pv 1) (pv 6) (pe_call C_place_form.ok (hr.mono (by decide)) (by rfl) C_place_form.at_ C_place_form.kp C_place_form.b .nil pass0 (pa_cons (pv 6) pa_nil)) ⟨by rfl, by rfl, by rfl, by rfl⟩) (castPG (K := K) (n := 2) (pg_tup rfl (pgs_cons (pg_name (i := 8) sc_put_in.nd rfl (by first | exact .inl rfl | exact .inr rfl)) (pgs_cons (pg_name (i := 9) sc_put_in.nd rfl (by first | exact .inl rfl | exact .inr rfl)) pgs_nil)))))
      (pss_cons (ps_set (i := 3) sc_put_in.nd rfl (by first | exact .inl rfl | exact .inr rfl) (pe_op op_add (pv 3) (pe_op op_mul (pv 8) (pv 7))))
      (pss_one (ps_expr (castBM (K := K) (pe_bm PySem.F.plainAttrs_list PySem.F.slot_list_extend PySem.F.type_list_extend mt_extend (pv 5) (pa_cons (pe_lc rfl sc_put_in.nd (pi_tupK (K := K) (pv 9)) (blkOk_by (own := [("other", 10), ("many", 11)]) (N := ["form", "forms", "p", "n", "terms", "pairs", "place", "k", "more", "inner", "other", "many"]) (sc := (defScope s_put_in)) (by decide +kernel)) (fun _ _ _ _ _ => (castPG (K := K) (n := 2) (pg_tup rfl (pgs_cons (pg_name (i := 10) sc_put_in.nd rfl (by first | exact .inl rfl | exact .inr rfl)) (pgs_cons (pg_name (i := 11) sc_put_in.nd rfl (by first | exact .inl rfl | exact .inr rfl)) pgs_nil))))) (fun _ _ _ _ _ => pts_nil) (fun _ _ _ _ _ => (pe_tup (pa_cons (pv 10) (pa_cons (pe_op op_mul (pv 11) (pv 7)) pa_nil))))) pa_nil))))))))
      (pss_one (ps_ret (pe_call C_new_form.ok (hr.mono (by decide)) (by rfl) C_new_form.at_ C_new_form.kp C_new_form.b .nil pass0 (pa_cons (pv 3) (pa_cons (pv 5) (pa_cons (pv 2) pa_nil))))))))), ?_⟩
    walk_at "st"
    intro lp hlp
    walk_at "st"
    refine lp_by (walk_tup (xs := vs1)) (fun i σ' H' => ∃ x6 x7 x8 x9, σ' = [some (.ref a), some (.ref d), some (.int p), some (.int (n + putN F (ts.take i))), some (.ref a2), some (.ref lp), x6, x7, x8, x9, none, none] ∧ Same H H' ∧ ∃ us, H' lp = some (.lst us) ∧ Trs H' us (putP F (ts.take i)))
      ⟨none, none, none, none, by simp [putN]; rfl, Same.upd_new hlp, [], upd_same, Trs.nil⟩ (fun i σ' H' _ g => ?_) (fun i x σ' H2 H3 hi g y => ?_) (fun σ' H2 g => ?_)
    · obtain ⟨_, _, _, _, _, sm, _⟩ := g
      exact SqT.of (sm _ _ ha2)
    · obtain ⟨x6, x7, x8, x9, rfl, sm, us, eu, hu⟩ := g
      obtain ⟨rfl, ex⟩ := y
      obtain ⟨⟨z, j⟩, ez, t, rfl, ht⟩ := hts.2 i x ex
      have ht2 := sm _ _ ht
      have hd2 := sm _ _ hd
      have hj : 0 ≤ j ∧ j ≤ 1000 := hb _ (List.mem_of_getElem? ez)
      have hF2 := fun i e he => (hF i e he).imp fun _ z => And.intro z.1 (And.intro z.2.1 (z.2.2.to (Tups.same sm)))
      walk_at "st"
      refine r_dg2K hd2 ?_
      walk_at "st"
      refine ⟨z, rfl, fun ap H4 sm4 hf4 => ?_⟩
      walk_at "st"
      refine ⟨_, DGet.k (k := Sum.inr z) (sm4 _ _ hd2), ?_⟩
      have hv := df_get lF (fun i e he => (hF2 i e he).imp fun _ z => And.intro z.1 (And.intro z.2.1 (z.2.2.to (Tups.same sm4)))) hf4
      obtain ⟨v8, b8, us8, ev, h8, h8b, h8t⟩ := hv
      rw [ev]
      have eu4 := sm4 _ _ eu
      have hu4 := hu.to (Tups.same sm4)
      have S4 := sm.trans sm4
      have step1 : putN F (ts.take (i + 1)) = putN F (ts.take i) + (look F z).1 * j := by
        unfold putN
        rw [List.take_succ, ez]; simp
      have step2 : putP F (ts.take (i + 1)) = putP F (ts.take i) ++ mulT j (look F z).2 := by
        unfold putP
        rw [List.take_succ, ez]; simp
      have l9 := putP_take F ts (i + 1)
      rw [step2, List.length_append, mulT_len] at l9
      have lu8 : us8.length < 64 := by rw [h8t.1]; omega
      generalize look F z = lk at *
      walk_at "st"
      intro D hD
      refine lc_map (walk_tup (xs := us8)) (by omega) hD (fun i y H' => ∃ x, (mulT j lk.2)[i]? = some x ∧ TrV H' y x) (fun _ _ _ _ h k => h.imp fun _ z => ⟨z.1, z.2.to (Tups.same k)⟩) (fun i v H' acc acc' h eD => h.imp fun _ z => ⟨z.1, z.2.to (Tups.lst eD)⟩) (fun H' k => SqT.of (k _ _ h8b)) (fun i H1 x H2 y => by rw [y.1]; exact Same.refl _)
        (fun i x H1 H2 Y No hi sm y hY => ?_) (fun ys H' el sm eD hys => ?_)
      · obtain ⟨rfl, ex⟩ := y
        obtain ⟨⟨z2, j2⟩, ez2, t2, rfl, ht2⟩ := h8t.2 i x ex
        have ht3 := sm _ _ ht2
        refine ⟨t2, _, rfl, SqT.of ht3, rfl, ?_⟩
        walk_at "st"
        refine ⟨rfl, ?_⟩
        walk_at "st"
        intro t4 ht4
        exact hY _ _ (Same.upd_new ht4) ⟨(z2, j2 * j), by unfold mulT; rw [List.getElem?_map, ez2]; rfl, t4, rfl, upd_same⟩
      · have eu9 := sm _ _ eu4
        have hy : Trs H' ys (mulT j lk.2) := ⟨by rw [el, h8t.1, mulT_len], hys⟩
        have zl : us.length + ys.length ≤ sizeLine := by rw [hu.1, hy.1, mulT_len]; exact Nat.le_trans (show _ ≤ 64 by omega) (by decide)
        walk_at "st"
        refine ⟨lp, D, us, ys, rfl, rfl, eu9, eD, zl, ?_⟩
        walk_at "st"
        rw [step1, ← Int.add_assoc]
        refine ⟨_, _, _, _, rfl, fun b o e => hl_set (ne_of_none e hlp) (sm _ _ (S4 _ _ e)), us ++ ys, upd_same, ?_⟩
        · rw [step2]
          exact ((hu4.to (Tups.same sm)).append hy).to (Tups.lst eu9)
    · obtain ⟨x6, x7, x8, x9, rfl, sm, us, eu, hu⟩ := g
      rw [List.take_of_length_le (by rw [hts.1]; exact Nat.le_refl _)] at hu
      walk_at "st"
      refine ⟨lp, _, p, us, putP F ts, rfl, eu, hu, hl2, hp, fun c rs H' sm2 hf hc => ?_⟩
      rw [List.take_of_length_le (by rw [hts.1]; exact Nat.le_refl _)] at hf
      exact q c rs H' (sm.trans sm2) hf hc
end
local macro_rules | `(tactic| walk_at "ssz") => `(tactic| first | decide | exact str_small (by assumption) | (have : (1000000 : Nat) ≤ sizeLine := (by decide); omega))
local macro_rules | `(tactic| walk_at "st1") => `(tactic| first
  | with_reducible refine' r_nt ?_ | with_reducible refine' r_nf ?_
  | ((with_reducible refine r_lenS ?e1 ?_); (case e1 => walk_at "ssz"))
  | with_reducible refine r_inS ?_
  | with_reducible refine r_ninS ?_
  | ((with_reducible refine r_addS ?e1 ?_); (case e1 => walk_at "ssz"))
  | ((with_reducible refine' r_ixS ?e1 ?e2 ?_); (case e1 => walk_at "ssz"); (case e2 => first | assumption | rfl))
  | with_reducible refine r_istr ?_
  | with_reducible refine r_is ?_
  | with_reducible refine r_un ?_
  | with_reducible refine r_u ?_)
local macro_rules | `(tactic| walk_at "st1") => `(tactic| first
  | with_reducible refine r_par ?_
  | with_reducible refine r_parx ?_
  | ((with_reducible refine' r_gtup ?e1 ?e2 ?_); (case e1 => walk_at "sq"); (case e2 => rfl))
  | with_reducible refine r_gcons ?_
  | with_reducible refine r_gnil ?_
  | with_reducible refine r_disp ?_
  | with_reducible refine r_tp1 ?_
  | with_reducible refine r_tp0 ?_
  | ((with_reducible refine' r_dp1 ?e1 ?_); (case e1 => walk_at "hl"))
  | with_reducible refine r_dnewK ?_
  | with_reducible refine r_dget2 ?_
  | ((with_reducible refine' r_dg2 ?e1 ?_); (case e1 => walk_at "hl"))
  | ((with_reducible refine' r_dg3 ?e1 ?_); (case e1 => walk_at "hl"))
  | with_reducible refine r_dget ?_
  | ((with_reducible refine' r_dgv ?e1 ?e2 ?_); (case e1 => walk_at "hl"); (case e2 => assumption))
  | ((with_reducible refine' r_setD ?e1 ?e2 ?_); (case e1 => walk_at "hl"); (case e2 => omega)))
def rLtS : R2 := fun x y H Q => ∃ i j, x = .str i ∧ y = .str j ∧ Q (.bl (decide (i.cps.toList < j.cps.toList))) H
theorem op_ltS {X : Cx} : OpR X (compareOp .Lt) rLtS := op_lt_str
section
variable {K : PySem.W.Frag} {σ : L2.St} {H : Hp} {Q : VK}
theorem walk_zipL {a b : Addr} {xs ys : List V} {n : Nat} (hn : n = min xs.length ys.length) : Walk (Itz K a b) n (fun H => SqL K H a xs ∧ SqL K H b ys) (YPair (fun i => xs[i]?) (fun i => ys[i]?)) where
  goes := fun i H hi h => ⟨xs, ys, xs[i]'(by omega), ys[i]'(by omega), h.1, h.2, List.getElem?_eq_getElem (by omega), List.getElem?_eq_getElem (by omega)⟩
  stops := fun H h => ⟨xs, ys, h.1, h.2, by omega⟩
  yields := fun i H x H' _ h y => by
    obtain ⟨T, x1, y1, e1, e2, e3, e4, e5⟩ := y
    exact ⟨T, x1, y1, e1, e2, e3, e4 xs h.1, e5 ys h.2⟩
theorem r_izl {R : It → Hp → Prop} {a b : Addr} {xs ys : List V} (e1 : SqL K H a xs) (e2 : SqL K H b ys) (h : R (Itz K a b) H) : IzR K R [.ref a, .ref b] H := ⟨a, b, xs, ys, rfl, .inl ⟨e1, e2, h⟩⟩
theorem r_ltS {i j : Str} (q : Q (.bl (decide (i.cps.toList < j.cps.toList))) H) : rLtS (.str i) (.str j) H Q := ⟨i, j, rfl, rfl, q⟩
end
local macro_rules | `(tactic| walk_at "st1") => `(tactic| first
  | ((with_reducible refine' r_izl ?e1 ?e2 ?_); (case e1 => walk_at "sq"); (case e2 => walk_at "sq"))
  | with_reducible refine r_ltS ?_)
theorem goodW.place {z : Str} (h : goodW (cs z)) : placeO (.str z) = true := by
  obtain ⟨h1, h2, ⟨c, r, e, hc⟩, h4⟩ := h
  rw [cs_len] at h1 h2
  have e1 : firstIn z "abcdefghijklmnopqrstuvwxyz" = true := by
    unfold firstIn; rw [e]; exact decide_eq_true hc
  have e2 : onlyIn z "abcdefghijklmnopqrstuvwxyz0123456789." = true := List.all_eq_true.mpr fun x m => decide_eq_true (h4 x m)
  show (decide (1 ≤ z.length) && (decide (z.length ≤ 40) && (firstIn z "abcdefghijklmnopqrstuvwxyz" && onlyIn z "abcdefghijklmnopqrstuvwxyz0123456789."))) = true
  rw [e1, e2, decide_eq_true h1, decide_eq_true h2]; rfl
def sp_is_tuple (_ : PySem.W.Frag) : Sp := fun vs H Q _ => ∃ (a : Addr) (xs : List V) (lo hi : Int), vs = [.ref a, .int lo, .int hi] ∧ H a = some (.tup xs) ∧ lo ≤ xs.length ∧ xs.length ≤ hi ∧ Q (.bl true) H
def sp_is_term (_ : PySem.W.Frag) : Sp := fun vs H Q _ => ∃ (t : Addr) (z : Str) (k p : Int), vs = [.ref t, .int p] ∧ H t = some (.tup [.str z, .int k]) ∧ goodW (cs z) ∧ (1 ≤ k ∧ k < p) ∧ ∀ H', Same H H' → Q (.bl true) H'
def sp_do_rise (_ : PySem.W.Frag) : Sp := fun vs H Q _ => ∃ (l : Addr) (zs : List Str), vs = [.ref l] ∧ H l = some (.lst (zs.map V.str)) ∧ zs.length ≤ 1000 ∧ zs.Pairwise ltS ∧ ∀ H', Same H H' → Q (.bl true) H'
def sp_is_form (_ : PySem.W.Frag) : Sp := fun vs H Q _ => ∃ (a : Addr) (n p : Int) (ts : List Tr), vs = [.ref a, .int p] ∧ FrmV H (.ref a) n ts ∧ FormOk p n ts ∧ ts.length < 64 ∧ ∀ H', Same H H' → Q (.bl true) H'
section
variable {P : Program} {w : World} {K : PySem.W.Frag} {mg : Str → Option Value} {base : Heap}
theorem ok_is_tuple (T : Tx K mg)  {f : Addr} {fd : FuncData} (F : Here K mg "is_tuple" s_is_tuple ["thing", "least", "most"] f fd) : Cal P w K mg base "is_tuple" 1 ["thing", "least", "most"] (sp_is_tuple K) s_is_tuple f fd := by
  refine F.cal sc_is_tuple (fun vs H Q E h => ?_) (fun cdv A outer s H vs Q E hr h => ?_)
  · obtain ⟨a, xs, lo, hi, rfl, _⟩ := h
    rfl
  · obtain ⟨a, xs, lo, hi, rfl, ha, h1, h2, q⟩ := h
    refine ⟨_, (pss_one (ps_ret (pe_and (pe_callB (cr_isiK (K := K)) (by rfl) T.m_isinstance (by decide +kernel) (pa_cons (pv 0) (pa_cons (pe_bltn (v := .ty "tuple") (by rfl) T.m_tuple (by decide +kernel) rfl) pa_nil))) (pe_one (pe_chain op_le op_le (pv 1) (pe_callB (cr_lenK (K := K)) (by rfl) T.m_len (by decide +kernel) (pa_cons (pv 0) pa_nil)) (pv 2)))))), ?_⟩
    walk_at "st"
    refine r_ite (fun _ => ?_) (fun h => absurd h1 h)
    walk_at "st"
    rw [decide_eq_true h2]
    exact q
theorem ok_is_term (T : Tx K mg) {f_is_tuple : Addr} {fd_is_tuple : FuncData} (C_is_tuple : Cal P w K mg base "is_tuple" 1 ["thing", "least", "most"] (sp_is_tuple K) s_is_tuple f_is_tuple fd_is_tuple) {f_is_place : Addr} {fd_is_place : FuncData} (C_is_place : Cal P w K mg base "is_place" 2 ["thing"] (sp_is_place K) s_is_place f_is_place fd_is_place) {f_is_number : Addr} {fd_is_number : FuncData} (C_is_number : Cal P w K mg base "is_number" 2 ["thing", "p"] (sp_is_number K) s_is_number f_is_number fd_is_number) {f : Addr} {fd : FuncData} (F : Here K mg "is_term" s_is_term ["thing", "p"] f fd) : Cal P w K mg base "is_term" 3 ["thing", "p"] (sp_is_term K) s_is_term f fd := by
  refine F.cal sc_is_term (fun vs H Q E h => ?_) (fun cdv A outer s H vs Q E hr h => ?_)
  · obtain ⟨t, z, k, p, rfl, _⟩ := h
    rfl
  · obtain ⟨t, z, k, p, rfl, ht, gz, hk, q⟩ := h
    have pz := gz.place
    have gl : z.length ≤ 1000 := by rw [← cs_len]; exact Nat.le_trans gz.2.1 (by decide)
    refine ⟨_, (pss_one (ps_ret (pe_and (pe_call C_is_tuple.ok (hr.mono (by decide)) (by rfl) C_is_tuple.at_ C_is_tuple.kp C_is_tuple.b .nil pass0 (pa_cons (pv 0) (pa_cons pe_int (pa_cons pe_int pa_nil)))) (pe_and (pe_call C_is_place.ok (hr.mono (by decide)) (by rfl) C_is_place.at_ C_is_place.kp C_is_place.b .nil pass0 (pa_cons (pe_ix (ix_tupK (K := K)) (pv 0) pe_int (fun _ _ => rfl)) pa_nil)) (pe_and (pe_call C_is_number.ok (hr.mono (by decide)) (by rfl) C_is_number.at_ C_is_number.kp C_is_number.b .nil pass0 (pa_cons (pe_ix (ix_tupK (K := K)) (pv 0) pe_int (fun _ _ => rfl)) (pa_cons (pv 1) pa_nil))) (pe_one (pe_cmpR op_ne (pe_ix (ix_tupK (K := K)) (pv 0) pe_int (fun _ _ => rfl)) pe_int (nomark _)))))))), ?_⟩
    walk_at "st"
    refine ⟨t, _, 2, 2, rfl, ht, by simp, by simp, ?_⟩
    walk_at "st"
    refine ⟨[], _, _, rfl, .str z, gl, fun H1 sm1 => ?_⟩
    rw [pz]
    have ht1 := sm1 _ _ ht
    walk_at "st"
    refine ⟨[], _, _, p, rfl, .int k, ?_⟩
    have e : numO p (.int k) = true := by simp [numO]; omega
    rw [e]
    walk_at "st"
    have e2 : (!decide (V.int k = V.int 0)) = true := by simp; omega
    rw [e2]
    exact q _ sm1
theorem cut_from1 (xs : List V) : cutV xs (some 1) none = xs.drop 1 := by
  cases xs with
  | nil => rfl
  | cons x xs =>
    unfold cutV
    simp [HT.sIx]
theorem all_trues : ∀ {ys : List V}, (∀ (i : Nat) (y : V), ys[i]? = some y → y = .bl true) → ys = (List.replicate ys.length true).map V.bl
  | [], _ => rfl
  | y :: ys, h => by
    rw [List.length_cons, List.replicate_succ, List.map_cons, ← all_trues fun i z e => h (i + 1) z (by simpa using e), h 0 y rfl]
theorem all_rep (n : Nat) : (List.replicate n true).all id = true := List.all_eq_true.mpr fun x m => (List.mem_replicate.mp m).2
theorem ok_do_rise (T : Tx K mg)  {f : Addr} {fd : FuncData} (F : Here K mg "do_rise" s_do_rise ["things"] f fd) : Cal P w K mg base "do_rise" 1 ["things"] (sp_do_rise K) s_do_rise f fd := by
  refine F.cal sc_do_rise (fun vs H Q E h => ?_) (fun cdv A outer s H vs Q E hr h => ?_)
  · obtain ⟨l, zs, rfl, _⟩ := h
    rfl
  · obtain ⟨l, zs, rfl, hl, lz, ri, q⟩ := h
    refine ⟨_, (pss_one (ps_ret (pe_callB (cr_allK (K := K) rfl) (by rfl) T.m_all (by decide +kernel) (pa_cons (pe_lc rfl sc_do_rise.nd (castPI (K := K) (wi := fun K => iZipA K _) (pi_zipA (by rfl) T.m_zip (pa_cons (pv 0) (pa_cons (pe_slice (sl_listK (K := K)) (pv 0) (po_some pe_int) po_none) pa_nil)))) (blkOk_by (own := [("one", 1), ("other", 2)]) (N := ["things", "one", "other"]) (sc := (defScope s_do_rise)) (by decide +kernel)) (fun _ _ _ _ _ => (castPG (K := K) (n := 2) (pg_tup rfl (pgs_cons (pg_name (i := 1) sc_do_rise.nd rfl (by first | exact .inl rfl | exact .inr rfl)) (pgs_cons (pg_name (i := 2) sc_do_rise.nd rfl (by first | exact .inl rfl | exact .inr rfl)) pgs_nil))))) (fun _ _ _ _ _ => pts_nil) (fun _ _ _ _ _ => (pe_cmpR op_ltS (pv 1) (pv 2) (nomark _)))) pa_nil)))), ?_⟩
    walk_at "st"
    intro p hp
    rw [cut_from1, ← List.map_drop]
    have hl2 := hl_new hl hp (u := .lst ((zs.drop 1).map V.str))
    have hp2 : upd H p (.lst ((zs.drop 1).map V.str)) p = some (.lst ((zs.drop 1).map V.str)) := upd_same
    have S1 : Same H (upd H p (.lst ((zs.drop 1).map V.str))) := Same.upd_new hp
    generalize upd H p (.lst ((zs.drop 1).map V.str)) = H1 at *
    walk_at "st"
    intro D hD
    refine lc_map (walk_zipL (xs := zs.map V.str) (ys := (zs.drop 1).map V.str) rfl) (by rw [List.length_map]; omega) hD (fun i y _ => y = .bl true) (fun _ _ _ _ h _ => h) (fun _ _ _ _ _ h _ => h) (fun H' k => ⟨SqL.of (k _ _ hl2), SqL.of (k _ _ hp2)⟩) (fun i H1 x H2 y => ?_)
      (fun i x H1 H2 Y No hi sm y hY => ?_) (fun ys H' el sm eD hys => ?_)
    · obtain ⟨t, x1, y1, rfl, nt, rfl, _⟩ := y
      exact Same.upd_new nt
    · obtain ⟨t, x1, y1, rfl, nt, rfl, e1, e2⟩ := y
      obtain ⟨z1, ez1, rfl⟩ := getElem?_map_str e1
      obtain ⟨z2, ez2, rfl⟩ := getElem?_map_str e2
      rw [List.getElem?_drop, Nat.add_comm] at ez2
      obtain ⟨g1, rfl⟩ := List.getElem?_eq_some_iff.mp ez1
      obtain ⟨g2, rfl⟩ := List.getElem?_eq_some_iff.mp ez2
      have lt := List.pairwise_iff_getElem.mp ri i (i + 1) g1 g2 (Nat.lt_succ_self i)
      refine ⟨t, _, rfl, .inl (.inl upd_same), rfl, _, _, rfl, _, _, rfl, rfl, rfl, ?_⟩
      walk_at "st"
      have e : decide (zs[i].cps.toList < zs[i + 1].cps.toList) = true := decide_eq_true lt
      rw [e]
      exact hY _ _ (Same.refl _) rfl
    · have e := all_trues hys
      rw [e] at eD
      walk_at "st"
      rw [all_rep]
      exact q _ (S1.trans sm)
theorem ok_is_form (T : Tx K mg) {f_is_tuple : Addr} {fd_is_tuple : FuncData} (C_is_tuple : Cal P w K mg base "is_tuple" 1 ["thing", "least", "most"] (sp_is_tuple K) s_is_tuple f_is_tuple fd_is_tuple) {f_do_rise : Addr} {fd_do_rise : FuncData} (C_do_rise : Cal P w K mg base "do_rise" 1 ["things"] (sp_do_rise K) s_do_rise f_do_rise fd_do_rise) {f_is_number : Addr} {fd_is_number : FuncData} (C_is_number : Cal P w K mg base "is_number" 2 ["thing", "p"] (sp_is_number K) s_is_number f_is_number fd_is_number) {f_is_term : Addr} {fd_is_term : FuncData} (C_is_term : Cal P w K mg base "is_term" 3 ["thing", "p"] (sp_is_term K) s_is_term f_is_term fd_is_term) {f : Addr} {fd : FuncData} (F : Here K mg "is_form" s_is_form ["thing", "p"] f fd) : Cal P w K mg base "is_form" 4 ["thing", "p"] (sp_is_form K) s_is_form f fd := by
  refine F.cal sc_is_form (fun vs H Q E h => ?_) (fun cdv A outer s H vs Q E hr h => ?_)
  · obtain ⟨a, n, p, ts, rfl, _⟩ := h
    rfl
  · obtain ⟨a, n, p, ts, rfl, ⟨a, b, us, e1, ha, hb, hts⟩, ok, lts, q⟩ := h
    cases e1
    have lus : us.length < 64 := by rw [hts.1]; exact lts
    refine ⟨_, (pss_cons (ps_if (pt_not (pt_val (pe_call C_is_tuple.ok (hr.mono (by decide)) (by rfl) C_is_tuple.at_ C_is_tuple.kp C_is_tuple.b .nil pass0 (pa_cons (pv 0) (pa_cons pe_int (pa_cons pe_int pa_nil)))))) (pss_one (ps_ret pe_bl)) pss_nil)
      (pss_cons (ps_asg (pv 0) (castPG (K := K) (n := 2) (pg_tup rfl (pgs_cons (pg_name (i := 2) sc_is_form.nd rfl (by first | exact .inl rfl | exact .inr rfl)) (pgs_cons (pg_name (i := 3) sc_is_form.nd rfl (by first | exact .inl rfl | exact .inr rfl)) pgs_nil)))))
      (pss_cons (ps_if (PW.pt (pw_or (pt_not (pt_val (pe_call C_is_number.ok (hr.mono (by decide)) (by rfl) C_is_number.at_ C_is_number.kp C_is_number.b .nil pass0 (pa_cons (pv 2) (pa_cons (pv 1) pa_nil))))) (pw_or1 (pt_not (pt_val (pe_callB (cr_isiK (K := K)) (by rfl) T.m_isinstance (by decide +kernel) (pa_cons (pv 3) (pa_cons (pe_bltn (v := .ty "tuple") (by rfl) T.m_tuple (by decide +kernel) rfl) pa_nil)))))))) (pss_one (ps_ret pe_bl)) pss_nil)
      (pss_one (ps_ret (pe_and (pe_callB (cr_allK (K := K) rfl) (by rfl) T.m_all (by decide +kernel) (pa_cons (pe_lc rfl sc_is_form.nd (pi_tupK (K := K) (pv 3)) (blkOk_by (own := [("term", 4)]) (N := ["thing", "p", "n", "terms", "term", "place", "_"]) (sc := (defScope s_is_form)) (by decide +kernel)) (fun _ _ _ _ _ => (pg_name (i := 4) sc_is_form.nd rfl (by first | exact .inl rfl | exact .inr rfl))) (fun _ _ _ _ _ => pts_nil) (fun _ _ _ _ _ => (pe_call C_is_term.ok (hr.mono (by decide)) (by rfl) C_is_term.at_ C_is_term.kp C_is_term.b .nil pass0 (pa_cons (pv 4) (pa_cons (pv 1) pa_nil))))) pa_nil)) (pe_one (pe_call C_do_rise.ok (hr.mono (by decide)) (by rfl) C_do_rise.at_ C_do_rise.kp C_do_rise.b .nil pass0 (pa_cons (pe_lc rfl sc_is_form.nd (pi_tupK (K := K) (pv 3)) (blkOk_by (own := [("place", 5), ("_", 6)]) (N := ["thing", "p", "n", "terms", "term", "place", "_"]) (sc := (defScope s_is_form)) (by decide +kernel)) (fun _ _ _ _ _ => (castPG (K := K) (n := 2) (pg_tup rfl (pgs_cons (pg_name (i := 5) sc_is_form.nd rfl (by first | exact .inl rfl | exact .inr rfl)) (pgs_cons (pg_name (i := 6) sc_is_form.nd rfl (by first | exact .inl rfl | exact .inr rfl)) pgs_nil))))) (fun _ _ _ _ _ => pts_nil) (fun _ _ _ _ _ => (pv 5))) pa_nil))))))))), ?_⟩
    walk_at "st"
    walk_at "if"
    refine ⟨a, _, 2, 2, rfl, ha, by simp, by simp, ?_⟩
    walk_at "st"
    walk_at "if"
    refine ⟨[], _, _, p, rfl, .int n, ?_⟩
    have e : numO p (.int n) = true := by have := ok.num; simp [numO]; omega
    rw [e]
    walk_at "st"
    intro D hD
    refine lc_map (walk_tup (xs := us)) (by omega) hD (fun i y _ => y = .bl true) (fun _ _ _ _ h _ => h) (fun _ _ _ _ _ h _ => h) (fun H' k => SqT.of (k _ _ hb)) (fun i H1 x H2 y => by rw [y.1]; exact Same.refl _)
      (fun i x H1 H2 Y No hi sm y hY => ?_) (fun ys H' el sm eD hys => ?_)
    · obtain ⟨rfl, ex⟩ := y
      obtain ⟨⟨z, k⟩, ez, t, rfl, ht⟩ := hts.2 i x ex
      have g := ok.ok.ok _ (List.mem_of_getElem? ez)
      refine ⟨rfl, ?_⟩
      walk_at "st"
      refine ⟨t, z, k, p, rfl, sm _ _ ht, g.1, g.2, fun H3 sm3 => ?_⟩
      exact hY _ _ sm3 rfl
    · have e := all_trues hys
      rw [e] at eD
      have hb2 := sm _ _ hb
      walk_at "st"
      rw [all_rep]
      walk_at "st"
      intro D2 hD2
      refine lc_map (walk_tup (xs := us)) (by omega) hD2 (fun i y _ => ∃ x, ts[i]? = some x ∧ y = .str x.1) (fun _ _ _ _ h _ => h) (fun _ _ _ _ _ h _ => h) (fun H' k => SqT.of (k _ _ hb2)) (fun i H1 x H2 y => by rw [y.1]; exact Same.refl _)
        (fun i x H1 H2 Y No hi sm2 y hY => ?_) (fun ys2 H2 el2 sm2 eD2 hys2 => ?_)
      · obtain ⟨rfl, ex⟩ := y
        obtain ⟨⟨z, k⟩, ez, t, rfl, ht⟩ := hts.2 i x ex
        have ht2 := sm2 _ _ (sm _ _ ht)
        refine ⟨t, _, rfl, SqT.of ht2, rfl, ?_⟩
        walk_at "st"
        refine ⟨rfl, ?_⟩
        walk_at "st"
        exact hY _ _ (Same.refl _) ⟨_, ez, rfl⟩
      · have e2 : ys2 = (ts.map (·.1)).map V.str := by
          apply List.ext_getElem?
          intro i
          cases e : ys2[i]? with
          | none =>
            rw [List.getElem?_eq_none_iff] at e
            rw [List.getElem?_eq_none_iff.mpr (by rw [List.length_map, List.length_map]; rw [el2, hts.1] at e; exact e)]
          | some y =>
            obtain ⟨x, h1, rfl⟩ := hys2 i y e
            rw [List.getElem?_map, List.getElem?_map, h1]; rfl
        subst e2
        walk_at "st"
        exact ⟨D2, ts.map (·.1), rfl, eD2, by rw [List.length_map]; omega, (show (ts.map (·.1)).Pairwise ltS from ok.ok.rise), fun H3 sm3 => q _ ((sm.trans sm2).trans sm3)⟩
end
local macro_rules | `(tactic| walk_at "ssz") => `(tactic| first | decide | exact str_small (by assumption) | (have : (1000000 : Nat) ≤ sizeLine := (by decide); omega))
local macro_rules | `(tactic| walk_at "st1") => `(tactic| first
  | with_reducible refine' r_nt ?_ | with_reducible refine' r_nf ?_
  | ((with_reducible refine r_lenS ?e1 ?_); (case e1 => walk_at "ssz"))
  | with_reducible refine r_inS ?_
  | with_reducible refine r_ninS ?_
  | ((with_reducible refine r_addS ?e1 ?_); (case e1 => walk_at "ssz"))
  | ((with_reducible refine' r_ixS ?e1 ?e2 ?_); (case e1 => walk_at "ssz"); (case e2 => first | assumption | rfl))
  | with_reducible refine r_istr ?_
  | with_reducible refine r_is ?_
  | with_reducible refine r_un ?_
  | with_reducible refine r_u ?_)
local macro_rules | `(tactic| walk_at "st1") => `(tactic| first
  | with_reducible refine r_par ?_
  | with_reducible refine r_parx ?_
  | ((with_reducible refine' r_gtup ?e1 ?e2 ?_); (case e1 => walk_at "sq"); (case e2 => rfl))
  | with_reducible refine r_gcons ?_
  | with_reducible refine r_gnil ?_
  | with_reducible refine r_disp ?_
  | with_reducible refine r_tp1 ?_
  | with_reducible refine r_tp0 ?_
  | ((with_reducible refine' r_dp1 ?e1 ?_); (case e1 => walk_at "hl"))
  | with_reducible refine r_dnewK ?_
  | with_reducible refine r_dget2 ?_
  | ((with_reducible refine' r_dg2 ?e1 ?_); (case e1 => walk_at "hl"))
  | ((with_reducible refine' r_dg3 ?e1 ?_); (case e1 => walk_at "hl"))
  | with_reducible refine r_dget ?_
  | ((with_reducible refine' r_dgv ?e1 ?e2 ?_); (case e1 => walk_at "hl"); (case e2 => assumption))
  | ((with_reducible refine' r_setD ?e1 ?e2 ?_); (case e1 => walk_at "hl"); (case e2 => omega)))
theorem putT_new {D : List Tr} {z : Str} {k : Int} (h : z ∉ D.map (·.1)) : putT D z k = D ++ [(z, k)] := by
  unfold putT
  rw [if_neg fun e => h ((any_key D z).mp e)]
def sp_law_table (_ : PySem.W.Frag) : Sp := fun vs H Q _ => ∃ (a : Addr) (n k : Int) (ts : List Tr), vs = [.ref a, .int k] ∧ FrmV H (.ref a) n ts ∧ ((Str.ofString "") :: ts.map fun x : Tr => x.1).Nodup ∧ ts.length < 64 ∧ (-1000000000000 ≤ k ∧ k ≤ 1000000000000) ∧
  ∀ (d : Addr) (H' : Hp), Same H H' → H d = none → H' d = some (.dK (encT ((Str.ofString "", n * k) :: mulT k ts))) → Q (.ref d) H'
section
variable {P : Program} {w : World} {K : PySem.W.Frag} {mg : Str → Option Value} {base : Heap}
theorem ok_law_table (T : Tx K mg)  {f : Addr} {fd : FuncData} (F : Here K mg "_law_table" s_law_table ["lot", "times"] f fd) : Cal P w K mg base "_law_table" 1 ["lot", "times"] (sp_law_table K) s_law_table f fd := by
  refine F.cal sc_law_table (fun vs H Q E h => ?_) (fun cdv A outer s H vs Q E hr h => ?_)
  · obtain ⟨a, n, k, ts, rfl, _⟩ := h
    rfl
  · obtain ⟨a, n, k, ts, rfl, ⟨a, b, us, e1, ha, hb, hts⟩, nd, lts, hk, q⟩ := h
    cases e1
    have lus : us.length < 64 := by rw [hts.1]; exact lts
    refine ⟨_, (pss_cons (ps_set (i := 2) sc_law_table.nd rfl (by first | exact .inl rfl | exact .inr rfl) (pe_disp (pps_cons pe_str (pe_op op_mul (pe_ix (ix_tupK (K := K)) (pv 0) pe_int (fun _ _ => rfl)) (pv 1)) pps_nil) (by rfl) (by rfl) (fun z => by cases z) (by decide)))
      (pss_cons (ps_for PassesOwn.never rfl (pi_tupK (K := K) (pe_ix (ix_tupK (K := K)) (pv 0) pe_int (fun _ _ => rfl))) (castPG (K := K) (n := 2) (pg_tup rfl (pgs_cons (pg_name (i := 3) sc_law_table.nd rfl (by first | exact .inl rfl | exact .inr rfl)) (pgs_cons (pg_name (i := 4) sc_law_table.nd rfl (by first | exact .inl rfl | exact .inr rfl)) pgs_nil)))) (pss_one (ps_asg (pe_op op_mul (pv 4) (pv 1)) (pg_sub (pv 2) (pv 3) (set_dict (hu_of hr))))))
      (pss_one (ps_ret (pv 2))))), ?_⟩
    walk_at "st"
    intro d hd
    have S1 : Same H (upd H d (.dK [])) := Same.upd_new hd
    have ha1 := S1 _ _ ha
    have ha2 : upd (upd H d (.dK [])) d (.dK (encT [(Str.ofString "", n * k)])) a = some (.tup [V.int n, V.ref b]) := hl_set (ne_of_none ha hd) ha1
    have hb2 : upd (upd H d (.dK [])) d (.dK (encT [(Str.ofString "", n * k)])) b = some (.tup us) := hl_set (ne_of_none hb hd) (S1 _ _ hb)
    walk_at "st"
    refine lp_by (walk_tup (xs := us)) (fun i σ' H' => ∃ x3 x4, σ' = [some (.ref a), some (.int k), some (.ref d), x3, x4] ∧ Same H H' ∧ H' d = some (.dK (encT ((Str.ofString "", n * k) :: mulT k (ts.take i))))) ⟨none, none, rfl, fun b o e => hl_set (ne_of_none e hd) (S1 _ _ e), upd_same⟩ (fun i σ' H' _ g => ?_) (fun i x σ' H2 H3 hi g y => ?_) (fun σ' H2 g => ?_)
    · obtain ⟨_, _, _, sm, _⟩ := g
      exact SqT.of (sm _ _ hb)
    · obtain ⟨x3, x4, rfl, sm, ed⟩ := g
      obtain ⟨rfl, ex⟩ := y
      obtain ⟨⟨z, j⟩, ez, t, rfl, ht⟩ := hts.2 i x ex
      have ht2 := sm _ _ ht
      have lD : ((Str.ofString "", n * k) :: mulT k (ts.take i)).length ≤ 1000 := by
        rw [List.length_cons, mulT_len, List.length_take]; omega
      have new : z ∉ ((Str.ofString "", n * k) :: mulT k (ts.take i)).map (·.1) := by
        have e : ((Str.ofString "", n * k) :: mulT k (ts.take i)).map (·.1) = Str.ofString "" :: (ts.take i).map (fun x : Tr => x.1) := by
          unfold mulT
          rw [List.map_cons, List.map_map]; rfl
        rw [e]
        have nd2 := List.nodup_cons.mp nd
        intro m
        rcases List.mem_cons.mp m with m | m
        · exact nd2.1 (m ▸ List.mem_map.mpr ⟨_, List.mem_of_getElem? ez, rfl⟩)
        · have e3 : ts = ts.take i ++ (z, j) :: ts.drop (i + 1) := by
            obtain ⟨g1, g2⟩ := List.getElem?_eq_some_iff.mp ez
            rw [← g2, List.getElem_cons_drop, List.take_append_drop]
          have nd3 := nd2.2
          rw [e3, List.map_append, List.map_cons] at nd3
          exact (List.nodup_append.mp nd3).2.2 z m z List.mem_cons_self rfl
      walk_at "st"
      refine ⟨_, _, rfl, fun b o e => hl_set (ne_of_none e hd) (sm _ _ e), ?_⟩
      rw [upd_same, putT_new new, List.take_succ, ez]
      unfold mulT
      rw [List.map_append]; rfl
    · obtain ⟨x3, x4, rfl, sm, ed⟩ := g
      rw [List.take_of_length_le (by rw [hts.1]; exact Nat.le_refl _)] at ed
      walk_at "st"
      exact q d _ sm hd ed
end
local macro_rules | `(tactic| walk_at "ssz") => `(tactic| first | decide | exact str_small (by assumption) | (have : (1000000 : Nat) ≤ sizeLine := (by decide); omega))
local macro_rules | `(tactic| walk_at "st1") => `(tactic| first
  | with_reducible refine' r_nt ?_ | with_reducible refine' r_nf ?_
  | ((with_reducible refine r_lenS ?e1 ?_); (case e1 => walk_at "ssz"))
  | with_reducible refine r_inS ?_
  | with_reducible refine r_ninS ?_
  | ((with_reducible refine r_addS ?e1 ?_); (case e1 => walk_at "ssz"))
  | ((with_reducible refine' r_ixS ?e1 ?e2 ?_); (case e1 => walk_at "ssz"); (case e2 => first | assumption | rfl))
  | with_reducible refine r_istr ?_
  | with_reducible refine r_is ?_
  | with_reducible refine r_un ?_
  | with_reducible refine r_u ?_)
local macro_rules | `(tactic| walk_at "st1") => `(tactic| first
  | with_reducible refine r_par ?_
  | with_reducible refine r_parx ?_
  | ((with_reducible refine' r_gtup ?e1 ?e2 ?_); (case e1 => walk_at "sq"); (case e2 => rfl))
  | with_reducible refine r_gcons ?_
  | with_reducible refine r_gnil ?_
  | with_reducible refine r_disp ?_
  | with_reducible refine r_tp1 ?_
  | with_reducible refine r_tp0 ?_
  | ((with_reducible refine' r_dp1 ?e1 ?_); (case e1 => walk_at "hl"))
  | with_reducible refine r_dnewK ?_
  | with_reducible refine r_dget2 ?_
  | ((with_reducible refine' r_dg2 ?e1 ?_); (case e1 => walk_at "hl"))
  | ((with_reducible refine' r_dg3 ?e1 ?_); (case e1 => walk_at "hl"))
  | with_reducible refine r_dget ?_
  | ((with_reducible refine' r_dgv ?e1 ?e2 ?_); (case e1 => walk_at "hl"); (case e2 => assumption))
  | ((with_reducible refine' r_setD ?e1 ?e2 ?_); (case e1 => walk_at "hl"); (case e2 => omega)))
def IkR (R : It → Hp → Prop) (x : V) (H1 : Hp) : Prop := ∃ d o, x = .ref d ∧ ((∃ kvs, H1 d = some (.frz o (.dK kvs)) ∧ R (Itk d o kvs) H1) ∨ ∃ kvs, H1 d = some (.frz o (.dT kvs)) ∧ R (Itkt d o kvs) H1)
theorem r_ikeys {td : TE} {σ : L2.St} {H : Hp} {R : It → Hp → Prop} (h : td σ H (IkR R)) : iKeys td σ H R := h
theorem r_ik {R : It → Hp → Prop} {H : Hp} {d : Addr} {o : Obj} {kvs : List (Key × V)} (e : H d = some (.frz o (.dK kvs))) (h : R (Itk d o kvs) H) : IkR R (.ref d) H := ⟨d, o, rfl, .inl ⟨kvs, e, h⟩⟩
local macro_rules | `(tactic| walk_at "st1") => `(tactic| first
  | with_reducible refine r_ikeys ?_
  | ((with_reducible refine' r_ik ?e1 ?_); (case e1 => walk_at "hl")))
theorem r_dgvZ {Q : VK} {H : Hp} {d : Addr} {o : Obj} {D : List Tr} {z : Str} {k : Int} (e : H d = some (.frz o (.dK (encT D)))) (g : getT D z = some k) (q : Q (.int k) H) : DG1 Q (.ref d) (.str z) H :=
  ⟨d, _, rfl, .inl ⟨encT D, Sum.inr z, .inr ⟨o, e⟩, rfl, by rw [enc_get, g]; rfl⟩, q⟩
theorem coef_filter (E : List Tr) (z : Str) : coef (E.filter fun x => decide (x.1 ≠ Str.ofString "")) z = if z = Str.ofString "" then 0 else coef E z := by
  induction E with
  | nil => by_cases c : z = Str.ofString "" <;> simp [c, coef_nil]
  | cons x E ih =>
    by_cases c : x.1 = Str.ofString ""
    · rw [List.filter_cons_of_neg (by simpa using c), ih]
      by_cases d : z = Str.ofString ""
      · rw [if_pos d, if_pos d]
      · rw [if_neg d, if_neg d, coef_cons, if_neg fun e => d (e.symm.trans c), Int.zero_add]
    · rw [List.filter_cons_of_pos (by simpa using c), coef_cons, ih]
      by_cases d : z = Str.ofString ""
      · rw [if_pos d, if_pos d, if_neg fun e => c (e.trans d)]; rfl
      · rw [if_neg d, if_neg d, coef_cons]
def sp_law_owed (_ : PySem.W.Frag) : Sp := fun vs H Q _ => ∃ (l : Addr) (q : Int) (ds : List Addr) (Ds : List (List Tr)), vs = [.ref l, .int q] ∧ H l = some (.lst (ds.map V.ref)) ∧ ds.length = Ds.length ∧
  (∀ (i : Nat) (d : Addr), ds[i]? = some d → ∃ D, Ds[i]? = some D ∧ H d = some (.dK (encT D)) ∧ (D.map fun x : Tr => x.1).Nodup) ∧ Ds.flatten.length < 60 ∧ Ds.length < 60 ∧ (2 ≤ q ∧ q ≤ 997) ∧
  ∀ (a : Addr) (ts : List Tr) (H' : Hp), Same H H' → FrmV H' (.ref a) (coef Ds.flatten (Str.ofString "") % q) ts → Canon q (Ds.flatten.filter fun x => decide (x.1 ≠ Str.ofString "")) ts → Q (.ref a) H'
section
variable {P : Program} {w : World} {K : PySem.W.Frag} {mg : Str → Option Value} {base : Heap}
theorem ok_law_owed (T : Tx K mg)  {f : Addr} {fd : FuncData} (F : Here K mg "_law_owed" s_law_owed ["tables", "q"] f fd) : Cal P w K mg base "_law_owed" 1 ["tables", "q"] (sp_law_owed K) s_law_owed f fd := by
  refine F.cal sc_law_owed (fun vs H Q E h => ?_) (fun cdv A outer s H vs Q E hr h => ?_)
  · obtain ⟨l, q, ds, Ds, rfl, _⟩ := h
    rfl
  · obtain ⟨l, q, ds, Ds, rfl, hl, ld, hD, lE, lDs, hq, fin⟩ := h
    refine ⟨_, (pss_cons (ps_set (i := 2) sc_law_owed.nd rfl (by first | exact .inl rfl | exact .inr rfl) pe_dnewK)
      (pss_cons (ps_for PassesOwn.never rfl (pi_listK (K := K) (pv 0)) (pg_name (i := 3) sc_law_owed.nd rfl (by first | exact .inl rfl | exact .inr rfl)) (pss_one (ps_lock (ps_for PassesOwn.never rfl (pi_keys (pv 3)) (pg_name (i := 4) sc_law_owed.nd rfl (by first | exact .inl rfl | exact .inr rfl)) (pss_one (ps_asg (pe_op op_add (pe_dget2 (hu_of hr) (pv 2) (pv 4) pe_int ⟨by rfl, by rfl, by rfl, by rfl⟩) (pe_dget (hu_of hr) (pv 3) (pv 4) (fun _ _ => rfl))) (pg_sub (pv 2) (pv 4) (set_dict (hu_of hr)))))))))
      (pss_cons (ps_setLc (i := 5) rfl sc_law_owed.nd rfl rfl (sw_true rfl rfl rfl (by decide +kernel)) (pi_listK (K := K) (pe_callB (cr_sortedD rfl) (by rfl) T.m_sorted (by decide +kernel) (pa_cons (pv 2) pa_nil))) (blkOk_by (own := [("place", 4)]) (N := ["tables", "q", "whole", "table", "place", "terms"]) (sc := (defScope s_law_owed)) (by decide +kernel)) (fun _ _ _ _ _ => (pg_name (i := 4) sc_law_owed.nd rfl (by first | exact .inl rfl | exact .inr rfl))) (fun _ _ _ _ _ => (pts_one (PW.pt (pw_and (pt_cmpR op_ne (pv 4) pe_str (nomark _)) (pw_and1 (pt_cmpR op_ne (pe_op op_mod (pe_dget (hu_of hr) (pv 2) (pv 4) (fun _ _ => rfl)) (pv 1)) pe_int (nomark _))))))) (fun _ _ _ _ _ => (pe_tup (pa_cons (pv 4) (pa_cons (pe_op op_mod (pe_dget (hu_of hr) (pv 2) (pv 4) (fun _ _ => rfl)) (pv 1)) pa_nil)))))
      (pss_one (ps_ret (pe_tup (pa_cons (pe_op op_mod (pe_dget2 (hu_of hr) (pv 2) pe_str pe_int ⟨by rfl, by rfl, by rfl, by rfl⟩) (pv 1)) (pa_cons (pe_callTy (cr_tupOfK (K := K)) (by rfl) T.m_tuple (by decide +kernel) (pa_cons (pv 5) pa_nil)) pa_nil)))))))), ?_⟩
    walk_at "st"
    intro w hw
    walk_at "st"
    refine lp_by (walk_list (a := l) (xs := ds.map V.ref)) (fun i σ' H' => ∃ x3 x4, σ' = [some (.ref l), some (.int q), some (.ref w), x3, x4, none] ∧ Same H H' ∧ ∃ W, H' w = some (.dK (encT W)) ∧ (W.map fun x : Tr => x.1).Nodup ∧ W.length ≤ (Ds.take i).flatten.length ∧ ∀ z, (getT W z).getD 0 = coef (Ds.take i).flatten z)
      ⟨none, none, rfl, Same.upd_new hw, [], upd_same, List.nodup_nil, Nat.le_refl _, fun z => rfl⟩ (fun i σ' H' _ g => ?_) (fun i x σ' H2 H3 hi g y => ?_) (fun σ' H2 g => ?_)
    · obtain ⟨_, _, _, sm, _⟩ := g
      exact SqL.of (sm _ _ hl)
    · obtain ⟨x3, x4, rfl, sm, W, eW, nW, lW, gW⟩ := g
      obtain ⟨rfl, ex⟩ := y
      rw [List.getElem?_map] at ex
      cases ed : ds[i]? with
      | none => rw [ed] at ex; cases ex
      | some d =>
        rw [ed] at ex
        obtain rfl : V.ref d = x := Option.some.inj ex
        obtain ⟨D, eD, hd, nD⟩ := hD i d ed
        have hd2 := sm _ _ hd
        have nwd : w ≠ d := (ne_of_none hd hw).symm
        have tk : (Ds.take (i + 1)).flatten = (Ds.take i).flatten ++ D := by
          rw [List.take_succ, eD, List.flatten_append]; simp
        have tl : (Ds.take (i + 1)).flatten.length ≤ Ds.flatten.length := by
          have : Ds.flatten = (Ds.take (i + 1)).flatten ++ (Ds.drop (i + 1)).flatten := by rw [← List.flatten_append, List.take_append_drop]
          rw [this, List.length_append]; omega
        rw [tk, List.length_append] at tl
        walk_at "st"
        refine ⟨d, _, hd2, trivial, fun od => ?_⟩
        have F0 : upd H3 d (.frz od (.dK (encT D))) d = some (.frz od (.dK (encT D))) := upd_same
        have eW0 : upd H3 d (.frz od (.dK (encT D))) w = some (.dK (encT W)) := hl_set nwd eW
        have K0 : ∀ b o, b ≠ d → H b = some o → upd H3 d (.frz od (.dK (encT D))) b = some o := fun b o n e => hl_set n (sm _ _ e)
        generalize upd H3 d (.frz od (.dK (encT D))) = H4 at *
        walk_at "st"
        refine lp_by walk_keys (fun j σ' H' => ∃ x4, σ' = [some (.ref l), some (.int q), some (.ref w), some (.ref d), x4, none] ∧ H' d = some (.frz od (.dK (encT D))) ∧ (∀ b o, b ≠ d → H b = some o → H' b = some o) ∧
          ∃ W, H' w = some (.dK (encT W)) ∧ (W.map fun x : Tr => x.1).Nodup ∧ W.length ≤ (Ds.take i).flatten.length + j ∧ ∀ z, (getT W z).getD 0 = coef ((Ds.take i).flatten ++ D.take j) z)
          ⟨_, rfl, F0, K0, W, eW0, nW, lW, fun z => by rw [List.take_zero, List.append_nil]; exact gW z⟩ (fun j σ' H' _ g => ?_) (fun j x σ' H5 H6 hj g y => ?_) (fun σ' H5 g => ?_)
        · obtain ⟨_, _, f, _⟩ := g
          exact f
        · obtain ⟨x4', rfl, f5, k5, W5, e5, n5, l5, g5⟩ := g
          obtain ⟨rfl, key, v, ek, ekv⟩ := y
          have hj2 : j < D.length := by unfold encT at hj; rw [List.length_map] at hj; exact hj
          unfold encT at ek
          rw [List.getElem?_map, List.getElem?_eq_getElem hj2] at ek
          have ek2 := Option.some.inj ek
          obtain ⟨zk, hzk⟩ : ∃ zk : Tr, D[j] = zk := ⟨_, rfl⟩
          obtain ⟨z, k⟩ := zk
          rw [hzk] at ek2
          have mz : (z, k) ∈ D := hzk ▸ List.getElem_mem hj2
          have gz := getT_in nD mz
          cases ek2
          obtain rfl : x = V.str z := ekv
          have l5' : W5.length ≤ 1000 := by omega
          walk_at "st"
          refine r_dgvZ f5 gz ?_
          walk_at "st"
          have ndw : d ≠ w := nwd.symm
          refine ⟨_, rfl, hl_set ndw f5, fun b o n e => hl_set (ne_of_none e hw) (k5 b o n e), _, upd_same, putT_nodup n5 _ _, Nat.le_trans (putT_len _ _ _) (by omega), fun y => ?_⟩
          have tj : D.take (j + 1) = D.take j ++ [(z, k)] := by rw [List.take_succ, List.getElem?_eq_getElem hj2, hzk]; rfl
          rw [getT_put, tj, ← List.append_assoc, coef_app, coef_cons, coef_nil, Int.add_zero]
          by_cases c : y = z
          · subst c
            rw [if_pos rfl, if_pos rfl, Option.getD_some, g5 y]
          · rw [if_neg c, if_neg (fun e => c e.symm), Int.add_zero]
            exact g5 y
        · obtain ⟨x4', rfl, f5, k5, W5, e5, n5, l5, g5⟩ := g
          have eL : (encT D).length = D.length := by unfold encT; rw [List.length_map]
          rw [eL] at l5 g5
          rw [List.take_length] at g5
          refine ⟨f5, _, _, rfl, fun b o e => ?_, W5, hl_set nwd e5, n5, by rw [tk, List.length_append]; exact l5, fun z => by rw [tk]; exact g5 z⟩
          by_cases c : b = d
          · subst c
            rw [upd_same, ← hd, e]
          · rw [upd_ne c]; exact k5 b o c e
    · obtain ⟨x3, x4, rfl, sm, W, eW, nW, lW, gW⟩ := g
      rw [List.take_of_length_le (by rw [List.length_map, ld]; exact Nat.le_refl _)] at lW gW
      walk_at "st"
      refine r_sortD eW (by omega) fun ys p0 pm so hp0 => ?_
      have sD : Same H2 (upd H2 p0 (.lst (ys.map V.str))) := Same.upd_new hp0
      have nys : ys.Nodup := pm.symm.nodup nW
      have ri := sortedS_rise so nys
      have lys : ys.length < 64 := by rw [pm.length_eq, List.length_map]; omega
      have ed := sD _ _ eW
      have ep : upd H2 p0 (.lst (ys.map V.str)) p0 = some (.lst (ys.map V.str)) := upd_same
      have S0 := sm.trans sD
      generalize upd H2 p0 (.lst (ys.map V.str)) = H3 at *
      walk_at "st"
      intro Dl hDl
      refine lc_by (walk_list (a := p0) (xs := ys.map V.str)) (fun i H' => Same H3 H' ∧ ∃ us ts, H' Dl = some (.lst us) ∧ Trs H' us ts ∧ (ts.map fun x : Tr => x.1).Sublist (ys.take i) ∧ (∀ x ∈ ts, x.1 ≠ Str.ofString "" ∧ x.2 = (getT W x.1).getD 0 % q ∧ x.2 ≠ 0) ∧ ∀ (j : Nat) z, j < i → ys[j]? = some z → z ≠ Str.ofString "" → (getT W z).getD 0 % q ≠ 0 → (z, (getT W z).getD 0 % q) ∈ ts)
        ⟨Same.upd_new hDl, [], [], upd_same, Trs.nil, List.Sublist.refl _, by simp, fun j z g => absurd g (Nat.not_lt_zero j)⟩ (fun i H' _ g => SqL.of (g.1 _ _ ep)) (fun i x H4 H5 hi g y => ?_) (fun H4 g => ?_)
      · obtain ⟨s4, us, ts, et, ht, sb, h1, h2⟩ := g
        obtain ⟨rfl, ex⟩ := y
        obtain ⟨z, ez, rfl⟩ := getElem?_map_str ex
        have mz : z ∈ W.map (fun x : Tr => x.1) := pm.mem_iff.mp (List.mem_of_getElem? ez)
        obtain ⟨⟨z', k⟩, mk, rfl⟩ := List.mem_map.mp mz
        have gk := getT_in nW mk
        have ed4 := s4 _ _ ed
        have lts : ts.length ≤ 64 := by
          have := sb.length_le
          rw [List.length_map, List.length_take] at this
          omega
        have sb' : (ts.map fun x : Tr => x.1).Sublist (ys.take (i + 1)) := sb.trans (by rw [List.take_succ]; exact List.sublist_append_left _ _)
        have gk2 : (getT W z').getD 0 = k := by rw [gk]; rfl
        have old : ∀ (j : Nat) z'', j < i + 1 → ys[j]? = some z'' → z'' ≠ Str.ofString "" → (getT W z'').getD 0 % q ≠ 0 → (z'', (getT W z'').getD 0 % q) ∈ ts ∨ z'' = z' := fun j z'' lt e1 e2 e3 => by
          rcases Nat.lt_succ_iff_lt_or_eq.mp lt with g | g
          · exact .inl (h2 j _ g e1 e2 e3)
          · rw [g, ez] at e1
            exact .inr (Option.some.inj e1).symm
        refine ⟨rfl, ?_⟩
        walk_at "st"
        have stay : (z' = Str.ofString "" ∨ k % q = 0) → Same H3 H5 ∧ ∃ us ts, H5 Dl = some (.lst us) ∧ Trs H5 us ts ∧ (ts.map fun x : Tr => x.1).Sublist (ys.take (i + 1)) ∧ (∀ x ∈ ts, x.1 ≠ Str.ofString "" ∧ x.2 = (getT W x.1).getD 0 % q ∧ x.2 ≠ 0) ∧ ∀ (j : Nat) z, j < i + 1 → ys[j]? = some z → z ≠ Str.ofString "" → (getT W z).getD 0 % q ≠ 0 → (z, (getT W z).getD 0 % q) ∈ ts := fun no =>
          ⟨s4, us, ts, et, ht, sb', h1, fun j z'' lt e1 e2 e3 => by
            rcases old j z'' lt e1 e2 e3 with g | g
            · exact g
            · subst g
              rw [gk2] at e3
              exact no.elim (fun n => absurd n e2) fun n => absurd n e3⟩
        refine r_iteB (fun h => ?_) (fun h => ?_)
        · have z0 : z' ≠ Str.ofString "" := by simpa using h
          walk_at "st"
          refine r_iteB (fun h => ?_) (fun h => ?_)
          · have k0 : k % q ≠ 0 := by simpa using h
            walk_at "st"
            intro t ht8
            have ht4 := hl_new et ht8 (u := .tup [V.str z', V.int (k % q)])
            refine ⟨us, ht4, by rw [ht.1]; exact Nat.lt_of_le_of_lt lts (by decide), fun b o e => hl_set (ne_of_none e hDl) (hl_new (s4 _ _ e) ht8), us ++ [.ref t], ts ++ [(z', k % q)], upd_same, ?_, ?_, fun x m => ?_, fun j z'' lt e1 e2 e3 => ?_⟩
            · exact ((ht.to (Tups.same (Same.upd_new ht8))).append (Trs.one ⟨t, rfl, upd_same⟩)).to (Tups.lst ht4)
            · rw [List.map_append, List.take_succ, ez]
              exact sb.append (List.Sublist.refl _)
            · rcases List.mem_append.mp m with m | m
              · exact h1 x m
              · rw [List.mem_singleton.mp m]; exact ⟨z0, by rw [gk2], k0⟩
            · rcases old j z'' lt e1 e2 e3 with g | g
              · exact List.mem_append_left _ g
              · subst g
                rw [gk2]; exact List.mem_append_right _ (List.mem_singleton.mpr rfl)
          · exact stay (.inr (by simpa using h))
        · exact stay (.inl (by simpa using h))
      · obtain ⟨s4, us, ts, et, ht, sb, h1, h2⟩ := g
        rw [List.take_of_length_le (by rw [List.length_map]; exact Nat.le_refl _)] at sb
        have ed4 := s4 _ _ ed
        walk_at "st"
        intro b hb
        walk_at "st"
        intro a ha
        rw [gW]
        have S5 : Same H4 (upd (upd H4 b (.tup us)) a (.tup [V.int (coef Ds.flatten (Str.ofString "") % q), V.ref b])) := (Same.upd_new hb).trans (Same.upd_new ha)
        refine fin a ts _ ((S0.trans s4).trans S5) ⟨a, b, us, rfl, upd_same, hl_new upd_same ha, ht.to (Tups.same S5)⟩ ⟨ri.sublist sb, fun z k => ⟨fun m => ?_, fun m => ?_⟩⟩
        · have e := h1 _ m
          rw [coef_filter, if_neg e.1]
          exact ⟨by rw [← gW]; exact e.2.1, e.2.2⟩
        · obtain ⟨e, ne⟩ := m
          rw [coef_filter] at e
          by_cases c : z = Str.ofString ""
          · rw [if_pos c] at e
            exact absurd (by rw [e]; rfl) ne
          · rw [if_neg c, ← gW] at e
            have mz : z ∈ W.map (fun x : Tr => x.1) := by
              by_cases c : z ∈ W.map (fun x : Tr => x.1)
              · exact c
              · rw [getT_out c] at e
                exact absurd (by rw [e]; rfl) ne
            obtain ⟨j, ej⟩ := List.getElem?_of_mem (pm.mem_iff.mpr mz)
            rw [e] at ne ⊢
            exact h2 j z (by rw [List.length_map]; exact (List.getElem?_eq_some_iff.mp ej).1) ej c ne
end
local macro_rules | `(tactic| walk_at "ssz") => `(tactic| first | decide | exact str_small (by assumption) | (have : (1000000 : Nat) ≤ sizeLine := (by decide); omega))
local macro_rules | `(tactic| walk_at "st1") => `(tactic| first
  | with_reducible refine' r_nt ?_ | with_reducible refine' r_nf ?_
  | ((with_reducible refine r_lenS ?e1 ?_); (case e1 => walk_at "ssz"))
  | with_reducible refine r_inS ?_
  | with_reducible refine r_ninS ?_
  | ((with_reducible refine r_addS ?e1 ?_); (case e1 => walk_at "ssz"))
  | ((with_reducible refine' r_ixS ?e1 ?e2 ?_); (case e1 => walk_at "ssz"); (case e2 => first | assumption | rfl))
  | with_reducible refine r_istr ?_
  | with_reducible refine r_is ?_
  | with_reducible refine r_un ?_
  | with_reducible refine r_u ?_)
local macro_rules | `(tactic| walk_at "st1") => `(tactic| first
  | with_reducible refine r_par ?_
  | with_reducible refine r_parx ?_
  | ((with_reducible refine' r_gtup ?e1 ?e2 ?_); (case e1 => walk_at "sq"); (case e2 => rfl))
  | with_reducible refine r_gcons ?_
  | with_reducible refine r_gnil ?_
  | with_reducible refine r_disp ?_
  | with_reducible refine r_tp1 ?_
  | with_reducible refine r_tp0 ?_
  | ((with_reducible refine' r_dp1 ?e1 ?_); (case e1 => walk_at "hl"))
  | with_reducible refine r_dnewK ?_
  | with_reducible refine r_dget2 ?_
  | ((with_reducible refine' r_dg2 ?e1 ?_); (case e1 => walk_at "hl"))
  | ((with_reducible refine' r_dg3 ?e1 ?_); (case e1 => walk_at "hl"))
  | with_reducible refine r_dget ?_
  | ((with_reducible refine' r_dgv ?e1 ?e2 ?_); (case e1 => walk_at "hl"); (case e2 => assumption))
  | ((with_reducible refine' r_setD ?e1 ?e2 ?_); (case e1 => walk_at "hl"); (case e2 => omega)))
theorem Canon.congr {p : Int} {ps qs ts : List Tr} (h : Canon p ps ts) (e : ∀ z, coef ps z % p = coef qs z % p) : Canon p qs ts := ⟨h.rise, fun z k => by rw [h.mem, e]⟩
def DIx (Q : VK) (y x : V) (H2 : Hp) : Prop := ∃ a o, x = .ref a ∧ DGet H2 a y o ∧ Q (.bl o.isSome) H2
section
variable {σ : L2.St} {H : Hp} {Q : VK}
theorem r_din {ty td : TE} (h : ty σ H fun y H1 => td σ H1 fun x H2 => DIx Q y x H2) : tDIn ty td σ H Q := h
theorem r_dix {d : Addr} {kvs : List (Key × V)} {z : Str} (e : H d = some (.dK kvs)) (q : Q (.bl (valV kvs (Sum.inr z)).isSome) H) : DIx Q (.str z) (.ref d) H := ⟨d, _, rfl, DGet.k (k := Sum.inr z) e, q⟩
end
local macro_rules | `(tactic| walk_at "st1") => `(tactic| first
  | with_reducible refine r_din ?_
  | ((with_reducible refine' r_dix ?e1 ?_); (case e1 => walk_at "hl")))
def lookT (F : List Fm) (z : Str) : Option (Int × List Tr) := (F.find? fun x => decide (x.1 = z)).map (·.2)
theorem look_of (F : List Fm) (z : Str) : look F z = (lookT F z).getD (0, [(z, 1)]) := rfl
theorem lookT_mem {F : List Fm} {z : Str} {x : Int × List Tr} (h : lookT F z = some x) : ∃ z', (z', x) ∈ F := by
  unfold lookT at h
  cases g : F.find? fun x => decide (x.1 = z) with
  | none => rw [g] at h; cases h
  | some y => rw [g] at h; cases h; exact ⟨y.1, List.mem_of_find?_eq_some g⟩
/-- what one term brings -/
def putE (F : List Fm) (x : Tr) : List Tr := match lookT F x.1 with
  | some f => (Str.ofString "", f.1 * x.2) :: mulT x.2 f.2
  | none => [x]
theorem df_getT {H : Hp} {z : Str} : ∀ {kvs : List (Key × V)} {F : List Fm}, kvs.length = F.length → (∀ (i : Nat) (e : Key × V), kvs[i]? = some e → ∃ x, F[i]? = some x ∧ e.1 = Sum.inr x.1 ∧ FrmV H e.2 x.2.1 x.2.2) →
    (valV kvs (Sum.inr z) = none ∧ lookT F z = none) ∨ ∃ v f, valV kvs (Sum.inr z) = some v ∧ lookT F z = some f ∧ FrmV H v f.1 f.2
  | [], [], _, _ => .inl ⟨rfl, rfl⟩
  | [], _ :: _, e, _ => by simp at e
  | _ :: _, [], e, _ => by simp at e
  | e :: kvs, x :: F, l, k => by
    obtain ⟨y, ey, e1, e2⟩ := k 0 e rfl
    obtain rfl : x = y := Option.some.inj ey
    have ih := df_getT (H := H) (z := z) (kvs := kvs) (F := F) (by simpa using l) (fun i e he => k (i + 1) e (by simpa using he))
    by_cases c : x.1 = z
    · have h1 : valV (e :: kvs) (Sum.inr z) = some e.2 := valV_pos (by rw [e1, c])
      have h2 : lookT (x :: F) z = some x.2 := by
        unfold lookT
        rw [List.find?_cons_of_pos (by simpa using c)]; rfl
      exact .inr ⟨e.2, x.2, h1, h2, e2⟩
    · have h1 : valV (e :: kvs) (Sum.inr z) = valV kvs (Sum.inr z) := valV_neg (by rw [e1]; exact fun g => c (Sum.inr.inj g))
      have h2 : lookT (x :: F) z = lookT F z := by
        unfold lookT
        rw [List.find?_cons_of_neg (by simpa using c)]
      rw [h1, h2]
      exact ih
theorem goodW.ne0 {z : Str} (h : goodW (cs z)) : z ≠ Str.ofString "" := fun e => by
  have := h.1
  rw [e] at this
  exact absurd this (by decide)
theorem TermsOk.keys {p : Int} {ts : List Tr} (h : TermsOk p ts) : (Str.ofString "" :: ts.map fun x : Tr => x.1).Nodup := by
  refine List.nodup_cons.mpr ⟨fun m => ?_, h.rise.nodup⟩
  obtain ⟨x, hx, e⟩ := List.mem_map.mp m
  exact (h.ok x hx).1.ne0 e
theorem coef_mul0 {k : Int} {ts : List Tr} (h : ∀ x ∈ ts, x.1 ≠ Str.ofString "") : coef (mulT k ts) (Str.ofString "") = 0 := by
  refine coef_out fun m => ?_
  unfold mulT at m
  rw [List.map_map] at m
  obtain ⟨x, hx, e⟩ := List.mem_map.mp m
  exact h x hx e
/-- the number, the terms, that all bring -/
theorem putE_num {p : Int} {F : List Fm} (hF : ∀ x ∈ F, TermsOk p x.2.2) {x : Tr} (hx : x.1 ≠ Str.ofString "") : coef (putE F x) (Str.ofString "") = (look F x.1).1 * x.2 := by
  unfold putE
  rw [look_of]
  cases g : lookT F x.1 with
  | none => show coef [x] _ = 0 * x.2; rw [coef_cons, if_neg hx, coef_nil]; omega
  | some f =>
    obtain ⟨z', m⟩ := lookT_mem g
    show coef ((Str.ofString "", f.1 * x.2) :: mulT x.2 f.2) _ = f.1 * x.2
    rw [coef_cons, if_pos rfl, coef_mul0 fun y hy => ((hF _ m).ok y hy).1.ne0]; omega
theorem putE_terms {F : List Fm} {x : Tr} {z : Str} (hz : z ≠ Str.ofString "") : coef (putE F x) z = coef (mulT x.2 (look F x.1).2) z := by
  unfold putE
  rw [look_of]
  cases g : lookT F x.1 with
  | none =>
    show coef [x] z = coef [(x.1, 1 * x.2)] z
    rw [Int.one_mul]
  | some f =>
    show coef ((Str.ofString "", f.1 * x.2) :: mulT x.2 f.2) z = coef (mulT x.2 f.2) z
    rw [coef_cons, if_neg fun e => hz e.symm, Int.zero_add]
theorem putE_all {p : Int} {F : List Fm} (hF : ∀ x ∈ F, TermsOk p x.2.2) : ∀ {ts : List Tr}, (∀ x ∈ ts, x.1 ≠ Str.ofString "") → coef (ts.map (putE F)).flatten (Str.ofString "") = putN F ts ∧ ∀ z, z ≠ Str.ofString "" → coef (ts.map (putE F)).flatten z = coef (putP F ts) z
  | [], _ => ⟨rfl, fun _ _ => rfl⟩
  | x :: ts, h => by
    have ih := putE_all hF (ts := ts) fun y m => h y (List.mem_cons_of_mem _ m)
    refine ⟨?_, fun z hz => ?_⟩
    · rw [List.map_cons, List.flatten_cons, coef_app, ih.1, putE_num hF (h x List.mem_cons_self)]
      unfold putN
      rw [List.map_cons, List.sum_cons]
    · rw [List.map_cons, List.flatten_cons, coef_app, ih.2 z hz, putE_terms hz]
      unfold putP
      rw [List.flatMap_cons, coef_app]
theorem putP_ne {p : Int} {F : List Fm} (hF : ∀ x ∈ F, TermsOk p x.2.2) {ts : List Tr} (h : ∀ x ∈ ts, x.1 ≠ Str.ofString "") : coef (putP F ts) (Str.ofString "") = 0 := by
  refine coef_out fun m => ?_
  obtain ⟨y, hy, e⟩ := List.mem_map.mp m
  unfold putP at hy
  obtain ⟨x, hx, hy⟩ := List.mem_flatMap.mp hy
  unfold mulT at hy
  obtain ⟨u, hu, rfl⟩ := List.mem_map.mp hy
  rw [look_of] at hu
  cases g : lookT F x.1 with
  | none =>
    rw [g] at hu
    rw [List.mem_singleton.mp hu] at e
    exact h x hx e
  | some f =>
    rw [g] at hu
    obtain ⟨z', m⟩ := lookT_mem g
    exact ((hF _ m).ok u hu).1.ne0 e
def sp_law_put (_ : PySem.W.Frag) : Sp := fun vs H Q _ => ∃ (a d : Addr) (n q : Int) (ts : List Tr) (F : List Fm), vs = [.ref a, .ref d, .int q] ∧ FrmV H (.ref a) n ts ∧ DF H d F ∧ (∀ x ∈ ts, x.1 ≠ Str.ofString "" ∧ 0 ≤ x.2 ∧ x.2 ≤ 1000) ∧ ts.length ≤ 6 ∧ (∀ x ∈ F, TermsOk q x.2.2 ∧ x.2.2.length ≤ 6) ∧ (2 ≤ q ∧ q ≤ 997) ∧
  ∀ (c : Addr) (rs : List Tr) (H' : Hp), Same H H' → FrmV H' (.ref c) ((n + putN F ts) % q) rs → Canon q (putP F ts) rs → Q (.ref c) H'
theorem putE_len {F : List Fm} (hF : ∀ x ∈ F, x.2.2.length ≤ 6) : ∀ ts : List Tr, (ts.map (putE F)).flatten.length ≤ 7 * ts.length
  | [] => Nat.le_refl _
  | x :: ts => by
    have ih := putE_len hF ts
    have l : (putE F x).length ≤ 7 := by
      unfold putE
      cases g : lookT F x.1 with
      | none => show 1 ≤ 7; omega
      | some f =>
        obtain ⟨z', m⟩ := lookT_mem g
        have : f.2.length ≤ 6 := hF _ m
        show (mulT x.2 f.2).length + 1 ≤ 7
        rw [mulT_len]; omega
    rw [List.map_cons, List.flatten_cons, List.length_append, List.length_cons]
    omega
def PutI (H H' : Hp) (lt : Addr) (n : Int) (F : List Fm) (ts : List Tr) (i : Nat) : Prop := Same H H' ∧ ∃ ds : List Addr, H' lt = some (.lst (ds.map V.ref)) ∧ ds.length = i + 1 ∧
  ∀ (j : Nat) (c : Addr), ds[j]? = some c → ∃ D, ([(Str.ofString "", n)] :: (ts.take i).map (putE F))[j]? = some D ∧ H' c = some (.dK (encT D)) ∧ (D.map fun x : Tr => x.1).Nodup
theorem PutI.step {H H3 H4 : Hp} {lt c : Addr} {n : Int} {F : List Fm} {ts : List Tr} {i : Nat} {x : Tr} (h : PutI H H3 lt n F ts i) (hlt0 : H lt = none) (e : ts[i]? = some x) (s4 : Same H3 H4) (e4 : H4 c = some (.dK (encT (putE F x)))) (nd : ((putE F x).map fun x : Tr => x.1).Nodup)
    {xs : List V} (ex : H4 lt = some (.lst xs)) : PutI H (upd H4 lt (.lst (xs ++ [.ref c]))) lt n F ts (i + 1) := by
  obtain ⟨sm, ds, eds, lds, hds⟩ := h
  have e5 := (s4 _ _ eds).symm.trans ex
  injection e5 with e5
  injection e5 with e5
  subst e5
  have il := (List.getElem?_eq_some_iff.mp e).1
  refine ⟨fun b o eb => hl_set (ne_of_none eb hlt0) (s4 _ _ (sm _ _ eb)), ds ++ [c], by rw [upd_same, List.map_append]; rfl, by simp [lds], fun j c' ec => ?_⟩
  have tk : ([(Str.ofString "", n)] :: (ts.take (i + 1)).map (putE F)) = ([(Str.ofString "", n)] :: (ts.take i).map (putE F)) ++ [putE F x] := by
    rw [List.take_succ, e, List.map_append]; rfl
  have ll : ([(Str.ofString "", n)] :: (ts.take i).map (putE F)).length = ds.length := by
    rw [List.length_cons, List.length_map, List.length_take, lds]; omega
  rw [tk]
  have off : ∀ (b : Addr) (D : List Tr), H4 b = some (.dK (encT D)) → upd H4 lt (.lst (ds.map V.ref ++ [V.ref c])) b = some (.dK (encT D)) := fun b D eb => hl_set (fun z => by rw [z, ex] at eb; cases eb) eb
  by_cases lt2 : j < ds.length
  · rw [List.getElem?_append_left lt2] at ec
    rw [List.getElem?_append_left (by rw [ll]; exact lt2)]
    obtain ⟨D, d1, d2, d3⟩ := hds j c' ec
    exact ⟨D, d1, off _ _ (s4 _ _ d2), d3⟩
  · rw [List.getElem?_append_right (by omega)] at ec
    rw [List.getElem?_append_right (by rw [ll]; omega), ll]
    cases hj : j - ds.length with
    | zero =>
      rw [hj] at ec
      obtain rfl : c = c' := Option.some.inj ec
      exact ⟨_, rfl, off _ _ e4, nd⟩
    | succ m => rw [hj] at ec; simp at ec
section
variable {P : Program} {w : World} {K : PySem.W.Frag} {mg : Str → Option Value} {base : Heap}
theorem ok_law_put (T : Tx K mg) {f_law_owed : Addr} {fd_law_owed : FuncData} (C_law_owed : Cal P w K mg base "_law_owed" 1 ["tables", "q"] (sp_law_owed K) s_law_owed f_law_owed fd_law_owed) {f_law_table : Addr} {fd_law_table : FuncData} (C_law_table : Cal P w K mg base "_law_table" 1 ["lot", "times"] (sp_law_table K) s_law_table f_law_table fd_law_table) {f : Addr} {fd : FuncData} (F : Here K mg "_law_put" s_law_put ["lot", "lots", "q"] f fd) : Cal P w K mg base "_law_put" 2 ["lot", "lots", "q"] (sp_law_put K) s_law_put f fd := by
  refine F.cal sc_law_put (fun vs H Q E h => ?_) (fun cdv A outer s H vs Q E hr h => ?_)
  · obtain ⟨a, d, n, q, ts, F, rfl, _⟩ := h
    rfl
  · obtain ⟨a, d, n, q, ts, F, rfl, ⟨a, b, us, e1, ha, hb, hts⟩, ⟨kvs, hd, lF, hF⟩, ht, lts, okF, hq, fin⟩ := h
    cases e1
    have lus : us.length ≤ 6 := by rw [hts.1]; exact lts
    refine ⟨_, (pss_cons (ps_set (i := 3) sc_law_put.nd rfl (by first | exact .inl rfl | exact .inr rfl) (pe_lst (pa_cons (pe_disp (pps_cons pe_str (pe_ix (ix_tupK (K := K)) (pv 0) pe_int (fun _ _ => rfl)) pps_nil) (by rfl) (by rfl) (fun z => by cases z) (by decide)) pa_nil)))
      (pss_cons (ps_for PassesOwn.never rfl (pi_tupK (K := K) (pe_ix (ix_tupK (K := K)) (pv 0) pe_int (fun _ _ => rfl))) (castPG (K := K) (n := 2) (pg_tup rfl (pgs_cons (pg_name (i := 4) sc_law_put.nd rfl (by first | exact .inl rfl | exact .inr rfl)) (pgs_cons (pg_name (i := 5) sc_law_put.nd rfl (by first | exact .inl rfl | exact .inr rfl)) pgs_nil)))) (pss_one (ps_expr (castBM (K := K) (pe_bm PySem.F.plainAttrs_list PySem.F.slot_list_append PySem.F.type_list_append mt_append (pv 3) (pa_cons (pe_ifExp (pt_cmp (pc_din (hu_of hr) (pv 4) (pv 1))) (pe_call C_law_table.ok (hr.mono (by decide)) (by rfl) C_law_table.at_ C_law_table.kp C_law_table.b .nil pass0 (pa_cons (pe_dget (hu_of hr) (pv 1) (pv 4) (fun _ _ => rfl)) (pa_cons (pv 5) pa_nil))) (pe_disp (pps_cons (pv 4) (pv 5) pps_nil) (by rfl) (by rfl) (fun z => by cases z) (by decide))) pa_nil))))))
      (pss_one (ps_ret (pe_call C_law_owed.ok (hr.mono (by decide)) (by rfl) C_law_owed.at_ C_law_owed.kp C_law_owed.b .nil pass0 (pa_cons (pv 3) (pa_cons (pv 2) pa_nil))))))), ?_⟩
    walk_at "st"
    intro d0 hd0
    have S1 : Same H (upd H d0 (.dK [])) := Same.upd_new hd0
    have ha1 := S1 _ _ ha
    walk_at "st"
    have S2 : Same H (upd (upd H d0 (.dK [])) d0 (.dK (encT [(Str.ofString "", n)]))) := fun b o e => hl_set (ne_of_none e hd0) (S1 _ _ e)
    have e0 : upd (upd H d0 (.dK [])) d0 (.dK (encT [(Str.ofString "", n)])) d0 = some (.dK (encT [(Str.ofString "", n)])) := upd_same
    generalize upd (upd H d0 (.dK [])) d0 (.dK (encT [(Str.ofString "", n)])) = H1 at *
    intro lt hlt
    have ha2 := hl_new (S2 _ _ ha) hlt (u := .lst [V.ref d0])
    have hb2 := hl_new (S2 _ _ hb) hlt (u := .lst [V.ref d0])
    have hlt0 : H lt = none := S2.free hlt
    walk_at "st"
    refine lp_by (walk_tup (xs := us)) (fun i σ' H' => ∃ x4 x5, σ' = [some (.ref a), some (.ref d), some (.int q), some (.ref lt), x4, x5] ∧ PutI H H' lt n F ts i)
      ⟨none, none, rfl, S2.trans (Same.upd_new hlt), [d0], upd_same, rfl, fun j c e => ?_⟩ (fun i σ' H' _ g => ?_) (fun i x σ' H2 H3 hi g y => ?_) (fun σ' H2 g => ?_)
    · cases j with
      | zero =>
        obtain rfl : d0 = c := Option.some.inj e
        exact ⟨_, rfl, hl_new e0 hlt, by simp⟩
      | succ j => simp at e
    · obtain ⟨_, _, _, sm, _⟩ := g
      exact SqT.of (sm _ _ hb)
    · obtain ⟨x4, x5, rfl, I⟩ := g
      obtain ⟨rfl, ex⟩ := y
      obtain ⟨⟨z, k⟩, ez, t, rfl, htt⟩ := hts.2 i x ex
      have sm := I.1
      obtain ⟨ds, eds, lds, _⟩ := I.2
      have ht2 := sm _ _ htt
      have hd2 := sm _ _ hd
      have hk : z ≠ Str.ofString "" ∧ 0 ≤ k ∧ k ≤ 1000 := ht _ (List.mem_of_getElem? ez)
      have ldm : (ds.map V.ref).length < sizeLine := by rw [List.length_map, lds]; exact Nat.lt_of_lt_of_le (show i + 1 < 10 by omega) (by decide)
      walk_at "st"
      have hF2 := fun i e he => (hF i e he).imp fun _ z => And.intro z.1 (And.intro z.2.1 (z.2.2.to (Tups.same sm)))
      rcases df_getT (z := z) lF hF2 with ⟨v1, v2⟩ | ⟨v, f, v1, v2, hv⟩
      · rw [v1]
        have eE : putE F (z, k) = [(z, k)] := by unfold putE; rw [v2]
        refine r_iteB (fun h => by cases h) (fun _ => ?_)
        walk_at "st"
        intro c hc
        walk_at "st"
        have s4 : Same H3 (upd (upd H3 c (.dK [])) c (.dK (encT [(z, k)]))) := fun b o e => hl_set (ne_of_none e hc) (hl_new e hc)
        have ec : upd (upd H3 c (.dK [])) c (.dK (encT [(z, k)])) c = some (.dK (encT [(z, k)])) := upd_same
        have el := s4 _ _ eds
        generalize upd (upd H3 c (.dK [])) c (.dK (encT [(z, k)])) = H4 at *
        walk_at "st"
        exact ⟨_, _, rfl, I.step hlt0 ez s4 (by rw [eE]; exact ec) (by rw [eE]; simp) el⟩
      · rw [v1]
        refine r_iteB (fun _ => ?_) (fun h => by cases h)
        obtain ⟨z', mF⟩ := lookT_mem v2
        have okf := okF _ mF
        have okf1 : TermsOk q f.2 := okf.1
        have okf2 : f.2.length ≤ 6 := okf.2
        have eE : putE F (z, k) = (Str.ofString "", f.1 * k) :: mulT k f.2 := by unfold putE; rw [v2]
        walk_at "st"
        refine ⟨d, v, rfl, by have := DGet.k (k := Sum.inr z) hd2; rw [v1] at this; exact this, ?_⟩
        walk_at "st"
        obtain ⟨va, vb, vus, rfl, g1, g2, g3⟩ := hv
        refine ⟨va, f.1, k, f.2, rfl, ⟨va, vb, vus, rfl, g1, g2, g3⟩, okf1.keys, by omega, by omega, fun c H4 s4 hc ec => ?_⟩
        have el := s4 _ _ eds
        walk_at "st"
        exact ⟨_, _, rfl, I.step hlt0 ez s4 (by rw [eE]; exact ec) (by
          rw [eE, List.map_cons]
          have := okf1.keys
          unfold mulT
          rw [List.map_map]; exact this) el⟩
    · obtain ⟨x4, x5, rfl, I⟩ := g
      obtain ⟨sm, ds, eds, lds, hds⟩ := I
      rw [List.take_of_length_le (by rw [hts.1]; exact Nat.le_refl _)] at hds
      have tot := putE_len (F := F) (fun x m => (okF x m).2) ts
      have nm := putE_all (F := F) (fun x m => (okF x m).1) (ts := ts) fun x m => (ht x m).1
      have fl : ([(Str.ofString "", n)] :: ts.map (putE F)).flatten = (Str.ofString "", n) :: (ts.map (putE F)).flatten := rfl
      walk_at "st"
      refine ⟨lt, q, ds, [(Str.ofString "", n)] :: ts.map (putE F), rfl, eds, by rw [lds, List.length_cons, List.length_map, hts.1], hds, by rw [fl, List.length_cons]; omega, by rw [List.length_cons, List.length_map]; omega, hq, fun c rs H4 s4 hf hc => ?_⟩
      rw [fl] at hf hc
      have en : coef ((Str.ofString "", n) :: (ts.map (putE F)).flatten) (Str.ofString "") = n + putN F ts := by rw [coef_cons, if_pos rfl, nm.1]
      rw [en] at hf
      refine fin c rs H4 (sm.trans s4) hf (hc.congr fun z => ?_)
      rw [coef_filter]
      by_cases d : z = Str.ofString ""
      · rw [if_pos d, d, putP_ne (fun x m => (okF x m).1) fun x m => (ht x m).1]
      · rw [if_neg d, coef_cons, if_neg fun e => d e.symm, nm.2 z d, Int.zero_add]
end
/-! ### repr of a list of data, where nothing is being shown -/
def rRepr (K : PySem.W.Frag) : List V → Hp → VK → Prop := fun xs H Q => ∃ (a : Addr) (d : PyData), xs = [.ref a] ∧ Dp K H (.ref a) d ∧ d.showable = true ∧ d.hasDict = false ∧ d.depth ≤ 40 ∧ d.shown.length ≤ sizeLine ∧ Q (.str d.shown) H
theorem cr_repr {X : Cx} (hg : X.A.guards = some []) (hu : X.A.units + 64 < cLine) : CallR X (.builtin "repr") (rRepr X.K) := by
  intro pins s σ H xs us Q I r h
  obtain ⟨a, d, rfl, hd, sh, nd, dep, sz, q⟩ := h
  rw [Vals.ref1 r]
  obtain ⟨as, rr⟩ := Dp.reads I d _ _ hd (show L2.RelV (.ref a) (Value.ref a) from rfl)
  exact repr_of_reads' rr sh (fun z => by rw [nd] at z; cases z) hg (by omega) (fun _ _ e => e) (fun h' u tk kp => ⟨.str _, H, I.kept kp, ⟨_, rfl⟩, q⟩) sz
theorem cr_reprK {X : Cx} {K : PySem.W.Frag} (hg : X.A.guards = some []) (hu : X.A.units + 64 < cLine) (q : X.K = K := by rfl) : CallR X (.builtin "repr") (rRepr K) := q ▸ cr_repr hg hu
def show2 (b1 b2 : Bool) : Str := PyData.shown (.list [.bool b1, .bool b2])
def show4 (b1 b2 b3 b4 : Bool) : Str := PyData.shown (.list [.bool b1, .bool b2, .bool b3, .bool b4])
theorem show2_len (b1 b2 : Bool) : (show2 b1 b2).length ≤ sizeLine := by cases b1 <;> cases b2 <;> decide +kernel
theorem show4_len (b1 b2 b3 b4 : Bool) : (show4 b1 b2 b3 b4).length ≤ sizeLine := by cases b1 <;> cases b2 <;> cases b3 <;> cases b4 <;> decide +kernel
section
variable {K : PySem.W.Frag} {H : Hp} {Q : VK}
theorem r_repr2 {a : Addr} {b1 b2 : Bool} (h : SqL K H a [.bl b1, .bl b2]) (q : Q (.str (show2 b1 b2)) H) : rRepr K [.ref a] H Q :=
  ⟨a, _, rfl, .lst h (.cons (.bl b1) (.cons (.bl b2) .nil)), rfl, rfl, Nat.le_of_ble_eq_true rfl, show2_len b1 b2, q⟩
theorem r_repr4 {a : Addr} {b1 b2 b3 b4 : Bool} (h : SqL K H a [.bl b1, .bl b2, .bl b3, .bl b4]) (q : Q (.str (show4 b1 b2 b3 b4)) H) : rRepr K [.ref a] H Q :=
  ⟨a, _, rfl, .lst h (.cons (.bl b1) (.cons (.bl b2) (.cons (.bl b3) (.cons (.bl b4) .nil)))), rfl, rfl, Nat.le_of_ble_eq_true rfl, show4_len b1 b2 b3 b4, q⟩
end
/-! ### calls of defs that run while nothing is being shown -/
structure CalG (P : Program) (w : World) (K : PySem.W.Frag) (mg : Str → Option Value) (base : Heap) (x : Str) (k : Nat) (ps : List Str) (sp : Sp) (st : Stmt) (f : Addr) (fd : FuncData) : Prop where
  ok : FnG P w K mg base k f fd ps sp
  at_ : mg x = some (.ref f)
  kp : PySem.W.keepIn K (.ref f) = true
  b : Binds K fd ps []
  fn : Fun K x x st f fd
section
variable {P : Program} {w : World} {K : PySem.W.Frag} {mg : Str → Option Value} {base : Heap}
theorem Here.calG {x : Str} {st : Stmt} {ps N : List Str} {f : Addr} {fd : FuncData} {k : Nat} {sp : Sp} (F : Here K mg x st ps f fd) (S : FnScope N ps (defScope st)) (len : ∀ vs H Q E, sp vs H Q E → vs.length = ps.length)
    (hbody : ∀ (cdv : Value) (A : Around) (outer : List Env) (s : Shared) (H : Hp) (vs : List V) (Q : VK) (E : XK), A.guards = some [] → Room k (A.deeper (envOfC x (defScope st) s.heap.objs.size f cdv)) → sp vs H Q E →
      ∃ t, PSs (cxOf CX0 P w K mg base N x (defScope st) f cdv A outer s H E).nox (defBody st) t ∧ t { nx := fun _ H' => Q .non H', rt := Q } (L2.start N vs) H) : CalG P w K mg base x (k + 1) ps sp st f fd :=
  ⟨fnG_of F.fn S len hbody, F.at_, F.fn.kp, F.b, F.fn⟩
end
section
variable {X : Cx} {k : Nat} {f : Addr} {fd : FuncData} {ps : List Str} {ds : List Value} {dvs : List V} {sp : Sp} {E : XK}
theorem run_g {pins : List (Addr × Obj)} {σ : L2.St} {H : Hp} {s : Shared} {Q : VK} {us : List Value} {vs : List V} (F : FnG X.prog X.w X.K X.mg X.base k f fd ps sp) (hg : X.A.guards = some []) (hr : Room k X.A) (hb : Binds X.K fd ps ds) (hd : Vals dvs ds) (hx : Passes CX0 X E)
    (I : Inv X pins σ H s) (r : Vals vs us) (h : sp (vs ++ dvs) H Q E) : wpAny (model X.prog X.w) X.A (call (.ref f) us) (EP X pins σ Q) X.xe s := by
  have both : Vals (vs ++ dvs) (us ++ ds) := r.append hd
  have hl : (us ++ ds).length = ps.length := by rw [← both.length]; exact F.len _ _ _ _ h
  have run := F.run X.A X.stack s H ⟨us, []⟩ (us ++ ds) (vs ++ dvs) Q E hg hr I.env0 (hb s us I.kIn hl) both h
  refine wpAny_call (codeAny_mono run fun o s' z => ?_)
  match o, z with
  | .error e, z => exact hx pins σ H s e s' I z
  | .ok (.ret u), z => exact I.after z
  | .ok .next, z => exact z.elim
  | .ok .brk, z => exact z.elim
  | .ok .cont, z => exact z.elim
theorem pe_callG {x : Str} {p pos : Pos} {e : Expr} {es : List Expr} {t : TA} (F : FnG X.prog X.w X.K X.mg X.base k f fd ps sp) (hga : X.A.guards = some []) (hr : Room k X.A) (hg : Gl X x) (hm : X.mg x = some (.ref f)) (hk : PySem.W.keepIn X.K (.ref f) = true) (hb : Binds X.K fd ps ds) (hd : Vals dvs ds)
    (hx : Passes CX0 X E) (ha : PA X (e :: es) t) (hdb : (x == ("__debug__" : Str)) = false := by decide) (he : starEach (e :: es) X.env = (false, eval e X.env) :: starEach es X.env := by rfl) (hpl : (backTo pos (starEach es X.env)).any (·.1) = false := by rfl) :
    PE X (.Call (.Name x p) (e :: es) [] pos) (tCall sp dvs E t) := by
  refine ⟨fun pins s σ H Q I h => wpAny_Call_Name_kw (ld_glob I hg hm ?_ hdb)⟩
  refine PySem.W.callWith_K (h₀ := X.base) I.ok.mod.kin hk (thn (ha.run pos pins s σ H _ I h) fun us s1 z => ?_) he hpl
  obtain ⟨vs, H1, I1, r, q⟩ := z
  exact ⟨I1.kIn, run_g F hga hr hb hd hx I1 r q⟩
end
/-! ### forms as data: compared, shown -/
theorem eqvAll_map {α : Type} [DecidableEq α] {g : α → PyData} (h : ∀ x y, PyData.eqv (g x) (g y) = decide (x = y)) : ∀ a b : List α, PyData.eqvAll (a.map g) (b.map g) = decide (a = b)
  | [], [] => by simp [PyData.eqvAll]
  | [], y :: b => by simp [PyData.eqvAll]
  | x :: a, [] => by simp [PyData.eqvAll]
  | x :: a, y :: b => by
    rw [List.map_cons, List.map_cons, PyData.eqvAll, h, eqvAll_map h a b]
    simp [List.cons.injEq]
theorem canLay_all {ds : List PyData} (h : ∀ d ∈ ds, d.canLay0 = true) : PyData.canLayAll0 ds = true := by
  induction ds with
  | nil => rw [PyData.canLayAll0]
  | cons d ds ih => rw [PyData.canLayAll0, h d List.mem_cons_self, ih fun e m => h e (List.mem_cons_of_mem _ m)]; rfl
theorem depth_all {ds : List PyData} {n : Nat} (h : ∀ d ∈ ds, d.depth ≤ n) : PyData.depthAll ds ≤ n := by
  induction ds with
  | nil => rw [PyData.depthAll]; exact Nat.zero_le _
  | cons d ds ih => rw [PyData.depthAll]; exact Nat.max_le.mpr ⟨h d List.mem_cons_self, ih fun e m => h e (List.mem_cons_of_mem _ m)⟩
theorem weight_all {ds : List PyData} {n : Nat} (h : ∀ d ∈ ds, d.weight ≤ n) : PyData.weightAll ds ≤ (n + 1) * ds.length := by
  induction ds with
  | nil => rw [PyData.weightAll]; exact Nat.zero_le _
  | cons d ds ih =>
    rw [PyData.weightAll, List.length_cons, Nat.mul_add]
    have := h d List.mem_cons_self
    have := ih fun e m => h e (List.mem_cons_of_mem _ m)
    omega
theorem show_all {ds : List PyData} (h : ∀ d ∈ ds, d.showable = true) : PyData.showableAll ds = true := by
  induction ds with
  | nil => rw [PyData.showableAll]
  | cons d ds ih => rw [PyData.showableAll, h d List.mem_cons_self, ih fun e m => h e (List.mem_cons_of_mem _ m)]; rfl
theorem short_all {ds : List PyData} (h : ∀ d ∈ ds, d.intsShort 13 = true) : PyData.intsShortAll 13 ds = true := by
  induction ds with
  | nil => rw [PyData.intsShortAll]
  | cons d ds ih => rw [PyData.intsShortAll, h d List.mem_cons_self, ih fun e m => h e (List.mem_cons_of_mem _ m)]; rfl
/-- what is wanted of data that is compared and shown -/
structure Nice (m W : Nat) (d : PyData) : Prop where
  lay : d.canLay0 = true
  depth : d.depth ≤ m
  weight : d.weight ≤ W
  sh : d.showable = true
  short : d.intsShort 13 = true
theorem ints_nice : ((List.range 1000).all fun n => decide ((PyData.shown (.int n)).length ≤ 13) && decide (((n : Int)).natAbs.log2 < 1920) && decide ((PyData.int n).weight ≤ 40)) = true := by decide +kernel
theorem Nice.int {i : Int} (h0 : 0 ≤ i) (h1 : i < 1000) : Nice 0 40 (.int i) := by
  obtain ⟨n, rfl⟩ : ∃ n : Nat, i = n := ⟨i.toNat, by omega⟩
  have := List.all_eq_true.mp ints_nice n (List.mem_range.mpr (by omega))
  simp only [Bool.and_eq_true, decide_eq_true_eq] at this
  refine ⟨by rw [PyData.canLay0], by rw [PyData.depth]; exact Nat.le_refl _, this.2, by rw [PyData.showable]; exact decide_eq_true this.1.2, by rw [PyData.intsShort]; exact decide_eq_true this.1.1⟩
theorem signs_ok : signsL.all (fun c => decide (c < 0x110000)) = true := by decide +kernel
theorem Nice.str {z : Str} (h : goodW (cs z)) : Nice 0 40 (.str z) := by
  refine ⟨?_, by rw [PyData.depth]; exact Nat.le_refl _, ?_, by rw [PyData.showable], by rw [PyData.intsShort]⟩
  · rw [PyData.canLay0]
    unfold PyData.strOk
    rw [← Array.all_toList]
    exact List.all_eq_true.mpr fun c m => decide_eq_true (of_decide_eq_true (List.all_eq_true.mp signs_ok c (h.2.2.2 c m)))
  · rw [PyData.weight]
    have := h.2.1
    rw [cs_len] at this
    exact this
theorem Nice.tup {m W n : Nat} {ds : List PyData} (h : ∀ d ∈ ds, Nice m W d) (l : ds.length ≤ n) : Nice (m + 1) ((W + 1) * n) (.tuple ds) := by
  have wa := weight_all fun d k => (h d k).weight
  refine ⟨by rw [PyData.canLay0]; exact canLay_all fun d k => (h d k).lay, by rw [PyData.depth]; exact Nat.succ_le_succ (depth_all fun d k => (h d k).depth), ?_, by rw [PyData.showable]; exact show_all fun d k => (h d k).sh, by rw [PyData.intsShort]; exact short_all fun d k => (h d k).short⟩
  rw [PyData.weight]
  exact Nat.le_trans wa (Nat.mul_le_mul (Nat.le_refl _) l)
theorem Nice.lst {m W n : Nat} {ds : List PyData} (h : ∀ d ∈ ds, Nice m W d) (l : ds.length ≤ n) : Nice (m + 1) ((W + 1) * n) (.list ds) := by
  have wa := weight_all fun d k => (h d k).weight
  refine ⟨by rw [PyData.canLay0]; exact canLay_all fun d k => (h d k).lay, by rw [PyData.depth]; exact Nat.succ_le_succ (depth_all fun d k => (h d k).depth), ?_, by rw [PyData.showable]; exact show_all fun d k => (h d k).sh, by rw [PyData.intsShort]; exact short_all fun d k => (h d k).short⟩
  rw [PyData.weight]
  exact Nat.le_trans wa (Nat.mul_le_mul (Nat.le_refl _) l)
theorem Nice.up {m n W X : Nat} {d : PyData} (h : Nice m W d) (l : m ≤ n) (k : W ≤ X) : Nice n X d :=
  ⟨h.lay, Nat.le_trans h.depth l, Nat.le_trans h.weight k, h.sh, h.short⟩
def trD (x : Tr) : PyData := .tuple [.str x.1, .int x.2]
def frmD (n : Int) (ts : List Tr) : PyData := .tuple [.int n, .tuple (ts.map trD)]
theorem frm_nice {q n : Int} {ts : List Tr} (h : FormOk q n ts) (hq : q ≤ 997) (l : ts.length < 64) : Nice 3 11000 (frmD n ts) := by
  refine (Nice.tup (m := 2) (W := 5313) (n := 2) (fun d m => ?_) (by simp)).up (Nat.le_refl _) (by decide)
  rcases List.mem_cons.mp m with rfl | m
  · exact (Nice.int h.num.1 (by have := h.num.2; omega)).up (by decide) (by decide)
  · rw [List.mem_singleton.mp m]
    refine (Nice.tup (m := 1) (W := 82) (n := 64) (fun d m => ?_) (by rw [List.length_map]; omega)).up (Nat.le_refl _) (by decide)
    obtain ⟨x, hx, rfl⟩ := List.mem_map.mp m
    have g := h.ok.ok x hx
    refine Nice.tup (m := 0) (W := 40) (n := 2) (fun d m => ?_) (by simp)
    rcases List.mem_cons.mp m with rfl | m
    · exact Nice.str g.1
    · rw [List.mem_singleton.mp m]; exact Nice.int (by omega) (by omega)
theorem Nice.shaped {m W : Nat} {d : PyData} (h : Nice m W d) (l : m ≤ 64) : SeqAt.shaped d = true := by
  unfold SeqAt.shaped
  rw [h.lay, Bool.true_and]
  exact decide_eq_true (Nat.le_trans h.depth l)
theorem Nice.shown {d : PyData} (h : Nice 3 11000 d) : d.showable = true ∧ d.hasDict = false ∧ d.depth ≤ 40 ∧ d.shown.length ≤ sizeLine := by
  refine ⟨h.sh, PyData.hasDict_of_canLay d h.lay, Nat.le_trans h.depth (by decide), ?_⟩
  have hl : PyData.layable0 d = true := by
    unfold PyData.layable0
    rw [h.lay, decide_eq_true (show d.depth ≤ 64 from Nat.le_trans h.depth (by decide)), decide_eq_true (show d.weight ≤ 2 ^ 20 from Nat.le_trans h.weight (by decide))]; rfl
  exact Nat.le_trans (PyProof.Rows.shown_le13 hl h.short) (by decide)
theorem eqv_frm (n m : Int) (a b : List Tr) : PyData.eqv (frmD n a) (frmD m b) = decide (n = m ∧ a = b) := by
  unfold frmD
  rw [PyData.eqv, PyData.eqvAll, PyData.eqvAll, PyData.eqvAll, PyData.eqv, PyData.eqv, eqvAll_map (g := trD) (fun x y => ?_) a b]
  · by_cases c : n = m <;> by_cases d : a = b <;> simp [c, d]
  · unfold trD
    obtain ⟨x1, x2⟩ := x
    obtain ⟨y1, y2⟩ := y
    rw [PyData.eqv, PyData.eqvAll, PyData.eqvAll, PyData.eqvAll, PyData.eqv, PyData.eqv]
    by_cases c : x1 = y1 <;> by_cases d : x2 = y2 <;> simp [c, d]
theorem DpAll.trs {K : PySem.W.Frag} {H : Hp} : ∀ {us : List V} {ts : List Tr}, Trs H us ts → DpAll K H us (ts.map trD)
  | [], [], _ => .nil
  | [], _ :: _, h => by have := h.1; simp at this
  | _ :: _, [], h => by have := h.1; simp at this
  | u :: us, x :: ts, h => by
    obtain ⟨y, e, t, rfl, ht⟩ := h.2 0 u rfl
    obtain rfl : x = y := Option.some.inj e
    exact .cons (.tup (SqT.of ht) (.cons (.str _) (.cons (.int _) .nil))) (DpAll.trs ⟨by have := h.1; simp at this; exact this, fun i v e => h.2 (i + 1) v (by simpa using e)⟩)
theorem Dp.frm {K : PySem.W.Frag} {H : Hp} {v : V} {n : Int} {ts : List Tr} (h : FrmV H v n ts) : Dp K H v (frmD n ts) := by
  obtain ⟨a, b, us, rfl, h1, h2, h3⟩ := h
  exact .tup (SqT.of h1) (.cons (.int n) (.cons (.tup (SqT.of h2) (DpAll.trs h3)) .nil))
theorem op_eqDK {X : Cx} {K : PySem.W.Frag} (hu : X.A.units + 64 < cLine) (q : X.K = K := by rfl) : OpR X (compareOp .Eq) (rEqD K) := q ▸ op_eqD hu
theorem op_neDK {X : Cx} {K : PySem.W.Frag} (hu : X.A.units + 64 < cLine) (q : X.K = K := by rfl) : OpR X (compareOp .NotEq) (rNeD K) := q ▸ op_neD hu
section
variable {K : PySem.W.Frag} {H : Hp} {Q : VK} {v w : V} {n m q : Int} {a b : List Tr}
theorem r_eqF (h1 : FrmV H v n a) (h2 : FrmV H w m b) (n1 : Nice 3 11000 (frmD n a)) (n2 : Nice 3 11000 (frmD m b)) (k : Q (.bl (decide (n = m ∧ a = b))) H) : rEqD K v w H Q :=
  ⟨_, _, Dp.frm h1, Dp.frm h2, n1.shaped (by decide), n2.shaped (by decide), by rw [eqv_frm]; exact k⟩
theorem r_neF (h1 : FrmV H v n a) (h2 : FrmV H w m b) (n1 : Nice 3 11000 (frmD n a)) (n2 : Nice 3 11000 (frmD m b)) (k : Q (.bl (!decide (n = m ∧ a = b))) H) : rNeD K v w H Q :=
  ⟨_, _, Dp.frm h1, Dp.frm h2, n1.shaped (by decide), n2.shaped (by decide), by rw [eqv_frm]; exact k⟩
theorem r_reprF {x : Addr} (h1 : FrmV H (.ref x) n a) (n1 : Nice 3 11000 (frmD n a)) (k : Q (.str (frmD n a).shown) H) : rRepr K [.ref x] H Q :=
  ⟨x, _, rfl, Dp.frm h1, n1.shown.1, n1.shown.2.1, n1.shown.2.2.1, n1.shown.2.2.2, k⟩
theorem r_reprI2 {x : Addr} {i j : Int} (h1 : H x = some (.lst [.int i, .int j])) (hi : 0 ≤ i ∧ i < 1000) (hj : 0 ≤ j ∧ j < 1000) (k : Q (.str (PyData.list [.int i, .int j]).shown) H) : rRepr K [.ref x] H Q := by
  have n1 : Nice 3 11000 (.list [.int i, .int j]) := (Nice.lst (m := 0) (W := 40) (n := 2) (fun d m => by
    rcases List.mem_cons.mp m with rfl | m
    · exact Nice.int hi.1 hi.2
    · rw [List.mem_singleton.mp m]; exact Nice.int hj.1 hj.2) (by simp)).up (by decide) (by decide)
  exact ⟨x, _, rfl, .lst (SqL.of h1) (.cons (.int i) (.cons (.int j) .nil)), n1.shown.1, n1.shown.2.1, n1.shown.2.2.1, n1.shown.2.2.2, k⟩
end
/-! ### dicts whose values are objects -/
theorem hits_same {A : Around} {s : Shared} {kvs : List (Key × V)} {vb : List (Key × Value)} (rb : KV kvs vb) {ks : List (Key × V)} {va : List (Key × Value)} (ra : KV ks va) :
    (∀ p ∈ ks, valV kvs p.1 = some p.2 ∧ ∃ r, p.2 = V.ref r) → PySem.W.KeqHits A s vb va true := by
  unfold KV at ra
  induction ra with
  | nil => exact fun _ => .nil
  | @cons p q ps qs h t ih =>
    intro hp
    obtain ⟨h1, h2⟩ := h
    obtain ⟨e, r, f⟩ := hp p List.mem_cons_self
    obtain ⟨y, hy, ry⟩ := RelO.some_of (v := p.2) (o := valueAt vb p.1) (by rw [← e]; exact rb.val p.1)
    obtain ⟨k, v⟩ := q
    obtain rfl : p.1 = k := h1
    rw [f] at h2 ry
    obtain rfl : v = Value.ref r := h2
    obtain rfl : y = Value.ref r := ry
    show PySem.W.KeqHits A s vb ((p.1, Value.ref r) :: qs) (true && true)
    exact .hit hy (SeqAt.EqAt.same _) (ih fun p' m => hp p' (List.mem_cons_of_mem _ m))
theorem valV_in {kvs : List (Key × V)} (nd : (kvs.map (·.1)).Nodup) : ∀ p ∈ kvs, valV kvs p.1 = some p.2 := by
  induction kvs with
  | nil => intro p m; cases m
  | cons e kvs ih =>
    intro p m
    rw [List.map_cons] at nd
    have nd2 := List.nodup_cons.mp nd
    rcases List.mem_cons.mp m with rfl | m
    · exact valV_pos rfl
    · rw [valV_neg fun z => nd2.1 (List.mem_map.mpr ⟨p, m, z.symm⟩)]
      exact ih nd2.2 p m
def rNeDR : R2 := fun x y H Q => ∃ a b ks, x = .ref a ∧ y = .ref b ∧ H a = some (.dK ks) ∧ H b = some (.dK ks) ∧ (ks.map (·.1)).Nodup ∧ (∀ p ∈ ks, ∃ r, p.2 = V.ref r) ∧ Q (.bl false) H
theorem op_ne_dictR {X : Cx} (hu : X.A.units < cLine) : OpR X (compareOp .NotEq) rNeDR := by
  intro pins s σ H x y v u Q I rx ry h
  obtain ⟨a, b, ks, rfl, rfl, ea, eb, nd, hp, q⟩ := h
  obtain rfl : v = Value.ref a := rx
  obtain rfl : u = Value.ref b := ry
  obtain ⟨_, ya, va, ra, da⟩ := (show ObjOk X.prog X.w H s.heap a (.dK ks) from I.hok a _ ea)
  obtain ⟨_, yb, vb, rb, db⟩ := (show ObjOk X.prog X.w H s.heap b (.dK ks) from I.hok b _ eb)
  have hl : va.length = vb.length := by rw [← ra.length, ← rb.length]
  exact PySem.W.keq_ne (knd := mixKind X.prog X.w) (r := true) ya yb da db hu (fun _ => hits_same rb ra fun p m => ⟨valV_in nd p m, hp p m⟩) (fin_bl I q (by simp [hl]))
def rDictD : List V → Hp → VK → Prop := fun xs H Q => ∃ (a : Addr) (kvs : List (Key × V)), xs = [.ref a] ∧ Rd H a (.dK kvs) ∧ ∀ p, H p = none → Q (.ref p) (upd H p (.dK kvs))
theorem cr_dictD {X : Cx} : CallR X (.type "dict") rDictD := call_dictD
def rDictP (K : PySem.W.Frag) : List V → Hp → VK → Prop := fun xs H Q => ∃ (a : Addr) (ps : List Addr) (kvs : List (Key × V)), xs = [.ref a] ∧ SqL K H a (ps.map V.ref) ∧ Paired (fun p kv => SqT K H p [kV kv.1, kv.2]) ps kvs ∧
    ∀ p, H p = none → Q (.ref p) (upd H p (.dK (mergeK [] kvs)))
theorem cr_dictP {X : Cx} {K : PySem.W.Frag} (hc : X.calm = true) (q : X.K = K := by rfl) : CallR X (.type "dict") (rDictP K) := q ▸ call_dictP hc
theorem putK_keys (kvs : List (Key × V)) (k : Key) (v : V) : (putK kvs k v).map (fun x : Key × V => x.1) = kvs.map (fun x : Key × V => x.1) ∨ ((putK kvs k v).map (fun x : Key × V => x.1) = kvs.map (fun x : Key × V => x.1) ++ [k] ∧ k ∉ kvs.map (fun x : Key × V => x.1)) := by
  unfold putK
  by_cases c : (kvs.any fun kv => decide (kv.1 = k)) = true
  · left
    rw [if_pos c, List.map_map]
    refine List.map_congr_left fun x _ => ?_
    show (if x.1 = k then (x.1, v) else x).1 = x.1
    by_cases d : x.1 = k
    · rw [if_pos d]
    · rw [if_neg d]
  · right
    rw [if_neg c, List.map_append]
    refine ⟨rfl, fun m => c (List.any_eq_true.mpr ?_)⟩
    obtain ⟨x, hx, e⟩ := List.mem_map.mp m
    exact ⟨x, hx, decide_eq_true e⟩
theorem putK_nodup {kvs : List (Key × V)} (nd : (kvs.map (fun x : Key × V => x.1)).Nodup) (k : Key) (v : V) : ((putK kvs k v).map (fun x : Key × V => x.1)).Nodup := by
  rcases putK_keys kvs k v with e | ⟨e, c⟩
  · rw [e]; exact nd
  · rw [e]
    exact List.nodup_append.mpr ⟨nd, by simp, fun a ha b hb e => c (by rw [List.mem_singleton.mp hb] at e; exact e ▸ ha)⟩
theorem merge_nodup : ∀ (more kvs : List (Key × V)), ((kvs ++ more).map (·.1)).Nodup → mergeK kvs more = kvs ++ more
  | [], kvs, _ => by rw [List.append_nil]; rfl
  | p :: more, kvs, nd => by
    have e : kvs ++ p :: more = (kvs ++ [p]) ++ more := by rw [List.append_assoc]; rfl
    have h1 : putK kvs p.1 p.2 = kvs ++ [p] := by
      rw [putK_new p.2 ?_]
      rw [List.map_append, List.map_cons] at nd
      have nd2 := (List.nodup_append.mp nd).2.2
      cases h : valV kvs p.1 with
      | none => rfl
      | some v =>
        exfalso
        have : (kvs.any fun kv => decide (kv.1 = p.1)) = true := by rw [valV_any, h]; rfl
        obtain ⟨x, m, e2⟩ := List.any_eq_true.mp this
        exact nd2 x.1 (List.mem_map.mpr ⟨x, m, rfl⟩) p.1 List.mem_cons_self (of_decide_eq_true e2)
    show mergeK (putK kvs p.1 p.2) more = _
    rw [h1, e]
    exact merge_nodup more _ (by rw [← e]; exact nd)
/-- the forms that stand under keys -/
def FmsAt (H : Hp) (kvs : List (Key × V)) (F : List Fm) : Prop := kvs.length = F.length ∧ ∀ (i : Nat) (e : Key × V), kvs[i]? = some e → ∃ x, F[i]? = some x ∧ e.1 = Sum.inr x.1 ∧ FrmV H e.2 x.2.1 x.2.2
theorem FmsAt.to {H H' : Hp} {kvs : List (Key × V)} {F : List Fm} (h : FmsAt H kvs F) (k : Tups H H') : FmsAt H' kvs F := ⟨h.1, fun i e he => (h.2 i e he).imp fun _ z => ⟨z.1, z.2.1, z.2.2.to k⟩⟩
theorem FmsAt.refs {H : Hp} {kvs : List (Key × V)} {F : List Fm} (h : FmsAt H kvs F) : ∀ p ∈ kvs, ∃ r, p.2 = V.ref r := fun p m => by
  obtain ⟨i, e⟩ := List.getElem?_of_mem m
  obtain ⟨x, _, _, a, b, us, ev, _⟩ := h.2 i p e
  exact ⟨a, ev⟩
theorem FmsAt.snoc {H : Hp} {kvs : List (Key × V)} {F : List Fm} (h : FmsAt H kvs F) {z : Str} {v : V} {n : Int} {ts : List Tr} (f : FrmV H v n ts) : FmsAt H (kvs ++ [(Sum.inr z, v)]) (F ++ [(z, n, ts)]) :=
  ⟨by rw [List.length_append, List.length_append, h.1]; rfl, fun i e he => by
    by_cases lt : i < kvs.length
    · rw [List.getElem?_append_left lt] at he
      rw [List.getElem?_append_left (by rw [← h.1]; exact lt)]
      exact h.2 i e he
    · rw [List.getElem?_append_right (by omega)] at he
      rw [List.getElem?_append_right (by rw [← h.1]; omega), ← h.1]
      cases hj : i - kvs.length with
      | zero => rw [hj] at he; cases he; exact ⟨_, rfl, rfl, f⟩
      | succ m => rw [hj] at he; simp at he⟩
theorem FmsAt.put {H : Hp} {kvs : List (Key × V)} {F : List Fm} (h : FmsAt H kvs F) (z : Str) {v : V} {n : Int} {ts : List Tr} (f : FrmV H v n ts) : ∃ F', FmsAt H (putK kvs (Sum.inr z) v) F' ∧ ∀ x ∈ F', x ∈ F ∨ x = (z, n, ts) := by
  unfold putK
  by_cases c : (kvs.any fun kv => decide (kv.1 = Sum.inr z)) = true
  · rw [if_pos c]
    refine ⟨F.map fun x => if x.1 = z then (z, n, ts) else x, ⟨by rw [List.length_map, List.length_map]; exact h.1, fun i e he => ?_⟩, fun x m => ?_⟩
    · rw [List.getElem?_map] at he
      cases g : kvs[i]? with
      | none => rw [g] at he; cases he
      | some e0 =>
        rw [g] at he
        have he := Option.some.inj he
        obtain ⟨x, ex, e1, e2⟩ := h.2 i e0 g
        refine ⟨if x.1 = z then (z, n, ts) else x, by rw [List.getElem?_map, ex]; rfl, ?_⟩
        subst he
        show (if e0.1 = Sum.inr z then (e0.1, v) else e0).1 = _ ∧ FrmV H (if e0.1 = Sum.inr z then (e0.1, v) else e0).2 _ _
        by_cases d : x.1 = z
        · rw [if_pos d, if_pos (by rw [e1, d])]
          exact ⟨by rw [e1, d], f⟩
        · rw [if_neg d, if_neg (by rw [e1]; exact fun g => d (Sum.inr.inj g))]
          exact ⟨e1, e2⟩
    · obtain ⟨y, hy, rfl⟩ := List.mem_map.mp m
      by_cases d : y.1 = z
      · rw [if_pos d]; exact .inr rfl
      · rw [if_neg d]; exact .inl hy
  · rw [if_neg c]
    refine ⟨F ++ [(z, n, ts)], h.snoc f, fun x m => ?_⟩
    rcases List.mem_append.mp m with m | m
    · exact .inl m
    · exact .inr (List.mem_singleton.mp m)
local macro_rules | `(tactic| walk_at "ssz") => `(tactic| first | decide | exact str_small (by assumption) | (have : (1000000 : Nat) ≤ sizeLine := (by decide); omega))
local macro_rules | `(tactic| walk_at "st1") => `(tactic| first
  | with_reducible refine' r_nt ?_ | with_reducible refine' r_nf ?_
  | ((with_reducible refine r_lenS ?e1 ?_); (case e1 => walk_at "ssz"))
  | with_reducible refine r_inS ?_
  | with_reducible refine r_ninS ?_
  | ((with_reducible refine r_addS ?e1 ?_); (case e1 => walk_at "ssz"))
  | ((with_reducible refine' r_ixS ?e1 ?e2 ?_); (case e1 => walk_at "ssz"); (case e2 => first | assumption | rfl))
  | with_reducible refine r_istr ?_
  | with_reducible refine r_is ?_
  | with_reducible refine r_un ?_
  | with_reducible refine r_u ?_)
local macro_rules | `(tactic| walk_at "st1") => `(tactic| first
  | with_reducible refine r_par ?_
  | with_reducible refine r_parx ?_
  | ((with_reducible refine' r_gtup ?e1 ?e2 ?_); (case e1 => walk_at "sq"); (case e2 => rfl))
  | with_reducible refine r_gcons ?_
  | with_reducible refine r_gnil ?_
  | with_reducible refine r_disp ?_
  | with_reducible refine r_tp1 ?_
  | with_reducible refine r_tp0 ?_
  | ((with_reducible refine' r_dp1 ?e1 ?_); (case e1 => walk_at "hl"))
  | with_reducible refine r_dnewK ?_
  | with_reducible refine r_dget2 ?_
  | ((with_reducible refine' r_dg2 ?e1 ?_); (case e1 => walk_at "hl"))
  | ((with_reducible refine' r_dg3 ?e1 ?_); (case e1 => walk_at "hl"))
  | with_reducible refine r_dget ?_
  | ((with_reducible refine' r_dgv ?e1 ?e2 ?_); (case e1 => walk_at "hl"); (case e2 => assumption))
  | ((with_reducible refine' r_setD ?e1 ?e2 ?_); (case e1 => walk_at "hl"); (case e2 => omega)))
theorem coef_mulT (k : Int) (ts : List Tr) (z : Str) : coef (mulT k ts) z = coef ts z * k := by
  induction ts with
  | nil => rw [coef_nil]; show coef [] z = _; rw [coef_nil, Int.zero_mul]
  | cons x ts ih =>
    show coef ((x.1, x.2 * k) :: mulT k ts) z = _
    rw [coef_cons, coef_cons, ih, Int.add_mul]
    by_cases c : x.1 = z
    · rw [if_pos c, if_pos c]
    · rw [if_neg c, if_neg c, Int.zero_mul]
theorem tab_num {n k : Int} {ts : List Tr} (h : ∀ x ∈ ts, x.1 ≠ Str.ofString "") : coef ((Str.ofString "", n * k) :: mulT k ts) (Str.ofString "") = n * k := by
  rw [coef_cons, if_pos rfl, coef_mul0 h, Int.add_zero]
theorem tab_term {n k : Int} {ts : List Tr} {z : Str} (h : z ≠ Str.ofString "") : coef ((Str.ofString "", n * k) :: mulT k ts) z = coef ts z * k := by
  rw [coef_cons, if_neg fun e => h e.symm, coef_mulT, Int.zero_add]
theorem TermsOk.ne0 {p : Int} {ts : List Tr} (h : TermsOk p ts) : ∀ x ∈ ts, x.1 ≠ Str.ofString "" := fun x m => (h.ok x m).1.ne0
theorem coef_ne0 {ts : List Tr} (h : ∀ x ∈ ts, x.1 ≠ Str.ofString "") : coef ts (Str.ofString "") = 0 := coef_out fun m => by
  obtain ⟨x, hx, e⟩ := List.mem_map.mp m
  exact h x hx e
theorem Canon.form {p n : Int} {ps ts : List Tr} (hp : 0 < p) (h : Canon p ps ts) (g : ∀ x ∈ ps, goodW (cs x.1)) : FormOk p (n % p) ts := ⟨⟨Int.emod_nonneg _ (by omega), Int.emod_lt_of_pos _ hp⟩, h.ok hp g⟩
theorem mulT_good {k : Int} {ts : List Tr} (h : ∀ x ∈ ts, goodW (cs x.1)) : ∀ x ∈ mulT k ts, goodW (cs x.1) := fun x m => by
  unfold mulT at m
  obtain ⟨y, hy, rfl⟩ := List.mem_map.mp m
  exact h y hy
theorem Canon.len {p : Int} {ps ts : List Tr} (h : Canon p ps ts) : ts.length ≤ ps.length := by
  have sub : ∀ z ∈ ts.map (fun x : Tr => x.1), z ∈ ps.map (fun x : Tr => x.1) := fun z m => by
    obtain ⟨⟨z, k⟩, hx, rfl⟩ := List.mem_map.mp m
    obtain ⟨e, ne⟩ := (h.mem z k).mp hx
    by_cases c : z ∈ ps.map (fun x : Tr => x.1)
    · exact c
    · rw [coef_out c] at e
      exact absurd (by rw [e]; rfl) ne
  have := List.Nodup.length_le_of_subset h.rise.nodup sub
  rw [List.length_map, List.length_map] at this
  exact this
theorem prd_imp {α β : Type} {R S : α → β → Prop} (h : ∀ a b, R a b → S a b) {xs : List α} {ys : List β} (p : Paired R xs ys) : Paired S xs ys := by
  induction p with
  | nil => exact .nil
  | cons q _ ih => exact .cons (h _ _ q) ih
theorem prd_snoc {α β : Type} {R : α → β → Prop} {xs : List α} {ys : List β} {a : α} {b : β} (p : Paired R xs ys) (q : R a b) : Paired R (xs ++ [a]) (ys ++ [b]) := by
  induction p with
  | nil => exact .cons q .nil
  | cons q _ ih => exact .cons q ih
theorem prd_len {α β : Type} {R : α → β → Prop} {xs : List α} {ys : List β} (p : Paired R xs ys) : xs.length = ys.length := by
  induction p with
  | nil => rfl
  | cons _ _ ih => rw [List.length_cons, List.length_cons, ih]
/-- pairs made of some places, in order -/
def PrsI (s c l D : Addr) (zs : List Str) (H0 : Hp) (i : Nat) (H' : Hp) (kvs : List (Key × V)) : Prop := Kp [s, c] H0 H' ∧ St s c H' ∧ H' l = some (.lst (zs.map V.str)) ∧ (∃ ps : List Addr, H' D = some (.lst (ps.map V.ref)) ∧ Paired (fun p kv => H' p = some (.tup [kV kv.1, kv.2])) ps kvs) ∧
  (kvs.map fun x : Key × V => x.1).Sublist ((zs.take i).map Sum.inr)
theorem PrsI.start {s c l D : Addr} {zs : List Str} {H0 : Hp} (st : St s c H0) (hl : H0 l = some (.lst (zs.map V.str))) (hD : H0 D = none) : PrsI s c l D zs H0 0 (upd H0 D (.lst [])) [] :=
  ⟨Kp.new hD, st.new hD, hl_new hl hD, ⟨[], upd_same, .nil⟩, List.Sublist.refl _⟩
/-- nothing is kept in this turn -/
theorem PrsI.skip {s c l D : Addr} {zs : List Str} {H0 H1 H2 : Hp} {i : Nat} {kvs : List (Key × V)} (h : PrsI s c l D zs H0 i H1 kvs) (k : Kp [s, c] H1 H2) (st : St s c H2) (nl : l ∉ [s, c]) (nD : D ∉ [s, c]) : PrsI s c l D zs H0 (i + 1) H2 kvs := by
  obtain ⟨k1, st1, el, ⟨ps, eD, pr⟩, sb⟩ := h
  refine ⟨k1.trans k, st, k _ _ el nl, ⟨ps, k _ _ eD nD, prd_imp (fun _ _ e => Tups.st k st1 _ _ e) pr⟩, sb.trans ?_⟩
  rw [List.take_succ, List.map_append]
  exact List.sublist_append_left _ _
theorem PrsI.keep {s c l D : Addr} {zs : List Str} {H0 H1 H2 : Hp} {i : Nat} {kvs : List (Key × V)} {z : Str} {v : V} {t : Addr} (h : PrsI s c l D zs H0 i H1 kvs) (k : Kp [s, c] H1 H2) (st : St s c H2) (nl : l ∉ [s, c]) (nD : D ∉ [s, c]) (hD0 : H0 D = none) (nlD : l ≠ D) (ez : zs[i]? = some z) (li : i < 60)
    (ht : H2 t = some (.tup [.str z, v])) : ∃ acc, H2 D = some (.lst acc) ∧ acc.length < sizeLine ∧ PrsI s c l D zs H0 (i + 1) (upd H2 D (.lst (acc ++ [.ref t]))) (kvs ++ [(Sum.inr z, v)]) := by
  obtain ⟨k1, st1, el, ⟨ps, eD, pr⟩, sb⟩ := h
  have eD2 := k _ _ eD nD
  have lk : kvs.length ≤ i := by
    have := sb.length_le
    rw [List.length_map, List.length_map, List.length_take] at this
    omega
  refine ⟨_, eD2, by rw [List.length_map, prd_len pr]; exact Nat.lt_of_le_of_lt lk (Nat.lt_of_lt_of_le li (by decide)), (k1.trans k).own hD0, st.set nD, hl_set nlD (k _ _ el nl), ⟨ps ++ [t], by rw [upd_same, List.map_append]; rfl, prd_snoc (prd_imp (fun _ _ e => Tups.lst eD2 _ _ (Tups.st k st1 _ _ e)) pr) (Tups.lst eD2 _ _ ht)⟩, ?_⟩
  rw [List.take_succ, ez, List.map_append, List.map_append]
  exact sb.append (List.Sublist.refl _)
theorem PrsI.nodup {s c l D : Addr} {zs : List Str} {H0 H1 : Hp} {i : Nat} {kvs : List (Key × V)} (h : PrsI s c l D zs H0 i H1 kvs) (nd : zs.Nodup) : (kvs.map fun x : Key × V => x.1).Nodup :=
  List.Nodup.sublist (h.2.2.2.2.trans ((List.take_sublist _ _).map _)) (List.pairwise_map.mpr (nd.imp fun n e => n (Sum.inr.inj e)))
theorem look_len {F : List Fm} (hF : ∀ x ∈ F, x.2.2.length ≤ 6) (z : Str) : (look F z).2.length ≤ 6 := by
  rw [look_of]
  cases g : lookT F z with
  | none => show 1 ≤ 6; omega
  | some f =>
    obtain ⟨z', m⟩ := lookT_mem g
    exact hF _ m
theorem putP_len {F : List Fm} (hF : ∀ x ∈ F, x.2.2.length ≤ 6) : ∀ ts : List Tr, (putP F ts).length ≤ 6 * ts.length
  | [] => Nat.le_refl _
  | x :: ts => by
    have ih := putP_len hF ts
    have l := look_len hF x.1
    unfold putP at ih ⊢
    rw [List.flatMap_cons, List.length_append, mulT_len, List.length_cons]
    omega
theorem putP_good {p : Int} {F : List Fm} (hF : ∀ x ∈ F, TermsOk p x.2.2) {ts : List Tr} (h : ∀ x ∈ ts, goodW (cs x.1)) : ∀ x ∈ putP F ts, goodW (cs x.1) := fun y m => by
  unfold putP at m
  obtain ⟨x, hx, hy⟩ := List.mem_flatMap.mp m
  refine mulT_good (fun u hu => ?_) y hy
  rw [look_of] at hu
  cases g : lookT F x.1 with
  | none =>
    rw [g] at hu
    rw [List.mem_singleton.mp hu]
    exact h x hx
  | some f =>
    rw [g] at hu
    obtain ⟨z', m⟩ := lookT_mem g
    exact ((hF _ m).ok u hu).1
theorem putN_nil : ∀ ts : List Tr, putN [] ts = 0
  | [] => rfl
  | x :: ts => by
    have ih := putN_nil ts
    unfold putN at ih ⊢
    rw [List.map_cons, List.sum_cons, ih]
    show 0 * x.2 + 0 = 0
    omega
theorem putP_nil : ∀ ts : List Tr, putP [] ts = ts
  | [] => rfl
  | x :: ts => by
    have ih := putP_nil ts
    unfold putP at ih ⊢
    rw [List.flatMap_cons, ih]
    show [(x.1, 1 * x.2)] ++ ts = x :: ts
    rw [Int.one_mul]; rfl
def sp_law_right (_ : PySem.W.Frag) : Sp := fun vs H Q _ => ∃ (s c l : Addr) (q : Int) (zs : List Str), vs = [.ref s, .ref l, .int q] ∧ St s c H ∧ H l = some (.lst (zs.map V.str)) ∧ l ∉ [s, c] ∧ zs.Nodup ∧ zs.length ≤ 6 ∧ (∀ z ∈ zs, goodW (cs z)) ∧ (2 ≤ q ∧ q ≤ 997) ∧
  ∀ (H' : Hp), Kp [s, c] H H' → St s c H' → Q (.bl true) H'
section
variable {P : Program} {w : World} {K : PySem.W.Frag} {mg : Str → Option Value} {base : Heap}
theorem ok_law_right (T : Tx K mg) {f_put_in : Addr} {fd_put_in : FuncData} (C_put_in : Cal P w K mg base "put_in" 2 ["form", "forms", "p"] (sp_put_in K) s_put_in f_put_in fd_put_in) {f_law_form : Addr} {fd_law_form : FuncData} (C_law_form : Cal P w K mg base "_law_form" 2 ["state", "places", "q"] (sp_law_form K) s_law_form f_law_form fd_law_form) {f_law_draw : Addr} {fd_law_draw : FuncData} (C_law_draw : Cal P w K mg base "_law_draw" 1 ["state", "many"] (sp_law_draw K) s_law_draw f_law_draw fd_law_draw) {f_worth_of : Addr} {fd_worth_of : FuncData} (C_worth_of : Cal P w K mg base "worth_of" 1 ["form", "worths", "p"] (sp_worth_of K) s_worth_of f_worth_of fd_worth_of) {f_sum_of : Addr} {fd_sum_of : FuncData} (C_sum_of : Cal P w K mg base "sum_of" 2 ["a", "b", "p"] (sp_sum_of K) s_sum_of f_sum_of fd_sum_of) {f_law_owed : Addr} {fd_law_owed : FuncData} (C_law_owed : Cal P w K mg base "_law_owed" 1 ["tables", "q"] (sp_law_owed K) s_law_owed f_law_owed fd_law_owed) {f_times_of : Addr} {fd_times_of : FuncData} (C_times_of : Cal P w K mg base "times_of" 2 ["a", "n", "p"] (sp_times_of K) s_times_of f_times_of fd_times_of) {f_is_form : Addr} {fd_is_form : FuncData} (C_is_form : Cal P w K mg base "is_form" 4 ["thing", "p"] (sp_is_form K) s_is_form f_is_form fd_is_form) {f_law_put : Addr} {fd_law_put : FuncData} (C_law_put : Cal P w K mg base "_law_put" 2 ["lot", "lots", "q"] (sp_law_put K) s_law_put f_law_put fd_law_put) {f_law_table : Addr} {fd_law_table : FuncData} (C_law_table : Cal P w K mg base "_law_table" 1 ["lot", "times"] (sp_law_table K) s_law_table f_law_table fd_law_table) {f : Addr} {fd : FuncData} (F : Here K mg "_law_right" s_law_right ["state", "places", "q"] f fd) : CalG P w K mg base "_law_right" 5 ["state", "places", "q"] (sp_law_right K) s_law_right f fd := by
  refine F.calG sc_law_right (fun vs H Q E h => ?_) (fun cdv A outer s H vs Q E hga hr h => ?_)
  · obtain ⟨s, c, l, q, zs, rfl, _⟩ := h
    rfl
  · obtain ⟨s, c, l, q, zs, rfl, hst, hl, nl, nd, lz, gz, hq, fin⟩ := h
    have q0 : 0 < q := by omega
    refine ⟨_, (pss_cons (ps_par (i := 3) (j := 4) rfl sc_law_right.nd rfl rfl (by decide) rfl rfl (pa_cons (pe_call C_law_form.ok (hr.mono (by decide)) (by rfl) C_law_form.at_ C_law_form.kp C_law_form.b .nil pass0 (pa_cons (pv 0) (pa_cons (pv 1) (pa_cons (pv 2) pa_nil)))) (pa_cons (pe_call C_law_form.ok (hr.mono (by decide)) (by rfl) C_law_form.at_ C_law_form.kp C_law_form.b .nil pass0 (pa_cons (pv 0) (pa_cons (pe_slice (sl_listK (K := K)) (pv 1) (po_some pe_int) po_none) (pa_cons (pv 2) pa_nil)))) pa_nil)) (by rfl))
      (pss_cons (ps_set (i := 5) sc_law_right.nd rfl (by first | exact .inl rfl | exact .inr rfl) (pe_ix (ix_listK (K := K)) (pe_lst (pa_cons pe_int (pa_cons pe_int (pa_cons (pe_un un_neg pe_int) (pa_cons (pv 2) (pa_cons (pe_op op_sub (pe_op op_pow pe_int pe_int) (pe_call C_law_draw.ok (hr.mono (by decide)) (by rfl) C_law_draw.at_ C_law_draw.kp C_law_draw.b .nil pass0 (pa_cons (pv 0) (pa_cons pe_int pa_nil)))) (pa_cons (pe_un un_neg (pe_call C_law_draw.ok (hr.mono (by decide)) (by rfl) C_law_draw.at_ C_law_draw.kp C_law_draw.b .nil pass0 (pa_cons (pv 0) (pa_cons pe_int pa_nil)))) pa_nil))))))) (pe_call C_law_draw.ok (hr.mono (by decide)) (by rfl) C_law_draw.at_ C_law_draw.kp C_law_draw.b .nil pass0 (pa_cons (pv 0) (pa_cons pe_int pa_nil))) (fun _ _ => rfl)))
      (pss_cons (ps_if (pt_cmpR op_ne (pe_callB (cr_reprK (K := K) hga (hu_of64 hr)) (by rfl) T.m_repr (by decide +kernel) (pa_cons (pe_call C_sum_of.ok (hr.mono (by decide)) (by rfl) C_sum_of.at_ C_sum_of.kp C_sum_of.b .nil pass0 (pa_cons (pv 3) (pa_cons (pv 4) (pa_cons (pv 2) pa_nil)))) pa_nil)) (pe_callB (cr_reprK (K := K) hga (hu_of64 hr)) (by rfl) T.m_repr (by decide +kernel) (pa_cons (pe_call C_law_owed.ok (hr.mono (by decide)) (by rfl) C_law_owed.at_ C_law_owed.kp C_law_owed.b .nil pass0 (pa_cons (pe_lst (pa_cons (pe_call C_law_table.ok (hr.mono (by decide)) (by rfl) C_law_table.at_ C_law_table.kp C_law_table.b .nil pass0 (pa_cons (pv 3) (pa_cons pe_int pa_nil))) (pa_cons (pe_call C_law_table.ok (hr.mono (by decide)) (by rfl) C_law_table.at_ C_law_table.kp C_law_table.b .nil pass0 (pa_cons (pv 4) (pa_cons pe_int pa_nil))) pa_nil))) (pa_cons (pv 2) pa_nil))) pa_nil)) (nomark _)) (pss_one (ps_ret pe_bl)) pss_nil)
      (pss_cons (ps_if (pt_cmpR op_ne (pe_callB (cr_reprK (K := K) hga (hu_of64 hr)) (by rfl) T.m_repr (by decide +kernel) (pa_cons (pe_call C_times_of.ok (hr.mono (by decide)) (by rfl) C_times_of.at_ C_times_of.kp C_times_of.b .nil pass0 (pa_cons (pv 3) (pa_cons (pv 5) (pa_cons (pv 2) pa_nil)))) pa_nil)) (pe_callB (cr_reprK (K := K) hga (hu_of64 hr)) (by rfl) T.m_repr (by decide +kernel) (pa_cons (pe_call C_law_owed.ok (hr.mono (by decide)) (by rfl) C_law_owed.at_ C_law_owed.kp C_law_owed.b .nil pass0 (pa_cons (pe_lst (pa_cons (pe_call C_law_table.ok (hr.mono (by decide)) (by rfl) C_law_table.at_ C_law_table.kp C_law_table.b .nil pass0 (pa_cons (pv 3) (pa_cons (pv 5) pa_nil))) pa_nil)) (pa_cons (pv 2) pa_nil))) pa_nil)) (nomark _)) (pss_one (ps_ret pe_bl)) pss_nil)
      (pss_cons (ps_set (i := 6) sc_law_right.nd rfl (by first | exact .inl rfl | exact .inr rfl) (pe_callTy (cr_dictP (K := K) rfl) (by rfl) T.m_dict (by decide +kernel) (pa_cons (pe_lc rfl sc_law_right.nd (pi_listK (K := K) (pv 1)) (blkOk_by (own := [("place", 7)]) (N := ["state", "places", "q", "one", "other", "times", "lots", "place", "kept", "made", "held", "owed", "many", "told"]) (sc := (defScope s_law_right)) (by decide +kernel)) (fun _ _ _ _ _ => (pg_name (i := 7) sc_law_right.nd rfl (by first | exact .inl rfl | exact .inr rfl))) (fun _ _ _ _ _ => (pts_one (pt_cmpR op_eq (pe_call C_law_draw.ok (hr.mono (by decide)) (by rfl) C_law_draw.at_ C_law_draw.kp C_law_draw.b .nil pass0 (pa_cons (pv 0) (pa_cons pe_int pa_nil))) pe_int (nomark _)))) (fun _ _ _ _ _ => (pe_tup (pa_cons (pv 7) (pa_cons (pe_call C_law_form.ok (hr.mono (by decide)) (by rfl) C_law_form.at_ C_law_form.kp C_law_form.b .nil pass0 (pa_cons (pv 0) (pa_cons (pv 1) (pa_cons (pv 2) pa_nil)))) pa_nil))))) pa_nil)))
      (pss_cons (ps_asg (pv 4) (pg_sub (pv 6) pe_str (set_dict (hu_of hr))))
      (pss_cons (ps_set (i := 8) sc_law_right.nd rfl (by first | exact .inl rfl | exact .inr rfl) (pe_callTy cr_dictD (by rfl) T.m_dict (by decide +kernel) (pa_cons (pv 6) pa_nil)))
      (pss_cons (ps_set (i := 9) sc_law_right.nd rfl (by first | exact .inl rfl | exact .inr rfl) (pe_call C_put_in.ok (hr.mono (by decide)) (by rfl) C_put_in.at_ C_put_in.kp C_put_in.b .nil pass0 (pa_cons (pv 3) (pa_cons (pv 6) (pa_cons (pv 2) pa_nil)))))
      (pss_cons (ps_if (PW.pt (pw_or (pt_cmpR op_ne (pe_callB (cr_reprK (K := K) hga (hu_of64 hr)) (by rfl) T.m_repr (by decide +kernel) (pa_cons (pv 9) pa_nil)) (pe_callB (cr_reprK (K := K) hga (hu_of64 hr)) (by rfl) T.m_repr (by decide +kernel) (pa_cons (pe_call C_law_put.ok (hr.mono (by decide)) (by rfl) C_law_put.at_ C_law_put.kp C_law_put.b .nil pass0 (pa_cons (pv 3) (pa_cons (pv 6) (pa_cons (pv 2) pa_nil)))) pa_nil)) (nomark _)) (pw_or (pt_cmpR (op_ne_dictR (Nat.lt_of_succ_lt (hu_of hr))) (pv 6) (pv 8) (nomark _)) (pw_or1 (pt_not (pt_val (pe_call C_is_form.ok (hr.mono (by decide)) (by rfl) C_is_form.at_ C_is_form.kp C_is_form.b .nil pass0 (pa_cons (pv 9) (pa_cons (pv 2) pa_nil))))))))) (pss_one (ps_ret pe_bl)) pss_nil)
      (pss_cons (ps_set (i := 10) sc_law_right.nd rfl (by first | exact .inl rfl | exact .inr rfl) (pe_callTy (cr_dictP (K := K) rfl) (by rfl) T.m_dict (by decide +kernel) (pa_cons (pe_lc rfl sc_law_right.nd (pi_listK (K := K) (pv 1)) (blkOk_by (own := [("place", 7)]) (N := ["state", "places", "q", "one", "other", "times", "lots", "place", "kept", "made", "held", "owed", "many", "told"]) (sc := (defScope s_law_right)) (by decide +kernel)) (fun _ _ _ _ _ => (pg_name (i := 7) sc_law_right.nd rfl (by first | exact .inl rfl | exact .inr rfl))) (fun _ _ _ _ _ => (pts_one (pt_cmpR op_gt (pe_call C_law_draw.ok (hr.mono (by decide)) (by rfl) C_law_draw.at_ C_law_draw.kp C_law_draw.b .nil pass0 (pa_cons (pv 0) (pa_cons pe_int pa_nil))) pe_int (nomark _)))) (fun _ _ _ _ _ => (pe_tup (pa_cons (pv 7) (pa_cons (pe_call C_law_draw.ok (hr.mono (by decide)) (by rfl) C_law_draw.at_ C_law_draw.kp C_law_draw.b .nil pass0 (pa_cons (pv 0) (pa_cons (pv 2) pa_nil))) pa_nil))))) pa_nil)))
      (pss_cons (ps_asg pe_int (pg_sub (pv 10) pe_str (set_dict (hu_of hr))))
      (pss_cons (ps_set (i := 11) sc_law_right.nd rfl (by first | exact .inl rfl | exact .inr rfl) (pe_op op_mod (pe_op op_add (pe_ix (ix_tupK (K := K)) (pv 3) pe_int (fun _ _ => rfl)) (pe_callB (cr_sumK (K := K) rfl) (by rfl) T.m_sum (by decide +kernel) (pa_cons (pe_lc rfl sc_law_right.nd (pi_tupK (K := K) (pe_ix (ix_tupK (K := K)) (pv 3) pe_int (fun _ _ => rfl))) (blkOk_by (own := [("place", 7), ("many", 12)]) (N := ["state", "places", "q", "one", "other", "times", "lots", "place", "kept", "made", "held", "owed", "many", "told"]) (sc := (defScope s_law_right)) (by decide +kernel)) (fun _ _ _ _ _ => (castPG (K := K) (n := 2) (pg_tup rfl (pgs_cons (pg_name (i := 7) sc_law_right.nd rfl (by first | exact .inl rfl | exact .inr rfl)) (pgs_cons (pg_name (i := 12) sc_law_right.nd rfl (by first | exact .inl rfl | exact .inr rfl)) pgs_nil))))) (fun _ _ _ _ _ => pts_nil) (fun _ _ _ _ _ => (pe_op op_mul (pv 12) (pe_dget2 (hu_of hr) (pv 10) (pv 7) pe_int ⟨by rfl, by rfl, by rfl, by rfl⟩)))) pa_nil))) (pv 2)))
      (pss_cons (ps_set (i := 13) sc_law_right.nd rfl (by first | exact .inl rfl | exact .inr rfl) (pe_lst (pa_cons (pe_call C_worth_of.ok (hr.mono (by decide)) (by rfl) C_worth_of.at_ C_worth_of.kp C_worth_of.b .nil pass0 (pa_cons (pv 3) (pa_cons (pv 10) (pa_cons (pv 2) pa_nil)))) (pa_cons (pe_callK0 C_worth_of.ok (hr.mono (by decide)) (by rfl) C_worth_of.at_ C_worth_of.kp (kb_perm (us0 := 0) (ws0 := 3) (is := [2, 0, 1]) (by simp) (fun us ws h1 h2 => kb_worth_of_2_0_1 C_worth_of.fn us ws h1 h2)) pass0 (pk_cons (pv 10) (pk_cons (pv 2) (pk_cons (pv 3) pk_nil)))) pa_nil))))
      (pss_cons (ps_if (PW.pt (pw_or (pt_cmpR op_ne (pe_callB (cr_reprK (K := K) hga (hu_of64 hr)) (by rfl) T.m_repr (by decide +kernel) (pa_cons (pv 13) pa_nil)) (pe_callB (cr_reprK (K := K) hga (hu_of64 hr)) (by rfl) T.m_repr (by decide +kernel) (pa_cons (pe_lst (pa_cons (pv 11) (pa_cons (pv 11) pa_nil))) pa_nil)) (nomark _)) (pw_or1 (pt_cmpR (op_neDK (K := K) (hu_of64 hr)) (pe_callK0 C_put_in.ok (hr.mono (by decide)) (by rfl) C_put_in.at_ C_put_in.kp (kb_perm (us0 := 0) (ws0 := 3) (is := [2, 1, 0]) (by simp) (fun us ws h1 h2 => kb_put_in_2_1_0 C_put_in.fn us ws h1 h2)) pass0 (pk_cons (pv 2) (pk_cons pe_dnewK (pk_cons (pv 3) pk_nil)))) (pv 3) (nomark _))))) (pss_one (ps_ret pe_bl)) pss_nil)
      (pss_one (ps_ret (pe_and (pe_cmpR (op_eqDK (K := K) (hu_of64 hr)) (pe_callK0 C_sum_of.ok (hr.mono (by decide)) (by rfl) C_sum_of.at_ C_sum_of.kp (kb_perm (us0 := 0) (ws0 := 3) (is := [1, 0, 2]) (by simp) (fun us ws h1 h2 => kb_sum_of_1_0_2 C_sum_of.fn us ws h1 h2)) pass0 (pk_cons (pv 3) (pk_cons (pv 4) (pk_cons (pv 2) pk_nil)))) (pe_call C_sum_of.ok (hr.mono (by decide)) (by rfl) C_sum_of.at_ C_sum_of.kp C_sum_of.b .nil pass0 (pa_cons (pv 3) (pa_cons (pv 4) (pa_cons (pv 2) pa_nil)))) (nomark _)) (pe_one (pe_cmpR (op_eqDK (K := K) (hu_of64 hr)) (pe_callK0 C_times_of.ok (hr.mono (by decide)) (by rfl) C_times_of.at_ C_times_of.kp (kb_perm (us0 := 0) (ws0 := 3) (is := [2, 0, 1]) (by simp) (fun us ws h1 h2 => kb_times_of_2_0_1 C_times_of.fn us ws h1 h2)) pass0 (pk_cons pe_int (pk_cons (pv 2) (pk_cons (pv 3) pk_nil)))) (pv 3) (nomark _)))))))))))))))))))), ?_⟩
    walk_at "st"
    refine ⟨s, c, l, q, zs, rfl, hst, hl, nl, nd, by omega, gz, hq, fun a1 n1 t1 H1 k1 st1 f1 ok1 sub1 len1 => ?_⟩
    have el1 : H1 l = some (.lst (zs.map V.str)) := k1 _ _ hl nl
    walk_at "st"
    intro p hp
    rw [cut_from1, ← List.map_drop]
    have op := st1.out hp
    walk_at "st"
    refine ⟨s, c, p, q, zs.drop 1, rfl, st1.new hp, upd_same, op, nd.sublist (List.drop_sublist _ _), by rw [List.length_drop]; omega, fun z m => gz z (List.mem_of_mem_drop m), hq, fun a2 n2 t2 H2 k2 st2 f2 ok2 sub2 len2 => ?_⟩
    have el2 : H2 l = some (.lst (zs.map V.str)) := k2 _ _ (hl_new el1 hp) nl
    have K2 : Kp [s, c] H H2 := (k1.trans (Kp.new hp)).trans k2
    have f1 := f1.to ((Tups.same (Same.upd_new hp)).trans (Tups.st k2 (st1.new hp)))
    have len2 : t2.length ≤ 6 := Nat.le_trans len2 (by rw [List.length_drop]; omega)
    have len1 : t1.length ≤ 6 := Nat.le_trans len1 lz
    clear k1 k2 el1
    walk_at "st"
    refine ⟨s, c, 99, rfl, st2, by omega, fun d3 H3 k3 st3 hd3 => ?_⟩
    walk_at "st"
    refine ⟨s, c, 1000, rfl, st3, by omega, fun d4 H4 k4 st4 hd4 => ?_⟩
    walk_at "st"
    intro lt hlt
    have olt := st4.out hlt
    walk_at "st"
    refine ⟨s, c, 6, rfl, by walk_at "stt", by omega, fun d5 H5 k5 st5 hd5 => ?_⟩
    have e5 : H5 lt = some (.lst [V.int 0, V.int 1, V.int (-1), V.int q, V.int (10 ^ (9 : Int).toNat - d3), V.int (-d4)]) := k5 _ _ upd_same olt
    obtain ⟨v5, ev5, mv5⟩ := atI_in (xs := [V.int 0, V.int 1, V.int (-1), V.int q, V.int (10 ^ (9 : Int).toNat - d3), V.int (-d4)]) hd5.1 (by simpa using hd5.2)
    obtain ⟨k, rfl, hk⟩ : ∃ k, v5 = V.int k ∧ (-1000000000000 ≤ k ∧ k ≤ 1000000000000) := by
      have e9 : (10 : Int) ^ (9 : Int).toNat = 1000000000 := by decide
      rw [e9] at mv5
      simp at mv5
      rcases mv5 with h | h | h | h | h | h <;> exact ⟨_, h, by omega⟩
    have T5 : Tups H2 H5 := (Tups.st k3 st2).trans ((Tups.st k4 st3).trans ((Tups.same (Same.upd_new hlt)).trans (Tups.st k5 (st4.new hlt))))
    have el5 : H5 l = some (.lst (zs.map V.str)) := k5 _ _ (hl_new (k4 _ _ (k3 _ _ el2 nl) nl) hlt) nl
    have K5 : Kp [s, c] H H5 := (((K2.trans k3).trans k4).trans (Kp.new hlt)).trans k5
    have f1 := f1.to T5
    have f2 := f2.to T5
    clear k3 k4 st3 st4 k5 T5 el2 K2 st2 hlt st1
    walk_at "st"
    walk_at "if"
    have g1 := fun x m => (ok1.ok.ok x m).1
    have g2 := fun x m => (ok2.ok.ok x m).1
    refine ⟨a1, a2, n1, n2, q, t1, t2, rfl, f1, f2, by omega, hq, fun c3 r3 H6 sm6 f3 cn3 => ?_⟩
    have F3 := cn3.form (n := n1 + n2) q0 fun x m => (List.mem_append.mp m).elim (g1 x) (g2 x)
    have l3 := cn3.len
    rw [List.length_append] at l3
    have N3 := frm_nice F3 (by omega) (by omega)
    walk_at "st"
    refine r_reprF f3 N3 ?_
    walk_at "st"
    have f16 := f1.to (Tups.same sm6)
    have f26 := f2.to (Tups.same sm6)
    refine ⟨a1, n1, 1, t1, rfl, f16, ok1.ok.keys, by omega, by omega, fun d6 H7 sm7 nd6 e6 => ?_⟩
    walk_at "st"
    refine ⟨a2, n2, 1, t2, rfl, f26.to (Tups.same sm7), ok2.ok.keys, by omega, by omega, fun d7 H8 sm8 nd7 e7 => ?_⟩
    have e68 := sm8 _ _ e6
    walk_at "st"
    intro l8 hl8
    walk_at "st"
    refine ⟨l8, q, [d6, d7], [(Str.ofString "", n1 * 1) :: mulT 1 t1, (Str.ofString "", n2 * 1) :: mulT 1 t2], rfl, upd_same, rfl, fun i d e => ?_, by simp [mulT_len]; omega, by simp, hq, fun c9 r9 H9 sm9 f9 cn9 => ?_⟩
    · have kk : ∀ t : List Tr, TermsOk q t → ∀ n : Int, (((Str.ofString "", n * 1) :: mulT 1 t).map fun x : Tr => x.1).Nodup := fun t ok n => by
        have := ok.keys
        unfold mulT
        rw [List.map_cons, List.map_map]; exact this
      match i with
      | 0 => cases (Option.some.inj (show some d6 = some d from e)); exact ⟨_, rfl, hl_new e68 hl8, kk t1 ok1.ok n1⟩
      | 1 => cases (Option.some.inj (show some d7 = some d from e)); exact ⟨_, rfl, hl_new e7 hl8, kk t2 ok2.ok n2⟩
      | i + 2 => simp at e
    have fl : ([(Str.ofString "", n1 * 1) :: mulT 1 t1, (Str.ofString "", n2 * 1) :: mulT 1 t2] : List (List Tr)).flatten = ((Str.ofString "", n1 * 1) :: mulT 1 t1) ++ ((Str.ofString "", n2 * 1) :: mulT 1 t2) := by simp
    rw [fl] at f9 cn9
    have en : coef (((Str.ofString "", n1 * 1) :: mulT 1 t1) ++ ((Str.ofString "", n2 * 1) :: mulT 1 t2)) (Str.ofString "") = n1 + n2 := by
      rw [coef_app, tab_num ok1.ok.ne0, tab_num ok2.ok.ne0]; omega
    rw [en] at f9
    have er : r9 = r3 := cn9.same cn3 fun z => by
      rw [coef_filter, coef_app, coef_app]
      by_cases d : z = Str.ofString ""
      · rw [if_pos d, d, coef_ne0 ok1.ok.ne0, coef_ne0 ok2.ok.ne0, Int.add_zero]
      · rw [if_neg d, tab_term d, tab_term d, Int.mul_one, Int.mul_one]
    subst er
    walk_at "st"
    refine r_reprF f9 N3 ?_
    walk_at "st"
    refine r_iteB (fun h => by simp at h) (fun _ => ?_)
    have S9 : Same H5 H9 := ((sm6.trans sm7).trans sm8).trans ((Same.upd_new hl8).trans sm9)
    have st9 := st5.same S9
    have el9 := S9 _ _ el5
    have K9 : Kp [s, c] H H9 := K5.trans (Kp.ofSame S9)
    have f1 := f1.to (Tups.same S9)
    have f2 := f2.to (Tups.same S9)
    clear f16 f26 e6 e68 e7 f3 f9 sm6 sm7 sm8 sm9 S9 st5 el5 K5 cn3 cn9 F3 N3 l3 fl en e5
    walk_at "st"
    walk_at "if"
    refine ⟨a1, n1, k, q, t1, rfl, f1, by omega, hq, hk, fun c3 r3 H6 sm6 f3 cn3 => ?_⟩
    have F3 := cn3.form (n := n1 * k) q0 (mulT_good g1)
    have l3 := cn3.len
    rw [mulT_len] at l3
    have N3 := frm_nice F3 (by omega) (by omega)
    walk_at "st"
    refine r_reprF f3 N3 ?_
    walk_at "st"
    refine ⟨a1, n1, k, t1, rfl, f1.to (Tups.same sm6), ok1.ok.keys, by omega, hk, fun d6 H7 sm7 nd6 e6 => ?_⟩
    walk_at "st"
    intro l8 hl8
    walk_at "st"
    refine ⟨l8, q, [d6], [(Str.ofString "", n1 * k) :: mulT k t1], rfl, upd_same, rfl, fun i d e => ?_, by simp [mulT_len]; omega, by simp, hq, fun c9 r9 H10 sm9 f9 cn9 => ?_⟩
    · match i with
      | 0 =>
        cases (Option.some.inj (show some d6 = some d from e))
        refine ⟨_, rfl, hl_new e6 hl8, ?_⟩
        have := ok1.ok.keys
        unfold mulT
        rw [List.map_cons, List.map_map]; exact this
      | i + 1 => simp at e
    have fl : ([(Str.ofString "", n1 * k) :: mulT k t1] : List (List Tr)).flatten = (Str.ofString "", n1 * k) :: mulT k t1 := by simp
    rw [fl] at f9 cn9
    rw [tab_num ok1.ok.ne0] at f9
    have er : r9 = r3 := cn9.same cn3 fun z => by
      rw [coef_filter, coef_mulT]
      by_cases d : z = Str.ofString ""
      · rw [if_pos d, d, coef_ne0 ok1.ok.ne0, Int.zero_mul]
      · rw [if_neg d, tab_term d]
    subst er
    walk_at "st"
    refine r_reprF f9 N3 ?_
    walk_at "st"
    refine r_iteB (fun h => by simp at h) (fun _ => ?_)
    have S9 : Same H9 H10 := (sm6.trans sm7).trans ((Same.upd_new hl8).trans sm9)
    have st10 := st9.same S9
    have el10 := S9 _ _ el9
    have K10 : Kp [s, c] H H10 := K9.trans (Kp.ofSame S9)
    have f1 := f1.to (Tups.same S9)
    have f2 := f2.to (Tups.same S9)
    clear e6 f3 f9 sm6 sm7 sm9 S9 st9 el9 K9 cn3 cn9 F3 N3 l3 fl
    walk_at "st"
    intro D hD
    have oD := st10.out hD
    have nlD : l ≠ D := ne_of_none el10 hD
    refine lc_by (walk_list (a := l) (xs := zs.map V.str)) (fun i H' => ∃ kvs F, PrsI s c l D zs H10 i H' kvs ∧ FmsAt H' kvs F ∧ ∀ x ∈ F, TermsOk q x.2.2 ∧ x.2.2.length ≤ 6)
      ⟨[], [], PrsI.start st10 el10 hD, ⟨rfl, fun i e he => by simp at he⟩, fun x m => by cases m⟩ (fun i H' _ g => by obtain ⟨_, _, g, _⟩ := g; exact SqL.of g.2.2.1) (fun i x H11 H12 hi g y => ?_) (fun H11 g => ?_)
    · obtain ⟨kvs, F, I, hF, okF⟩ := g
      obtain ⟨rfl, ex⟩ := y
      obtain ⟨z, ez, rfl⟩ := getElem?_map_str ex
      have li : i < 60 := by rw [List.length_map] at hi; omega
      have stI := I.2.1
      refine ⟨rfl, ?_⟩
      walk_at "st"
      refine ⟨s, c, 2, rfl, stI, by omega, fun d11 H13 k13 st13 hd11 => ?_⟩
      walk_at "st"
      refine r_iteB (fun h => ?_) (fun h => ?_)
      · walk_at "st"
        refine ⟨s, c, l, q, zs, rfl, st13, k13 _ _ I.2.2.1 nl, nl, nd, by omega, gz, hq, fun a3 n3 t3 H14 k14 st14 f3 ok3 sub3 len3 => ?_⟩
        walk_at "st"
        intro t ht
        have kk := (k13.trans k14).trans (Kp.new ht (x := .tup [.str z, .ref a3]))
        obtain ⟨acc, h1, h2, h3⟩ := I.keep kk (st14.new ht) nl oD hD nlD ez li (upd_same (H := H14) (a := t))
        refine ⟨acc, h1, h2, _, _, h3, ((hF.to (Tups.st kk stI)).snoc (f3.to (Tups.same (Same.upd_new ht)))).to (Tups.lst h1), fun x m => ?_⟩
        rcases List.mem_append.mp m with m | m
        · exact okF x m
        · rw [List.mem_singleton.mp m]; exact ⟨ok3.ok, Nat.le_trans len3 lz⟩
      · exact ⟨kvs, F, I.skip k13 st13 nl oD, hF.to (Tups.st k13 stI), okF⟩
    · obtain ⟨kvs, F, I, hF, okF⟩ := g
      have ndk := I.nodup nd
      have lk : kvs.length ≤ 6 := by
        have := I.2.2.2.2.length_le
        rw [List.length_map, List.length_map, List.length_take] at this
        omega
      obtain ⟨k11, st11, el11, ⟨ps, eps, prs⟩, _⟩ := I
      have T11 := Tups.st k11 st10
      have f1 := f1.to T11
      have f2 := f2.to T11
      have K11 := K10.trans k11
      clear k11 st10 el10 K10 T11
      walk_at "st"
      refine ⟨D, ps, kvs, rfl, SqL.of eps, prd_imp (fun _ _ e => SqT.of e) prs, fun dl hdl => ?_⟩
      rw [merge_nodup kvs [] ndk, List.nil_append]
      walk_at "st"
      refine ⟨dl, _, rfl, DPut.k (k := Sum.inr (Str.ofString "strange")) upd_same (Nat.lt_of_le_of_lt lk (by decide)), ?_⟩
      have S12 : Same H11 (upd (upd H11 dl (.dK kvs)) dl (.dK (putK kvs (Sum.inr (Str.ofString "strange")) (.ref a2)))) := fun b o e => hl_set (ne_of_none e hdl) (hl_new e hdl)
      obtain ⟨F2, hF2, mF2⟩ := (hF.to (Tups.same S12)).put (Str.ofString "strange") (f2.to (Tups.same S12))
      have ndk2 := putK_nodup ndk (Sum.inr (Str.ofString "strange")) (.ref a2)
      have edl : upd (upd H11 dl (.dK kvs)) dl (.dK (putK kvs (Sum.inr (Str.ofString "strange")) (.ref a2))) dl = some (.dK (putK kvs (Sum.inr (Str.ofString "strange")) (.ref a2))) := upd_same
      have okF2 : ∀ x ∈ F2, TermsOk q x.2.2 ∧ x.2.2.length ≤ 6 := fun x m => (mF2 x m).elim (okF x) fun e => by rw [e]; exact ⟨ok2.ok, len2⟩
      have st12 := st11.same S12
      have el12 := S12 _ _ el11
      have f1 := f1.to (Tups.same S12)
      have f2 := f2.to (Tups.same S12)
      have K12 := K11.trans (Kp.ofSame S12)
      clear hF okF mF2 prs eps st11 el11 K11 ndk
      generalize upd (upd H11 dl (.dK kvs)) dl (.dK (putK kvs (Sum.inr (Str.ofString "strange")) (.ref a2))) = H12 at *
      generalize putK kvs (Sum.inr (Str.ofString "strange")) (.ref a2) = kvs2 at *
      walk_at "st"
      refine ⟨dl, kvs2, rfl, .inl edl, fun dk hdk => ?_⟩
      have S13 : Same H12 (upd H12 dk (.dK kvs2)) := Same.upd_new hdk
      have edk : upd H12 dk (.dK kvs2) dk = some (.dK kvs2) := upd_same
      have st13 := st12.same S13
      have el13 := S13 _ _ el12
      have edl := S13 _ _ edl
      have hF2 := hF2.to (Tups.same S13)
      have f1 := f1.to (Tups.same S13)
      have f2 := f2.to (Tups.same S13)
      have K13 := K12.trans (Kp.ofSame S13)
      clear st12 el12 K12 S13
      generalize upd H12 dk (.dK kvs2) = H13 at *
      have lens := fun x m => (okF2 x m).2
      have tks := fun x m => (okF2 x m).1
      have lP := putP_len lens t1
      have b1 : ∀ x ∈ t1, 0 ≤ x.2 ∧ x.2 ≤ 1000 := fun x m => by have := (ok1.ok.ok x m).2; omega
      walk_at "st"
      refine ⟨a1, dl, n1, q, t1, F2, rfl, f1, ⟨kvs2, edl, hF2.1, hF2.2⟩, by omega, by omega, hq, b1, fun cm rm H14 sm14 fm cnm => ?_⟩
      have Fm2 := cnm.form (n := n1 + putN F2 t1) q0 (putP_good tks g1)
      have lm := cnm.len
      have Nm := frm_nice Fm2 (by omega) (by omega)
      have f14 := f1.to (Tups.same sm14)
      walk_at "st"
      walk_at "if"
      refine r_reprF fm Nm ?_
      walk_at "st"
      refine ⟨a1, dl, n1, q, t1, F2, rfl, f14, ⟨kvs2, sm14 _ _ edl, (hF2.to (Tups.same sm14)).1, (hF2.to (Tups.same sm14)).2⟩, fun x m => ⟨ok1.ok.ne0 x m, b1 x m⟩, len1, okF2, hq, fun cp rp H15 sm15 fp cnp => ?_⟩
      have er : rp = rm := cnp.same cnm fun z => rfl
      subst er
      walk_at "st"
      refine r_reprF fp Nm ?_
      walk_at "st"
      refine r_iteB (fun h => by simp at h) (fun _ => ?_)
      have S15 := sm14.trans sm15
      walk_at "st"
      refine ⟨dl, dk, kvs2, rfl, rfl, S15 _ _ edl, S15 _ _ edk, ndk2, hF2.refs, ?_⟩
      walk_at "st"
      refine ⟨cm, _, q, rp, rfl, fm.to (Tups.same sm15), Fm2, by omega, fun H16 sm16 => ?_⟩
      walk_at "st"
      have S16 := S15.trans sm16
      have st16 := st13.same S16
      have el16 := S16 _ _ el13
      have f1 := f1.to (Tups.same S16)
      have f2 := f2.to (Tups.same S16)
      have K16 := K13.trans (Kp.ofSame S16)
      clear st13 el13 K13 edk fm fp f14 sm14 sm15 sm16 S15 S16 cnm cnp Fm2 Nm lm lP
      intro D2 hD2
      have oD2 := st16.out hD2
      have nlD2 : l ≠ D2 := ne_of_none el16 hD2
      refine lc_by (walk_list (a := l) (xs := zs.map V.str)) (fun i H' => ∃ E : List Tr, PrsI s c l D2 zs H16 i H' (encT E) ∧ ∀ x ∈ E, 0 ≤ x.2 ∧ x.2 < q)
        ⟨[], PrsI.start st16 el16 hD2, fun x m => by cases m⟩ (fun i H' _ g => by obtain ⟨_, g, _⟩ := g; exact SqL.of g.2.2.1) (fun i x H17 H18 hi g y => ?_) (fun H17 g => ?_)
      · obtain ⟨E, I, okE⟩ := g
        obtain ⟨rfl, ex⟩ := y
        obtain ⟨z, ez, rfl⟩ := getElem?_map_str ex
        have li : i < 60 := by rw [List.length_map] at hi; omega
        have stI := I.2.1
        refine ⟨rfl, ?_⟩
        walk_at "st"
        refine ⟨s, c, 3, rfl, stI, by omega, fun d17 H19 k19 st19 hd19 => ?_⟩
        walk_at "st"
        refine r_ite (fun h => ?_) (fun h => ?_)
        · walk_at "st"
          refine ⟨s, c, q, rfl, st19, by omega, fun d20 H20 k20 st20 hd20 => ?_⟩
          walk_at "st"
          intro t ht
          have kk := (k19.trans k20).trans (Kp.new ht (x := .tup [.str z, .int d20]))
          obtain ⟨acc, h1, h2, h3⟩ := I.keep kk (st20.new ht) nl oD2 hD2 nlD2 ez li (upd_same (H := H20) (a := t))
          refine ⟨acc, h1, h2, E ++ [(z, d20)], ?_, fun x m => ?_⟩
          · have : encT (E ++ [(z, d20)]) = encT E ++ [(Sum.inr z, V.int d20)] := by unfold encT; rw [List.map_append]; rfl
            rw [this]; exact h3
          · rcases List.mem_append.mp m with m | m
            · exact okE x m
            · rw [List.mem_singleton.mp m]; exact hd20
        · exact ⟨E, I.skip k19 st19 nl oD2, okE⟩
      · obtain ⟨E, I, okE⟩ := g
        have ndk := I.nodup nd
        have lE : E.length ≤ 6 := by
          have := I.2.2.2.2.length_le
          unfold encT at this
          rw [List.length_map, List.length_map, List.length_map, List.length_take] at this
          omega
        obtain ⟨k17, st17, el17, ⟨ps, eps, prs⟩, _⟩ := I
        have T17 := Tups.st k17 st16
        have f1 := f1.to T17
        have f2 := f2.to T17
        have K17 := K16.trans k17
        clear k17 st16 el16 K16 T17
        walk_at "st"
        refine ⟨D2, ps, encT E, rfl, SqL.of eps, prd_imp (fun _ _ e => SqT.of e) prs, fun dh hdh => ?_⟩
        rw [merge_nodup (encT E) [] ndk, List.nil_append]
        have lE2 : E.length ≤ 1000 := by omega
        walk_at "st"
        have S18 : Same H17 (upd (upd H17 dh (.dK (encT E))) dh (.dK (encT (putT E (Str.ofString "strange") 1)))) := fun b o e => hl_set (ne_of_none e hdh) (hl_new e hdh)
        have edh : upd (upd H17 dh (.dK (encT E))) dh (.dK (encT (putT E (Str.ofString "strange") 1))) dh = some (.dK (encT (putT E (Str.ofString "strange") 1))) := upd_same
        have st18 := st17.same S18
        have f1 := f1.to (Tups.same S18)
        have f2 := f2.to (Tups.same S18)
        have K18 := K17.trans (Kp.ofSame S18)
        clear prs eps st17 el17 K17 ndk S18
        generalize upd (upd H17 dh (.dK (encT E))) dh (.dK (encT (putT E (Str.ofString "strange") 1))) = H18 at *
        generalize putT E (Str.ofString "strange") 1 = E2 at *
        obtain ⟨a1', b1', us1, ea1, fa1, fb1, ft1⟩ := id f1
        cases ea1
        walk_at "st"
        intro D3 hD3
        have lu1 : us1.length ≤ 6 := by rw [ft1.1]; exact len1
        refine lc_map (walk_tup (xs := us1)) (by omega) hD3 (fun i y _ => ∃ m, (t1.map fun x => x.2 * (getT E2 x.1).getD 0)[i]? = some m ∧ y = .int m) (fun _ _ _ _ h _ => h) (fun _ _ _ _ _ h _ => h) (fun H' k => SqT.of (k _ _ fb1)) (fun i H1 x H2 y => by rw [y.1]; exact Same.refl _)
          (fun i x H1 H2 Y No hi sm y hY => ?_) (fun ys H19 el19 sm19 eD3 hys => ?_)
        · obtain ⟨rfl, ex⟩ := y
          obtain ⟨⟨z, j⟩, ez, t, rfl, ht⟩ := ft1.2 i x ex
          have ht2 := sm _ _ ht
          have hd2 := sm _ _ edh
          have hj : 0 ≤ j ∧ j ≤ 1000 := b1 _ (List.mem_of_getElem? ez)
          refine ⟨t, _, rfl, SqT.of ht2, rfl, ?_⟩
          walk_at "st"
          refine ⟨rfl, ?_⟩
          walk_at "st"
          exact hY _ _ (Same.refl _) ⟨_, by rw [List.getElem?_map, ez]; rfl, rfl⟩
        · obtain rfl := list_ext_int (by rw [el19, List.length_map, ft1.1]) hys
          have fa19 := sm19 _ _ fa1
          have f1 := f1.to (Tups.same sm19)
          have f2 := f2.to (Tups.same sm19)
          have edh := sm19 _ _ edh
          have hW0 := Int.emod_nonneg (n1 + (t1.map fun x => x.2 * (getT E2 x.1).getD 0).sum) (show q ≠ 0 by omega)
          have hW1 := Int.emod_lt_of_pos (n1 + (t1.map fun x => x.2 * (getT E2 x.1).getD 0).sum) q0
          have st19 := st18.same sm19
          have K19 := K18.trans (Kp.ofSame sm19)
          clear st18 K18 hys
          walk_at "st"
          refine ⟨a1, dh, n1, q, t1, E2, rfl, f1, edh, by omega, hq, b1, fun H20 sm20 => ?_⟩
          walk_at "st"
          refine ⟨a1, dh, n1, q, t1, E2, rfl, f1.to (Tups.same sm20), sm20 _ _ edh, by omega, hq, b1, fun H21 sm21 => ?_⟩
          generalize (n1 + (t1.map fun x => x.2 * (getT E2 x.1).getD 0).sum) % q = W at *
          have S21 := sm20.trans sm21
          walk_at "st"
          intro lT hlT
          walk_at "st"
          walk_at "if"
          refine r_reprI2 upd_same ⟨hW0, by omega⟩ ⟨hW0, by omega⟩ ?_
          walk_at "st"
          intro lW hlW
          walk_at "st"
          refine r_reprI2 upd_same ⟨hW0, by omega⟩ ⟨hW0, by omega⟩ ?_
          walk_at "st"
          refine r_iteB (fun h => by simp at h) (fun _ => ?_)
          have S22 := (S21.trans (Same.upd_new hlT (x := .lst [V.int W, V.int W]))).trans (Same.upd_new hlW (x := .lst [V.int W, V.int W]))
          generalize upd (upd H21 lT (.lst [V.int W, V.int W])) lW (.lst [V.int W, V.int W]) = H22 at *
          have f1 := f1.to (Tups.same S22)
          have f2 := f2.to (Tups.same S22)
          have st22 := st19.same S22
          have K22 := K19.trans (Kp.ofSame S22)
          clear st19 K19 edh fa19 sm20 sm21 S21 S22
          walk_at "st"
          intro de hde
          have f1 := f1.to (Tups.same (Same.upd_new hde (x := .dK (encT []))))
          have f2 := f2.to (Tups.same (Same.upd_new hde (x := .dK (encT []))))
          have N1 := frm_nice ok1 (by omega) (by omega)
          walk_at "st"
          refine ⟨a1, de, n1, q, t1, [], rfl, f1, ⟨[], upd_same, rfl, fun i e he => by simp at he⟩, by omega, by rw [putP_nil]; omega, hq, b1, fun c23 r23 H23 sm23 f23 cn23 => ?_⟩
          rw [putN_nil, Int.add_zero, Int.emod_eq_of_lt ok1.num.1 ok1.num.2] at f23
          rw [putP_nil] at cn23
          have e23 : r23 = t1 := cn23.same ok1.ok.canon fun z => rfl
          subst e23
          have f1 := f1.to (Tups.same sm23)
          have f2 := f2.to (Tups.same sm23)
          walk_at "st"
          refine r_neF f23 f1 N1 N1 ?_
          walk_at "st"
          refine r_iteB (fun h => by simp at h) (fun _ => ?_)
          walk_at "st"
          refine ⟨a2, a1, n2, n1, q, t2, r23, rfl, f2, f1, by omega, hq, fun c24 r24 H24 sm24 f24 cn24 => ?_⟩
          have F24 := cn24.form (n := n2 + n1) q0 fun x m => (List.mem_append.mp m).elim (g2 x) (g1 x)
          have l24 := cn24.len
          rw [List.length_append] at l24
          have N24 := frm_nice F24 (by omega) (by omega)
          have f1 := f1.to (Tups.same sm24)
          have f2 := f2.to (Tups.same sm24)
          walk_at "st"
          refine ⟨a1, a2, n1, n2, q, r23, t2, rfl, f1, f2, by omega, hq, fun c25 r25 H25 sm25 f25 cn25 => ?_⟩
          have e25 : r25 = r24 := cn25.same cn24 fun z => by rw [coef_app, coef_app, Int.add_comm]
          subst e25
          rw [Int.add_comm n1 n2] at f25
          have f1 := f1.to (Tups.same sm25)
          walk_at "st"
          refine r_eqF (f24.to (Tups.same sm25)) f25 N24 N24 ?_
          walk_at "st"
          refine r_iteB (fun _ => ?_) (fun h => by simp at h)
          walk_at "st"
          refine ⟨a1, n1, 1, q, r23, rfl, f1, by omega, hq, by omega, fun c26 r26 H26 sm26 f26 cn26 => ?_⟩
          rw [Int.mul_one, Int.emod_eq_of_lt ok1.num.1 ok1.num.2] at f26
          have e26 : r26 = r23 := cn26.same ok1.ok.canon fun z => by rw [coef_mulT, Int.mul_one]
          subst e26
          walk_at "st"
          refine r_eqF f26 (f1.to (Tups.same sm26)) N1 N1 ?_
          have e27 : decide (n1 = n1 ∧ r26 = r26) = true := by simp
          rw [e27]
          have S26 := (((Same.upd_new hde (x := .dK (encT []))).trans sm23).trans (sm24.trans sm25)).trans sm26
          exact fin _ (K22.trans (Kp.ofSame S26)) (st22.same S26)
end
local macro_rules | `(tactic| walk_at "ssz") => `(tactic| first | decide | exact str_small (by assumption) | (have : (1000000 : Nat) ≤ sizeLine := (by decide); omega))
local macro_rules | `(tactic| walk_at "st1") => `(tactic| first
  | with_reducible refine' r_nt ?_ | with_reducible refine' r_nf ?_
  | ((with_reducible refine r_lenS ?e1 ?_); (case e1 => walk_at "ssz"))
  | with_reducible refine r_inS ?_
  | with_reducible refine r_ninS ?_
  | ((with_reducible refine r_addS ?e1 ?_); (case e1 => walk_at "ssz"))
  | ((with_reducible refine' r_ixS ?e1 ?e2 ?_); (case e1 => walk_at "ssz"); (case e2 => first | assumption | rfl))
  | with_reducible refine r_istr ?_
  | with_reducible refine r_is ?_
  | with_reducible refine r_un ?_
  | with_reducible refine r_u ?_)
local macro_rules | `(tactic| walk_at "st1") => `(tactic| first
  | with_reducible refine r_par ?_
  | with_reducible refine r_parx ?_
  | ((with_reducible refine' r_gtup ?e1 ?e2 ?_); (case e1 => walk_at "sq"); (case e2 => rfl))
  | with_reducible refine r_gcons ?_
  | with_reducible refine r_gnil ?_
  | with_reducible refine r_disp ?_
  | with_reducible refine r_tp1 ?_
  | with_reducible refine r_tp0 ?_
  | ((with_reducible refine' r_dp1 ?e1 ?_); (case e1 => walk_at "hl"))
  | with_reducible refine r_dnewK ?_
  | with_reducible refine r_dget2 ?_
  | ((with_reducible refine' r_dg2 ?e1 ?_); (case e1 => walk_at "hl"))
  | ((with_reducible refine' r_dg3 ?e1 ?_); (case e1 => walk_at "hl"))
  | with_reducible refine r_dget ?_
  | ((with_reducible refine' r_dgv ?e1 ?e2 ?_); (case e1 => walk_at "hl"); (case e2 => assumption))
  | ((with_reducible refine' r_setD ?e1 ?e2 ?_); (case e1 => walk_at "hl"); (case e2 => omega)))
theorem prime14_in {q : Int} (h : q ∈ primes14) : 2 ≤ q ∧ q ≤ 997 := by
  simp [primes14] at h
  omega
def sp_law (K : PySem.W.Frag) : Sp := fun vs H Q _ => ∃ (a : Addr) (ns : List Int), vs = [.ref a] ∧ SqL K H a (ns.map .int) ∧ ns.length ≤ 63 ∧ ∀ H', Q (.bl true) H'
section
variable {P : Program} {w : World} {K : PySem.W.Frag} {mg : Str → Option Value} {base : Heap}
theorem ok_law (T : Tx K mg) {f_law_begun : Addr} {fd_law_begun : FuncData} (C_law_begun : Cal P w K mg base "_law_begun" 1 ["script"] (sp_law_begun K) s_law_begun f_law_begun fd_law_begun) {f_law_prime : Addr} {fd_law_prime : FuncData} (C_law_prime : Cal P w K mg base "_law_prime" 2 ["state"] (sp_law_prime K) s_law_prime f_law_prime fd_law_prime) {f_law_places : Addr} {fd_law_places : FuncData} (C_law_places : Cal P w K mg base "_law_places" 3 ["state", "many"] (sp_law_places K) s_law_places f_law_places fd_law_places) {f_law_draw : Addr} {fd_law_draw : FuncData} (C_law_draw : Cal P w K mg base "_law_draw" 1 ["state", "many"] (sp_law_draw K) s_law_draw f_law_draw fd_law_draw) {f_law_right : Addr} {fd_law_right : FuncData} (C_law_right : CalG P w K mg base "_law_right" 5 ["state", "places", "q"] (sp_law_right K) s_law_right f_law_right fd_law_right) {f : Addr} {fd : FuncData} (F : Here K mg "law" s_law ["script"] f fd) : FnG P w K mg base 6 f fd ["script"] (sp_law K) := by
  refine fnG_of F.fn sc_law (fun vs H Q E h => ?_) (fun cdv A outer s H vs Q E hga hr h => ?_)
  · obtain ⟨a, ns, rfl, _⟩ := h
    rfl
  · obtain ⟨a, ns, rfl, hS, hlen, q⟩ := h
    refine ⟨_, (pss_cons (ps_set (i := 1) sc_law.nd rfl (by first | exact .inl rfl | exact .inr rfl) (pe_call C_law_begun.ok (hr.mono (by decide)) (by rfl) C_law_begun.at_ C_law_begun.kp C_law_begun.b .nil pass0 (pa_cons (pv 0) pa_nil)))
      (pss_cons (ps_for PassesOwn.never rfl (pi_range1 (by rfl) T.m_range (pa_cons pe_int pa_nil)) (pg_name (i := 2) sc_law.nd rfl (by first | exact .inl rfl | exact .inr rfl)) (pss_cons (ps_set (i := 3) sc_law.nd rfl (by first | exact .inl rfl | exact .inr rfl) (pe_call C_law_prime.ok (hr.mono (by decide)) (by rfl) C_law_prime.at_ C_law_prime.kp C_law_prime.b .nil pass0 (pa_cons (pv 1) pa_nil)))
      (pss_cons (ps_set (i := 4) sc_law.nd rfl (by first | exact .inl rfl | exact .inr rfl) (pe_call C_law_places.ok (hr.mono (by decide)) (by rfl) C_law_places.at_ C_law_places.kp C_law_places.b .nil pass0 (pa_cons (pv 1) (pa_cons (pe_call C_law_draw.ok (hr.mono (by decide)) (by rfl) C_law_draw.at_ C_law_draw.kp C_law_draw.b .nil pass0 (pa_cons (pv 1) (pa_cons pe_int pa_nil))) pa_nil))))
      (pss_one (ps_if (pt_not (pt_val (pe_callG C_law_right.ok hga (hr.mono (by decide)) (by rfl) C_law_right.at_ C_law_right.kp C_law_right.b .nil pass0 (pa_cons (pv 1) (pa_cons (pv 4) (pa_cons (pv 3) pa_nil)))))) (pss_one (ps_ret pe_bl)) pss_nil)))))
      (pss_one (ps_ret pe_bl)))), ?_⟩
    walk_at "st"
    refine ⟨a, ns, rfl, hS, hlen, fun s c H1 s1 st1 => ?_⟩
    walk_at "st"
    refine lp_by (walk_range (lo := 0) (n := Int.toNat 4)) (fun i σ' H' => ∃ x2 x3 x4, σ' = [some (.ref a), some (.ref s), x2, x3, x4] ∧ St s c H') ⟨_, _, _, rfl, st1⟩ (fun _ _ _ _ _ => trivial) (fun i x σ' H2 H2' hi p y => ?_) (fun σ' H2 p => ?_)
    · obtain ⟨x2, x3, x4, rfl, st2⟩ := p
      obtain ⟨rfl, rfl⟩ := y
      walk_at "st"
      refine ⟨s, c, rfl, st2, fun b H3 k3 st3 hb => ?_⟩
      have hq := prime14_in hb
      walk_at "st"
      refine ⟨s, c, 6, rfl, st3, by omega, fun d4 H4 k4 st4 hd4 => ?_⟩
      walk_at "st"
      refine ⟨s, c, d4, rfl, st4, by omega, fun l zs H5 k5 st5 nl el ln nd gz => ?_⟩
      have ol := st4.out nl
      walk_at "st"
      walk_at "if"
      refine ⟨s, c, l, b, zs, rfl, st5, el, ol, nd, by omega, gz, hq, fun H6 k6 st6 => ?_⟩
      walk_at "st"
      exact ⟨_, _, _, rfl, st6⟩
    · obtain ⟨x2, x3, x4, rfl, st2⟩ := p
      walk_at "st"
      exact q _
end
/-! ### what the top has written; the law -/
theorem all_mk {l : PySem.W.OpenLaw} {w : World} {K : PySem.W.Frag} {h : Heap} {mg : Str → Option Value} {fa : Addr} (X : K.In h) (G : h.Ns mainGlobals mg) (hfa : mg "law" = some (.ref fa))
    {od1 an1 : Option Addr} {sl1 : Array (Option Value)} {oc1 kV1 dc1 pm1 cd1 ct1 : Value} {f1 : Addr}
    {od2 an2 : Option Addr} {sl2 : Array (Option Value)} {oc2 kV2 dc2 pm2 cd2 ct2 : Value} {f2 : Addr}
    {od3 an3 : Option Addr} {sl3 : Array (Option Value)} {oc3 kV3 dc3 pm3 cd3 ct3 : Value} {f3 : Addr}
    {od4 an4 : Option Addr} {sl4 : Array (Option Value)} {oc4 kV4 dc4 pm4 cd4 ct4 : Value} {f4 : Addr}
    {od5 an5 : Option Addr} {sl5 : Array (Option Value)} {oc5 kV5 dc5 pm5 cd5 ct5 : Value} {f5 : Addr}
    {od6 an6 : Option Addr} {sl6 : Array (Option Value)} {oc6 kV6 dc6 pm6 cd6 ct6 : Value} {f6 : Addr}
    {od7 an7 : Option Addr} {sl7 : Array (Option Value)} {oc7 kV7 dc7 pm7 cd7 ct7 : Value} {f7 : Addr}
    {od8 an8 : Option Addr} {sl8 : Array (Option Value)} {oc8 kV8 dc8 pm8 cd8 ct8 : Value} {f8 : Addr}
    {od9 an9 : Option Addr} {sl9 : Array (Option Value)} {oc9 kV9 dc9 pm9 cd9 ct9 : Value} {f9 : Addr}
    {od10 an10 : Option Addr} {sl10 : Array (Option Value)} {oc10 kV10 dc10 pm10 cd10 ct10 : Value} {f10 : Addr}
    {od11 an11 : Option Addr} {sl11 : Array (Option Value)} {oc11 kV11 dc11 pm11 cd11 ct11 : Value} {f11 : Addr}
    {od12 an12 : Option Addr} {sl12 : Array (Option Value)} {oc12 kV12 dc12 pm12 cd12 ct12 : Value} {f12 : Addr}
    {od13 an13 : Option Addr} {sl13 : Array (Option Value)} {oc13 kV13 dc13 pm13 cd13 ct13 : Value} {f13 : Addr}
    {od14 an14 : Option Addr} {sl14 : Array (Option Value)} {oc14 kV14 dc14 pm14 cd14 ct14 : Value} {f14 : Addr}
    {od15 an15 : Option Addr} {sl15 : Array (Option Value)} {oc15 kV15 dc15 pm15 cd15 ct15 : Value} {f15 : Addr}
    {od16 an16 : Option Addr} {sl16 : Array (Option Value)} {oc16 kV16 dc16 pm16 cd16 ct16 : Value} {f16 : Addr}
    {od17 an17 : Option Addr} {sl17 : Array (Option Value)} {oc17 kV17 dc17 pm17 cd17 ct17 : Value} {f17 : Addr}
    {od18 an18 : Option Addr} {sl18 : Array (Option Value)} {oc18 kV18 dc18 pm18 cd18 ct18 : Value} {f18 : Addr}
    {od19 an19 : Option Addr} {sl19 : Array (Option Value)} {oc19 kV19 dc19 pm19 cd19 ct19 : Value} {f19 : Addr}
    {od20 an20 : Option Addr} {sl20 : Array (Option Value)} {oc20 kV20 dc20 pm20 cd20 ct20 : Value} {f20 : Addr}
    {od21 an21 : Option Addr} {sl21 : Array (Option Value)} {oc21 kV21 dc21 pm21 cd21 ct21 : Value} {f21 : Addr}
    {od22 an22 : Option Addr} {sl22 : Array (Option Value)} {oc22 kV22 dc22 pm22 cd22 ct22 : Value} {f22 : Addr}
    {od23 an23 : Option Addr} {sl23 : Array (Option Value)} {oc23 kV23 dc23 pm23 cd23 ct23 : Value} {f23 : Addr}
    {od24 an24 : Option Addr} {sl24 : Array (Option Value)} {oc24 kV24 dc24 pm24 cd24 ct24 : Value} {f24 : Addr}
    {od25 an25 : Option Addr} {sl25 : Array (Option Value)} {oc25 kV25 dc25 pm25 cd25 ct25 : Value} {f25 : Addr}
    (a1 : PySem.W.nsIn K mainGlobals "is_whole" = some (some (.ref f1))) (l1 : K.lookup f1 = some ⟨oc1, od1, .func (PySem.W.fnOf "is_whole" "is_whole" (defArgs s_is_whole) (defBody s_is_whole) (defScope s_is_whole) .none kV1 dc1 pm1 an1 cd1 ct1), sl1⟩) (c1 : PySem.W.codeIn K cd1 "is_whole" = true) (k1 : PySem.W.keepIn K (.ref f1) = true)
    (a2 : PySem.W.nsIn K mainGlobals "is_number" = some (some (.ref f2))) (l2 : K.lookup f2 = some ⟨oc2, od2, .func (PySem.W.fnOf "is_number" "is_number" (defArgs s_is_number) (defBody s_is_number) (defScope s_is_number) .none kV2 dc2 pm2 an2 cd2 ct2), sl2⟩) (c2 : PySem.W.codeIn K cd2 "is_number" = true) (k2 : PySem.W.keepIn K (.ref f2) = true)
    (a3 : PySem.W.nsIn K mainGlobals "is_place" = some (some (.ref f3))) (l3 : K.lookup f3 = some ⟨oc3, od3, .func (PySem.W.fnOf "is_place" "is_place" (defArgs s_is_place) (defBody s_is_place) (defScope s_is_place) .none kV3 dc3 pm3 an3 cd3 ct3), sl3⟩) (c3 : PySem.W.codeIn K cd3 "is_place" = true) (k3 : PySem.W.keepIn K (.ref f3) = true)
    (a4 : PySem.W.nsIn K mainGlobals "has_only" = some (some (.ref f4))) (l4 : K.lookup f4 = some ⟨oc4, od4, .func (PySem.W.fnOf "has_only" "has_only" (defArgs s_has_only) (defBody s_has_only) (defScope s_has_only) .none kV4 dc4 pm4 an4 cd4 ct4), sl4⟩) (c4 : PySem.W.codeIn K cd4 "has_only" = true) (k4 : PySem.W.keepIn K (.ref f4) = true)
    (a5 : PySem.W.nsIn K mainGlobals "is_tuple" = some (some (.ref f5))) (l5 : K.lookup f5 = some ⟨oc5, od5, .func (PySem.W.fnOf "is_tuple" "is_tuple" (defArgs s_is_tuple) (defBody s_is_tuple) (defScope s_is_tuple) .none kV5 dc5 pm5 an5 cd5 ct5), sl5⟩) (c5 : PySem.W.codeIn K cd5 "is_tuple" = true) (k5 : PySem.W.keepIn K (.ref f5) = true)
    (a6 : PySem.W.nsIn K mainGlobals "do_rise" = some (some (.ref f6))) (l6 : K.lookup f6 = some ⟨oc6, od6, .func (PySem.W.fnOf "do_rise" "do_rise" (defArgs s_do_rise) (defBody s_do_rise) (defScope s_do_rise) .none kV6 dc6 pm6 an6 cd6 ct6), sl6⟩) (c6 : PySem.W.codeIn K cd6 "do_rise" = true) (k6 : PySem.W.keepIn K (.ref f6) = true)
    (a7 : PySem.W.nsIn K mainGlobals "is_form" = some (some (.ref f7))) (l7 : K.lookup f7 = some ⟨oc7, od7, .func (PySem.W.fnOf "is_form" "is_form" (defArgs s_is_form) (defBody s_is_form) (defScope s_is_form) .none kV7 dc7 pm7 an7 cd7 ct7), sl7⟩) (c7 : PySem.W.codeIn K cd7 "is_form" = true) (k7 : PySem.W.keepIn K (.ref f7) = true)
    (a8 : PySem.W.nsIn K mainGlobals "is_term" = some (some (.ref f8))) (l8 : K.lookup f8 = some ⟨oc8, od8, .func (PySem.W.fnOf "is_term" "is_term" (defArgs s_is_term) (defBody s_is_term) (defScope s_is_term) .none kV8 dc8 pm8 an8 cd8 ct8), sl8⟩) (c8 : PySem.W.codeIn K cd8 "is_term" = true) (k8 : PySem.W.keepIn K (.ref f8) = true)
    (a9 : PySem.W.nsIn K mainGlobals "new_form" = some (some (.ref f9))) (l9 : K.lookup f9 = some ⟨oc9, od9, .func (PySem.W.fnOf "new_form" "new_form" (defArgs s_new_form) (defBody s_new_form) (defScope s_new_form) .none kV9 dc9 pm9 an9 cd9 ct9), sl9⟩) (c9 : PySem.W.codeIn K cd9 "new_form" = true) (k9 : PySem.W.keepIn K (.ref f9) = true)
    (a10 : PySem.W.nsIn K mainGlobals "place_form" = some (some (.ref f10))) (l10 : K.lookup f10 = some ⟨oc10, od10, .func (PySem.W.fnOf "place_form" "place_form" (defArgs s_place_form) (defBody s_place_form) (defScope s_place_form) .none kV10 dc10 pm10 an10 cd10 ct10), sl10⟩) (c10 : PySem.W.codeIn K cd10 "place_form" = true) (k10 : PySem.W.keepIn K (.ref f10) = true)
    (a11 : PySem.W.nsIn K mainGlobals "sum_of" = some (some (.ref f11))) (l11 : K.lookup f11 = some ⟨oc11, od11, .func (PySem.W.fnOf "sum_of" "sum_of" (defArgs s_sum_of) (defBody s_sum_of) (defScope s_sum_of) .none kV11 dc11 pm11 an11 cd11 ct11), sl11⟩) (c11 : PySem.W.codeIn K cd11 "sum_of" = true) (k11 : PySem.W.keepIn K (.ref f11) = true)
    (a12 : PySem.W.nsIn K mainGlobals "times_of" = some (some (.ref f12))) (l12 : K.lookup f12 = some ⟨oc12, od12, .func (PySem.W.fnOf "times_of" "times_of" (defArgs s_times_of) (defBody s_times_of) (defScope s_times_of) .none kV12 dc12 pm12 an12 cd12 ct12), sl12⟩) (c12 : PySem.W.codeIn K cd12 "times_of" = true) (k12 : PySem.W.keepIn K (.ref f12) = true)
    (a13 : PySem.W.nsIn K mainGlobals "put_in" = some (some (.ref f13))) (l13 : K.lookup f13 = some ⟨oc13, od13, .func (PySem.W.fnOf "put_in" "put_in" (defArgs s_put_in) (defBody s_put_in) (defScope s_put_in) .none kV13 dc13 pm13 an13 cd13 ct13), sl13⟩) (c13 : PySem.W.codeIn K cd13 "put_in" = true) (k13 : PySem.W.keepIn K (.ref f13) = true)
    (a14 : PySem.W.nsIn K mainGlobals "worth_of" = some (some (.ref f14))) (l14 : K.lookup f14 = some ⟨oc14, od14, .func (PySem.W.fnOf "worth_of" "worth_of" (defArgs s_worth_of) (defBody s_worth_of) (defScope s_worth_of) .none kV14 dc14 pm14 an14 cd14 ct14), sl14⟩) (c14 : PySem.W.codeIn K cd14 "worth_of" = true) (k14 : PySem.W.keepIn K (.ref f14) = true)
    (a15 : PySem.W.nsIn K mainGlobals "_law_begun" = some (some (.ref f15))) (l15 : K.lookup f15 = some ⟨oc15, od15, .func (PySem.W.fnOf "_law_begun" "_law_begun" (defArgs s_law_begun) (defBody s_law_begun) (defScope s_law_begun) .none kV15 dc15 pm15 an15 cd15 ct15), sl15⟩) (c15 : PySem.W.codeIn K cd15 "_law_begun" = true) (k15 : PySem.W.keepIn K (.ref f15) = true)
    (a16 : PySem.W.nsIn K mainGlobals "_law_draw" = some (some (.ref f16))) (l16 : K.lookup f16 = some ⟨oc16, od16, .func (PySem.W.fnOf "_law_draw" "_law_draw" (defArgs s_law_draw) (defBody s_law_draw) (defScope s_law_draw) .none kV16 dc16 pm16 an16 cd16 ct16), sl16⟩) (c16 : PySem.W.codeIn K cd16 "_law_draw" = true) (k16 : PySem.W.keepIn K (.ref f16) = true)
    (a17 : PySem.W.nsIn K mainGlobals "_law_prime" = some (some (.ref f17))) (l17 : K.lookup f17 = some ⟨oc17, od17, .func (PySem.W.fnOf "_law_prime" "_law_prime" (defArgs s_law_prime) (defBody s_law_prime) (defScope s_law_prime) .none kV17 dc17 pm17 an17 cd17 ct17), sl17⟩) (c17 : PySem.W.codeIn K cd17 "_law_prime" = true) (k17 : PySem.W.keepIn K (.ref f17) = true)
    (a18 : PySem.W.nsIn K mainGlobals "_law_place" = some (some (.ref f18))) (l18 : K.lookup f18 = some ⟨oc18, od18, .func (PySem.W.fnOf "_law_place" "_law_place" (defArgs s_law_place) (defBody s_law_place) (defScope s_law_place) .none kV18 dc18 pm18 an18 cd18 ct18), sl18⟩) (c18 : PySem.W.codeIn K cd18 "_law_place" = true) (k18 : PySem.W.keepIn K (.ref f18) = true)
    (a19 : PySem.W.nsIn K mainGlobals "_law_places" = some (some (.ref f19))) (l19 : K.lookup f19 = some ⟨oc19, od19, .func (PySem.W.fnOf "_law_places" "_law_places" (defArgs s_law_places) (defBody s_law_places) (defScope s_law_places) .none kV19 dc19 pm19 an19 cd19 ct19), sl19⟩) (c19 : PySem.W.codeIn K cd19 "_law_places" = true) (k19 : PySem.W.keepIn K (.ref f19) = true)
    (a20 : PySem.W.nsIn K mainGlobals "_law_form" = some (some (.ref f20))) (l20 : K.lookup f20 = some ⟨oc20, od20, .func (PySem.W.fnOf "_law_form" "_law_form" (defArgs s_law_form) (defBody s_law_form) (defScope s_law_form) .none kV20 dc20 pm20 an20 cd20 ct20), sl20⟩) (c20 : PySem.W.codeIn K cd20 "_law_form" = true) (k20 : PySem.W.keepIn K (.ref f20) = true)
    (a21 : PySem.W.nsIn K mainGlobals "_law_table" = some (some (.ref f21))) (l21 : K.lookup f21 = some ⟨oc21, od21, .func (PySem.W.fnOf "_law_table" "_law_table" (defArgs s_law_table) (defBody s_law_table) (defScope s_law_table) .none kV21 dc21 pm21 an21 cd21 ct21), sl21⟩) (c21 : PySem.W.codeIn K cd21 "_law_table" = true) (k21 : PySem.W.keepIn K (.ref f21) = true)
    (a22 : PySem.W.nsIn K mainGlobals "_law_owed" = some (some (.ref f22))) (l22 : K.lookup f22 = some ⟨oc22, od22, .func (PySem.W.fnOf "_law_owed" "_law_owed" (defArgs s_law_owed) (defBody s_law_owed) (defScope s_law_owed) .none kV22 dc22 pm22 an22 cd22 ct22), sl22⟩) (c22 : PySem.W.codeIn K cd22 "_law_owed" = true) (k22 : PySem.W.keepIn K (.ref f22) = true)
    (a23 : PySem.W.nsIn K mainGlobals "_law_put" = some (some (.ref f23))) (l23 : K.lookup f23 = some ⟨oc23, od23, .func (PySem.W.fnOf "_law_put" "_law_put" (defArgs s_law_put) (defBody s_law_put) (defScope s_law_put) .none kV23 dc23 pm23 an23 cd23 ct23), sl23⟩) (c23 : PySem.W.codeIn K cd23 "_law_put" = true) (k23 : PySem.W.keepIn K (.ref f23) = true)
    (a24 : PySem.W.nsIn K mainGlobals "_law_right" = some (some (.ref f24))) (l24 : K.lookup f24 = some ⟨oc24, od24, .func (PySem.W.fnOf "_law_right" "_law_right" (defArgs s_law_right) (defBody s_law_right) (defScope s_law_right) .none kV24 dc24 pm24 an24 cd24 ct24), sl24⟩) (c24 : PySem.W.codeIn K cd24 "_law_right" = true) (k24 : PySem.W.keepIn K (.ref f24) = true)
    (a25 : PySem.W.nsIn K mainGlobals "law" = some (some (.ref f25))) (l25 : K.lookup f25 = some ⟨oc25, od25, .func (PySem.W.fnOf "law" "law" (defArgs s_law) (defBody s_law) (defScope s_law) .none kV25 dc25 pm25 an25 cd25 ct25), sl25⟩) (c25 : PySem.W.codeIn K cd25 "law" = true) (k25 : PySem.W.keepIn K (.ref f25) = true)
    (z_abs : PySem.W.nsIn K mainGlobals "abs" = some none)
    (z_all : PySem.W.nsIn K mainGlobals "all" = some none)
    (z_bool : PySem.W.nsIn K mainGlobals "bool" = some none)
    (z_dict : PySem.W.nsIn K mainGlobals "dict" = some none)
    (z_int : PySem.W.nsIn K mainGlobals "int" = some none)
    (z_isinstance : PySem.W.nsIn K mainGlobals "isinstance" = some none)
    (z_len : PySem.W.nsIn K mainGlobals "len" = some none)
    (z_list : PySem.W.nsIn K mainGlobals "list" = some none)
    (z_range : PySem.W.nsIn K mainGlobals "range" = some none)
    (z_repr : PySem.W.nsIn K mainGlobals "repr" = some none)
    (z_sorted : PySem.W.nsIn K mainGlobals "sorted" = some none)
    (z_str : PySem.W.nsIn K mainGlobals "str" = some none)
    (z_sum : PySem.W.nsIn K mainGlobals "sum" = some none)
    (z_tuple : PySem.W.nsIn K mainGlobals "tuple" = some none)
    (z_zip : PySem.W.nsIn K mainGlobals "zip" = some none)
    {t_FIGURES : Tok} (y_FIGURES : PySem.W.nsIn K mainGlobals "FIGURES" = some (some (.str "0123456789" t_FIGURES)))
    {t_LETTERS : Tok} (y_LETTERS : PySem.W.nsIn K mainGlobals "LETTERS" = some (some (.str "abcdefghijklmnopqrstuvwxyz" t_LETTERS)))
    {t_LONGEST_PLACE : Tok} (y_LONGEST_PLACE : PySem.W.nsIn K mainGlobals "LONGEST_PLACE" = some (some (.int 40 t_LONGEST_PLACE))) :
    ∃ fd : FuncData, (∀ (s : Shared) (v : Value), BindsTo s fd ⟨[v], []⟩ [("script", v)]) ∧ ∀ base : Heap, K.In base → base.Ns mainGlobals mg → FnG l.prog w K mg base 6 fa fd ["script"] (sp_law K) := by
  have e := hfa.symm.trans (PySem.W.mg_of X G a25)
  cases e
  have G1 := fun_mk (st := s_is_whole) l1 c1 k1
  have F1 : Here K mg "is_whole" s_is_whole ["thing"] f1 _ := ⟨G1, PySem.W.mg_of X G a1, G1.binds (ps := ["thing"]) fun _ _ _ _ _ _ us hl => match us, hl with | [_], _ => rfl⟩
  have G2 := fun_mk (st := s_is_number) l2 c2 k2
  have F2 : Here K mg "is_number" s_is_number ["thing", "p"] f2 _ := ⟨G2, PySem.W.mg_of X G a2, G2.binds (ps := ["thing", "p"]) fun _ _ _ _ _ _ us hl => match us, hl with | [_, _], _ => rfl⟩
  have G3 := fun_mk (st := s_is_place) l3 c3 k3
  have F3 : Here K mg "is_place" s_is_place ["thing"] f3 _ := ⟨G3, PySem.W.mg_of X G a3, G3.binds (ps := ["thing"]) fun _ _ _ _ _ _ us hl => match us, hl with | [_], _ => rfl⟩
  have G4 := fun_mk (st := s_has_only) l4 c4 k4
  have F4 : Here K mg "has_only" s_has_only ["text", "signs"] f4 _ := ⟨G4, PySem.W.mg_of X G a4, G4.binds (ps := ["text", "signs"]) fun _ _ _ _ _ _ us hl => match us, hl with | [_, _], _ => rfl⟩
  have G5 := fun_mk (st := s_is_tuple) l5 c5 k5
  have F5 : Here K mg "is_tuple" s_is_tuple ["thing", "least", "most"] f5 _ := ⟨G5, PySem.W.mg_of X G a5, G5.binds (ps := ["thing", "least", "most"]) fun _ _ _ _ _ _ us hl => match us, hl with | [_, _, _], _ => rfl⟩
  have G6 := fun_mk (st := s_do_rise) l6 c6 k6
  have F6 : Here K mg "do_rise" s_do_rise ["things"] f6 _ := ⟨G6, PySem.W.mg_of X G a6, G6.binds (ps := ["things"]) fun _ _ _ _ _ _ us hl => match us, hl with | [_], _ => rfl⟩
  have G7 := fun_mk (st := s_is_form) l7 c7 k7
  have F7 : Here K mg "is_form" s_is_form ["thing", "p"] f7 _ := ⟨G7, PySem.W.mg_of X G a7, G7.binds (ps := ["thing", "p"]) fun _ _ _ _ _ _ us hl => match us, hl with | [_, _], _ => rfl⟩
  have G8 := fun_mk (st := s_is_term) l8 c8 k8
  have F8 : Here K mg "is_term" s_is_term ["thing", "p"] f8 _ := ⟨G8, PySem.W.mg_of X G a8, G8.binds (ps := ["thing", "p"]) fun _ _ _ _ _ _ us hl => match us, hl with | [_, _], _ => rfl⟩
  have G9 := fun_mk (st := s_new_form) l9 c9 k9
  have F9 : Here K mg "new_form" s_new_form ["n", "pairs", "p"] f9 _ := ⟨G9, PySem.W.mg_of X G a9, G9.binds (ps := ["n", "pairs", "p"]) fun _ _ _ _ _ _ us hl => match us, hl with | [_, _, _], _ => rfl⟩
  have G10 := fun_mk (st := s_place_form) l10 c10 k10
  have F10 : Here K mg "place_form" s_place_form ["place"] f10 _ := ⟨G10, PySem.W.mg_of X G a10, G10.binds (ps := ["place"]) fun _ _ _ _ _ _ us hl => match us, hl with | [_], _ => rfl⟩
  have G11 := fun_mk (st := s_sum_of) l11 c11 k11
  have F11 : Here K mg "sum_of" s_sum_of ["a", "b", "p"] f11 _ := ⟨G11, PySem.W.mg_of X G a11, G11.binds (ps := ["a", "b", "p"]) fun _ _ _ _ _ _ us hl => match us, hl with | [_, _, _], _ => rfl⟩
  have G12 := fun_mk (st := s_times_of) l12 c12 k12
  have F12 : Here K mg "times_of" s_times_of ["a", "n", "p"] f12 _ := ⟨G12, PySem.W.mg_of X G a12, G12.binds (ps := ["a", "n", "p"]) fun _ _ _ _ _ _ us hl => match us, hl with | [_, _, _], _ => rfl⟩
  have G13 := fun_mk (st := s_put_in) l13 c13 k13
  have F13 : Here K mg "put_in" s_put_in ["form", "forms", "p"] f13 _ := ⟨G13, PySem.W.mg_of X G a13, G13.binds (ps := ["form", "forms", "p"]) fun _ _ _ _ _ _ us hl => match us, hl with | [_, _, _], _ => rfl⟩
  have G14 := fun_mk (st := s_worth_of) l14 c14 k14
  have F14 : Here K mg "worth_of" s_worth_of ["form", "worths", "p"] f14 _ := ⟨G14, PySem.W.mg_of X G a14, G14.binds (ps := ["form", "worths", "p"]) fun _ _ _ _ _ _ us hl => match us, hl with | [_, _, _], _ => rfl⟩
  have G15 := fun_mk (st := s_law_begun) l15 c15 k15
  have F15 : Here K mg "_law_begun" s_law_begun ["script"] f15 _ := ⟨G15, PySem.W.mg_of X G a15, G15.binds (ps := ["script"]) fun _ _ _ _ _ _ us hl => match us, hl with | [_], _ => rfl⟩
  have G16 := fun_mk (st := s_law_draw) l16 c16 k16
  have F16 : Here K mg "_law_draw" s_law_draw ["state", "many"] f16 _ := ⟨G16, PySem.W.mg_of X G a16, G16.binds (ps := ["state", "many"]) fun _ _ _ _ _ _ us hl => match us, hl with | [_, _], _ => rfl⟩
  have G17 := fun_mk (st := s_law_prime) l17 c17 k17
  have F17 : Here K mg "_law_prime" s_law_prime ["state"] f17 _ := ⟨G17, PySem.W.mg_of X G a17, G17.binds (ps := ["state"]) fun _ _ _ _ _ _ us hl => match us, hl with | [_], _ => rfl⟩
  have G18 := fun_mk (st := s_law_place) l18 c18 k18
  have F18 : Here K mg "_law_place" s_law_place ["state"] f18 _ := ⟨G18, PySem.W.mg_of X G a18, G18.binds (ps := ["state"]) fun _ _ _ _ _ _ us hl => match us, hl with | [_], _ => rfl⟩
  have G19 := fun_mk (st := s_law_places) l19 c19 k19
  have F19 : Here K mg "_law_places" s_law_places ["state", "many"] f19 _ := ⟨G19, PySem.W.mg_of X G a19, G19.binds (ps := ["state", "many"]) fun _ _ _ _ _ _ us hl => match us, hl with | [_, _], _ => rfl⟩
  have G20 := fun_mk (st := s_law_form) l20 c20 k20
  have F20 : Here K mg "_law_form" s_law_form ["state", "places", "q"] f20 _ := ⟨G20, PySem.W.mg_of X G a20, G20.binds (ps := ["state", "places", "q"]) fun _ _ _ _ _ _ us hl => match us, hl with | [_, _, _], _ => rfl⟩
  have G21 := fun_mk (st := s_law_table) l21 c21 k21
  have F21 : Here K mg "_law_table" s_law_table ["lot", "times"] f21 _ := ⟨G21, PySem.W.mg_of X G a21, G21.binds (ps := ["lot", "times"]) fun _ _ _ _ _ _ us hl => match us, hl with | [_, _], _ => rfl⟩
  have G22 := fun_mk (st := s_law_owed) l22 c22 k22
  have F22 : Here K mg "_law_owed" s_law_owed ["tables", "q"] f22 _ := ⟨G22, PySem.W.mg_of X G a22, G22.binds (ps := ["tables", "q"]) fun _ _ _ _ _ _ us hl => match us, hl with | [_, _], _ => rfl⟩
  have G23 := fun_mk (st := s_law_put) l23 c23 k23
  have F23 : Here K mg "_law_put" s_law_put ["lot", "lots", "q"] f23 _ := ⟨G23, PySem.W.mg_of X G a23, G23.binds (ps := ["lot", "lots", "q"]) fun _ _ _ _ _ _ us hl => match us, hl with | [_, _, _], _ => rfl⟩
  have G24 := fun_mk (st := s_law_right) l24 c24 k24
  have F24 : Here K mg "_law_right" s_law_right ["state", "places", "q"] f24 _ := ⟨G24, PySem.W.mg_of X G a24, G24.binds (ps := ["state", "places", "q"]) fun _ _ _ _ _ _ us hl => match us, hl with | [_, _, _], _ => rfl⟩
  have G25 := fun_mk (st := s_law) l25 c25 k25
  have F25 : Here K mg "law" s_law ["script"] fa _ := ⟨G25, PySem.W.mg_of X G a25, G25.binds (ps := ["script"]) fun _ _ _ _ _ _ us hl => match us, hl with | [_], _ => rfl⟩
  have T : Tx K mg := ⟨⟨_, PySem.W.mg_of X G y_FIGURES⟩, ⟨_, PySem.W.mg_of X G y_LETTERS⟩, ⟨_, PySem.W.mg_of X G y_LONGEST_PLACE⟩, PySem.W.mg_none_of X G z_abs, PySem.W.mg_none_of X G z_all, PySem.W.mg_none_of X G z_bool, PySem.W.mg_none_of X G z_dict, PySem.W.mg_none_of X G z_int, PySem.W.mg_none_of X G z_isinstance, PySem.W.mg_none_of X G z_len, PySem.W.mg_none_of X G z_list, PySem.W.mg_none_of X G z_range, PySem.W.mg_none_of X G z_repr, PySem.W.mg_none_of X G z_sorted, PySem.W.mg_none_of X G z_str, PySem.W.mg_none_of X G z_sum, PySem.W.mg_none_of X G z_tuple, PySem.W.mg_none_of X G z_zip⟩
  refine ⟨PySem.W.fnOf "law" "law" (defArgs s_law) (defBody s_law) (defScope s_law) .none kV25 dc25 pm25 an25 cd25 ct25, fun s v => .of_eq rfl, fun base _ _ => ?_⟩
  have C_law_begun := ok_law_begun (P := l.prog) (w := w) (base := base) T  F15
  have C_law_draw := ok_law_draw (P := l.prog) (w := w) (base := base) T  F16
  have C_law_prime := ok_law_prime (P := l.prog) (w := w) (base := base) T C_law_draw F17
  have C_law_place := ok_law_place (P := l.prog) (w := w) (base := base) T C_law_draw F18
  have C_law_places := ok_law_places (P := l.prog) (w := w) (base := base) T C_law_place C_law_draw F19
  have C_new_form := ok_new_form (P := l.prog) (w := w) (base := base) T  F9
  have C_place_form := ok_place_form (P := l.prog) (w := w) (base := base) T  F10
  have C_put_in := ok_put_in (P := l.prog) (w := w) (base := base) T C_new_form C_place_form F13
  have C_law_form := ok_law_form (P := l.prog) (w := w) (base := base) T C_law_draw F20
  have C_worth_of := ok_worth_of (P := l.prog) (w := w) (base := base) T  F14
  have C_sum_of := ok_sum_of (P := l.prog) (w := w) (base := base) T C_new_form F11
  have C_law_owed := ok_law_owed (P := l.prog) (w := w) (base := base) T  F22
  have C_times_of := ok_times_of (P := l.prog) (w := w) (base := base) T C_new_form F12
  have C_is_tuple := ok_is_tuple (P := l.prog) (w := w) (base := base) T  F5
  have C_do_rise := ok_do_rise (P := l.prog) (w := w) (base := base) T  F6
  have C_is_whole := ok_is_whole (P := l.prog) (w := w) (base := base) T  F1
  have C_is_number := ok_is_number (P := l.prog) (w := w) (base := base) T C_is_whole F2
  have C_has_only := ok_has_only (P := l.prog) (w := w) (base := base) T  F4
  have C_is_place := ok_is_place (P := l.prog) (w := w) (base := base) T C_has_only F3
  have C_is_term := ok_is_term (P := l.prog) (w := w) (base := base) T C_is_tuple C_is_place C_is_number F8
  have C_is_form := ok_is_form (P := l.prog) (w := w) (base := base) T C_is_tuple C_do_rise C_is_number C_is_term F7
  have C_law_table := ok_law_table (P := l.prog) (w := w) (base := base) T  F21
  have C_law_put := ok_law_put (P := l.prog) (w := w) (base := base) T C_law_owed C_law_table F23
  have C_law_right := ok_law_right (P := l.prog) (w := w) (base := base) T C_put_in C_law_form C_law_draw C_worth_of C_sum_of C_law_owed C_times_of C_is_form C_law_put C_law_table F24
  have C_law := ok_law (P := l.prog) (w := w) (base := base) T C_law_begun C_law_prime C_law_places C_law_draw C_law_right F25
  exact C_law
end Z
open PySem PySem.W PyProof.Rows
set_option maxHeartbeats 0 in
theorem PySem.Challenge.cw_onetrace_k03_forms_reckoned_holds : PySem.Challenge.rw_onetrace_k03_forms_reckoned.Holds := by
  w_on; o_law; k_head; (case hw => w_witness2)
  k_fill
  refine Z.walkG_of (l := PySem.Challenge.rw_onetrace_k03_forms_reckoned) (n := 63) (k := 6) (x := "script") (sp := fun w => Z.sp_law _) rfl (by decide) rfl ⟨rfl, by decide, by decide⟩ (fun w h Y => PySem.W.kIn_of Y) ?F (fun _ _ a ns hl _ hS => ⟨a, ns, rfl, hS, hl, fun _ => rfl⟩)
  case F =>
    intro w mg fa h KX G hmg
    refine' Z.all_mk KX G hmg ?a1 ?l1 ?c1 ?k1 ?a2 ?l2 ?c2 ?k2 ?a3 ?l3 ?c3 ?k3 ?a4 ?l4 ?c4 ?k4 ?a5 ?l5 ?c5 ?k5 ?a6 ?l6 ?c6 ?k6 ?a7 ?l7 ?c7 ?k7 ?a8 ?l8 ?c8 ?k8 ?a9 ?l9 ?c9 ?k9 ?a10 ?l10 ?c10 ?k10 ?a11 ?l11 ?c11 ?k11 ?a12 ?l12 ?c12 ?k12 ?a13 ?l13 ?c13 ?k13 ?a14 ?l14 ?c14 ?k14 ?a15 ?l15 ?c15 ?k15 ?a16 ?l16 ?c16 ?k16 ?a17 ?l17 ?c17 ?k17 ?a18 ?l18 ?c18 ?k18 ?a19 ?l19 ?c19 ?k19 ?a20 ?l20 ?c20 ?k20 ?a21 ?l21 ?c21 ?k21 ?a22 ?l22 ?c22 ?k22 ?a23 ?l23 ?c23 ?k23 ?a24 ?l24 ?c24 ?k24 ?a25 ?l25 ?c25 ?k25 ?z_abs ?z_all ?z_bool ?z_dict ?z_int ?z_isinstance ?z_len ?z_list ?z_range ?z_repr ?z_sorted ?z_str ?z_sum ?z_tuple ?z_zip ?y_FIGURES ?y_LETTERS ?y_LONGEST_PLACE
    (case a1 => k_is)
    (case l1 => k_is)
    (case c1 => k_is)
    (case k1 => k_is)
    (case a2 => k_is)
    (case l2 => k_is)
    (case c2 => k_is)
    (case k2 => k_is)
    (case a3 => k_is)
    (case l3 => k_is)
    (case c3 => k_is)
    (case k3 => k_is)
    (case a4 => k_is)
    (case l4 => k_is)
    (case c4 => k_is)
    (case k4 => k_is)
    (case a5 => k_is)
    (case l5 => k_is)
    (case c5 => k_is)
    (case k5 => k_is)
    (case a6 => k_is)
    (case l6 => k_is)
    (case c6 => k_is)
    (case k6 => k_is)
    (case a7 => k_is)
    (case l7 => k_is)
    (case c7 => k_is)
    (case k7 => k_is)
    (case a8 => k_is)
    (case l8 => k_is)
    (case c8 => k_is)
    (case k8 => k_is)
    (case a9 => k_is)
    (case l9 => k_is)
    (case c9 => k_is)
    (case k9 => k_is)
    (case a10 => k_is)
    (case l10 => k_is)
    (case c10 => k_is)
    (case k10 => k_is)
    (case a11 => k_is)
    (case l11 => k_is)
    (case c11 => k_is)
    (case k11 => k_is)
    (case a12 => k_is)
    (case l12 => k_is)
    (case c12 => k_is)
    (case k12 => k_is)
    (case a13 => k_is)
    (case l13 => k_is)
    (case c13 => k_is)
    (case k13 => k_is)
    (case a14 => k_is)
    (case l14 => k_is)
    (case c14 => k_is)
    (case k14 => k_is)
    (case a15 => k_is)
    (case l15 => k_is)
    (case c15 => k_is)
    (case k15 => k_is)
    (case a16 => k_is)
    (case l16 => k_is)
    (case c16 => k_is)
    (case k16 => k_is)
    (case a17 => k_is)
    (case l17 => k_is)
    (case c17 => k_is)
    (case k17 => k_is)
    (case a18 => k_is)
    (case l18 => k_is)
    (case c18 => k_is)
    (case k18 => k_is)
    (case a19 => k_is)
    (case l19 => k_is)
    (case c19 => k_is)
    (case k19 => k_is)
    (case a20 => k_is)
    (case l20 => k_is)
    (case c20 => k_is)
    (case k20 => k_is)
    (case a21 => k_is)
    (case l21 => k_is)
    (case c21 => k_is)
    (case k21 => k_is)
    (case a22 => k_is)
    (case l22 => k_is)
    (case c22 => k_is)
    (case k22 => k_is)
    (case a23 => k_is)
    (case l23 => k_is)
    (case c23 => k_is)
    (case k23 => k_is)
    (case a24 => k_is)
    (case l24 => k_is)
    (case c24 => k_is)
    (case k24 => k_is)
    (case a25 => k_is)
    (case l25 => k_is)
    (case c25 => k_is)
    (case k25 => k_is)
    (case z_abs => k_is)
    (case z_all => k_is)
    (case z_bool => k_is)
    (case z_dict => k_is)
    (case z_int => k_is)
    (case z_isinstance => k_is)
    (case z_len => k_is)
    (case z_list => k_is)
    (case z_range => k_is)
    (case z_repr => k_is)
    (case z_sorted => k_is)
    (case z_str => k_is)
    (case z_sum => k_is)
    (case z_tuple => k_is)
    (case z_zip => k_is)
    (case y_FIGURES => k_is)
    (case y_LETTERS => k_is)
    (case y_LONGEST_PLACE => k_is)
