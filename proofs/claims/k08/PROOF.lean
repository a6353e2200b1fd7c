import PyProof.Rows.All
import Wide.All
import OpenK.AllK
import Wide.FinOn
import HandS.ForMost
import HandS.Wide
import HandS.Zip
import HandS.Walk
import HandS.IsInst
import HandS.TupAny
import HandS.Style
import HandS.SortOrd
import HandS.Remove
import KE.DataFind
import KE.GoesEnum
import HandS.TupMul
import HandS.Star
import PyProof.NeKinds
import HandS.DictComp
import HandS.DictTup
import HandS.Conv
import KE.KDictDisplayH
import HandS.Small
import PySem.Challenge.RW_onetrace_k08_products_and_nulls
set_option Elab.async false
set_option linter.all false
set_option maxRecDepth 100000
set_option maxHeartbeats 4000000
namespace Z
open PySem PySem.Spec PyProof.Rows L2 RZ
/-- a def that is called: where it stands, what it promises -/
structure Cal (P : Program) (w : World) (K : PySem.W.Frag) (mg : Str → Option Value) (base : Heap) (x : Str) (k : Nat) (ps : List Str) (sp : Sp) (st : Stmt) (f : Addr) (fd : FuncData) : Prop where
  ok : FnOk P w K mg base CX0 k f fd ps sp
  at_ : mg x = some (.ref f)
  kp : PySem.W.keepIn K (.ref f) = true
  b : Binds K fd ps []
  fn : Fun K x x st f fd
/-- a def as it stands behind the top -/
structure Here (K : PySem.W.Frag) (mg : Str → Option Value) (x : Str) (st : Stmt) (ps : List Str) (f : Addr) (fd : FuncData) : Prop where
  fn : Fun K x x st f fd
  at_ : mg x = some (.ref f)
  b : Binds K fd ps []
section
variable {P : Program} {w : World} {K : PySem.W.Frag} {mg : Str → Option Value} {base : Heap}
theorem Here.cal {x : Str} {st : Stmt} {ps N : List Str} {f : Addr} {fd : FuncData} {k : Nat} {sp : Sp} (F : Here K mg x st ps f fd) (S : FnScope N ps (defScope st)) (len : ∀ vs H Q E, sp vs H Q E → vs.length = ps.length)
    (hbody : ∀ (cdv : Value) (A : Around) (outer : List Env) (s : Shared) (H : Hp) (vs : List V) (Q : VK) (E : XK), Room k (A.deeper (envOfC x (defScope st) s.heap.objs.size f cdv)) → sp vs H Q E →
      ∃ t, PSs (cxOf CX0 P w K mg base N x (defScope st) f cdv A outer s H E).nox (defBody st) t ∧ t { nx := fun _ H' => Q .non H', rt := Q } (L2.start N vs) H) : Cal P w K mg base x (k + 1) ps sp st f fd :=
  ⟨F.fn.ok S len hbody, F.at_, F.fn.kp, F.b, F.fn⟩
end
/-! readings, rule by rule -/
def rLen (K : PySem.W.Frag) : List V → Hp → VK → Prop := fun xs H Q => ∃ p ys, xs = [.ref p] ∧ (SqL K H p ys ∨ SqT K H p ys) ∧ Q (.int ys.length) H
theorem cr_len {X : Cx} : CallR X (.builtin "len") (rLen X.K) := call_len_seq
theorem r_app0 {l : Addr} {xs : List V} {y : V} {H : Hp} {Q : VK} (h : H l = some (.lst xs)) (z : xs.length < sizeLine) (q : Q .non (upd H l (.lst (xs ++ [y])))) : rAppend (.ref l) [y] H Q := ⟨l, xs, y, rfl, rfl, h, z, q⟩
theorem r_ty {K : PySem.W.Frag} {l : Addr} {xs : List V} {H : Hp} {A : Prop} (h : H l = some (.lst xs)) (q : A) : tyV K "list" (.ref l) H ∧ A := ⟨.inl ⟨rfl, _, .inl (.inl h)⟩, q⟩
theorem r_all {K : PySem.W.Frag} {a : Addr} {bs : List Bool} {H : Hp} {Q : VK} (h : SqL K H a (bs.map V.bl)) (q : Q (.bl (bs.all id)) H) : rAll K [.ref a] H Q := ⟨a, bs, rfl, h, q⟩
theorem r_sum {K : PySem.W.Frag} {a : Addr} {ns : List Int} {H : Hp} {Q : VK} (h : SqL K H a (ns.map V.int)) (q : Q (.int ns.sum) H) : rSum K [.ref a] H Q := ⟨a, ns, rfl, h, q⟩
theorem r_isi {K : PySem.W.Frag} {x c : V} {t u : Value} {b : Bool} {H : Hp} {Q : VK} (h1 : ClsV c u) (h2 : TyX K H x t) (h3 : PySem.W.kitOne K t u = some b) (q : Q (.bl b) H) : rIsi K [x, c] H Q := ⟨x, c, t, u, b, rfl, h1, h2, h3, q⟩
def rAbs : List V → Hp → VK → Prop := fun xs H Q => ∃ i, xs = [.int i] ∧ Q (.int (if i < 0 then -i else i)) H
theorem cr_abs {X : Cx} : CallR X (.builtin "abs") rAbs := call_abs
def rListOf (K : PySem.W.Frag) : List V → Hp → VK → Prop := fun xs H Q => ∃ p ys, xs = [.ref p] ∧ (SqL K H p ys ∨ SqT K H p ys) ∧ ∀ l, H l = none → Q (.ref l) (upd H l (.lst ys))
theorem cr_listOf {X : Cx} : CallR X (.type "list") (rListOf X.K) := call_list_of
def rTupOf (K : PySem.W.Frag) : List V → Hp → VK → Prop := fun xs H Q => ∃ p ys, xs = [.ref p] ∧ ((SqL K H p ys ∧ ∀ l, H l = none → Q (.ref l) (upd H l (.tup ys))) ∨ (SqT K H p ys ∧ Q (.ref p) H))
theorem cr_tupOf {X : Cx} : CallR X (.type "tuple") (rTupOf X.K) := call_tuple_of
section
variable {K : PySem.W.Frag} {D : Ends} {σ : L2.St} {H : Hp} {Q : VK}
theorem r_seq {t u : TS} (h : t { D with nx := u D } σ H) : tSeq t u D σ H := h
theorem r_asg {te : TE} {g : TG} (h : te σ H fun x H1 => g x σ H1 D.nx) : tAsg te g D σ H := h
theorem r_gname {i : Nat} {v : V} {N : L2.St → Hp → Prop} (h : N (σ.set i (some v)) H) : gName i v σ H N := h
theorem r_var {i : Nat} {v : V} (e : σ[i]? = some (some v)) (h : Q v H) : tVar i σ H Q := ⟨v, e, h⟩
theorem r_c {v : V} (h : Q v H) : tC v σ H Q := h
theorem r_op {r : R2} {ta tb : TE} (h : ta σ H fun x H1 => tb σ H1 fun y H2 => r x y H2 Q) : tOp r ta tb σ H Q := h
theorem r_i0 {g : Int → Int → V} {i j : Int} (h : Q (g i j) H) : rI0 g (.int i) (.int j) H Q := ⟨i, j, rfl, rfl, h⟩
theorem r_i {C : Int → Int → Prop} {g : Int → Int → V} {i j : Int} (c : C i j) (h : Q (g i j) H) : rI C g (.int i) (.int j) H Q := ⟨i, j, rfl, rfl, c, h⟩
theorem r_ixl {p : Addr} {xs : List V} {i : Int} {v : V} (h : SqL K H p xs) (e : atI xs i = some v) (q : Q v H) : rIxL K (.ref p) (.int i) H Q := ⟨p, xs, i, v, rfl, rfl, h, e, q⟩
theorem r_ixt {p : Addr} {xs : List V} {i : Int} {v : V} (h : SqT K H p xs) (e : atI xs i = some v) (q : Q v H) : rIxT K (.ref p) (.int i) H Q := ⟨p, xs, i, v, rfl, rfl, h, e, q⟩
theorem r_cb {r : List V → Hp → VK → Prop} {t : TA} (h : t σ H fun vs H1 => r vs H1 Q) : tCB r t σ H Q := h
theorem r_cons {ta : TE} {tr : TA} {R : List V → Hp → Prop} (h : ta σ H fun x H1 => tr σ H1 fun xs H2 => R (x :: xs) H2) : tCons ta tr σ H R := h
theorem r_nil {R : List V → Hp → Prop} (h : R [] H) : tNil σ H R := h
theorem r_len {p : Addr} {ys : List V} (h : SqL K H p ys) (q : Q (.int ys.length) H) : rLen K [.ref p] H Q := ⟨p, ys, rfl, .inl h, q⟩
theorem r_lent {p : Addr} {ys : List V} (h : SqT K H p ys) (q : Q (.int ys.length) H) : rLen K [.ref p] H Q := ⟨p, ys, rfl, .inr h, q⟩
theorem r_abs {i : Int} (q : Q (.int (if i < 0 then -i else i)) H) : rAbs [.int i] H Q := ⟨i, rfl, q⟩
theorem r_listl {p : Addr} {ys : List V} (h : SqL K H p ys) (q : ∀ l, H l = none → Q (.ref l) (upd H l (.lst ys))) : rListOf K [.ref p] H Q := ⟨p, ys, rfl, .inl h, q⟩
theorem r_listt {p : Addr} {ys : List V} (h : SqT K H p ys) (q : ∀ l, H l = none → Q (.ref l) (upd H l (.lst ys))) : rListOf K [.ref p] H Q := ⟨p, ys, rfl, .inr h, q⟩
theorem r_tupl {p : Addr} {ys : List V} (h : SqL K H p ys) (q : ∀ l, H l = none → Q (.ref l) (upd H l (.tup ys))) : rTupOf K [.ref p] H Q := ⟨p, ys, rfl, .inl ⟨h, q⟩⟩
theorem r_tupt {p : Addr} {ys : List V} (h : SqT K H p ys) (q : Q (.ref p) H) : rTupOf K [.ref p] H Q := ⟨p, ys, rfl, .inr ⟨h, q⟩⟩
theorem r_if {c : TT} {t u : TS} (h : c σ H fun b H1 => if b = true then t D σ H1 else u D σ H1) : tIfS c t u D σ H := h
theorem r_ife {c : TT} {t u : TE} (h : c σ H fun b H1 => if b = true then t σ H1 Q else u σ H1 Q) : tIf c t u σ H Q := h
theorem r_test {te : TE} {R : Bool → Hp → Prop} (h : te σ H fun x H' => ∃ k, x = .bl k ∧ R k H') : tTest te σ H R := h
theorem r_bl {b : Bool} {R : Bool → Prop} (h : R b) : ∃ k, V.bl b = .bl k ∧ R k := ⟨b, rfl, h⟩
theorem r_ite {p : Prop} {inst : Decidable p} {A B : Prop} (h1 : p → A) (h2 : ¬p → B) : if decide p = true then A else B := by
  by_cases h : p
  · rw [if_pos (decide_eq_true h)]; exact h1 h
  · rw [if_neg (by simpa using h)]; exact h2 h
theorem r_tand {t u : TT} {R : Bool → Hp → Prop} (h : t σ H fun c H1 => if c = true then u σ H1 R else R false H1) : tAnd t u σ H R := h
theorem r_tor {t u : TT} {R : Bool → Hp → Prop} (h : t σ H fun c H1 => if c = true then R true H1 else u σ H1 R) : tOr t u σ H R := h
theorem r_tnot {t : TT} {R : Bool → Hp → Prop} (h : t σ H fun c H1 => R (!c) H1) : tNot t σ H R := h
theorem r_andv {ta tb : TE} (h : ta σ H fun x H1 => ∃ c, x = .bl c ∧ if c = true then tb σ H1 Q else Q (.bl false) H1) : tAndV ta tb σ H Q := h
theorem r_orv {ta tb : TE} (h : ta σ H fun x H1 => ∃ c, x = .bl c ∧ if c = true then Q (.bl true) H1 else tb σ H1 Q) : tOrV ta tb σ H Q := h
theorem r_notv {ta : TE} (h : ta σ H fun x H1 => ∃ c, x = .bl c ∧ Q (.bl (!c)) H1) : tNotV ta σ H Q := h
theorem r_chain {r r' : R2} {ta tb tc : TE} (h : ta σ H fun x H1 => tb σ H1 fun y H2 => r x y H2 fun z H3 => ∃ k, z = .bl k ∧ (if k = true then tc σ H3 fun w' H4 => r' y w' H4 Q else Q (.bl false) H3)) : tChain r r' ta tb tc σ H Q := h
theorem r_t {A B : Prop} (h : A) : if true = true then A else B := by rw [if_pos rfl]; exact h
theorem r_f {A B : Prop} (h : B) : if false = true then A else B := by rw [if_neg (by decide)]; exact h
theorem r_nt {A B : Prop} (h : B) : if (!true) = true then A else B := by rw [if_neg (by decide)]; exact h
theorem r_nf {A B : Prop} (h : A) : if (!false) = true then A else B := by rw [if_pos (by decide)]; exact h
theorem r_bm {T : String} {r : V → List V → Hp → VK → Prop} {to : TE} {t : TA} (h : to σ H fun x H1 => tyV K T x H1 ∧ t σ H1 fun xs H2 => r x xs H2 Q) : tBM K T r to t σ H Q := h
theorem r_sl {r : V → Option Int → Option Int → Hp → VK → Prop} {te : TE} {tl th : TO} (h : te σ H fun x H1 => tl σ H1 fun l H2 => th σ H2 fun u H3 => r x l u H3 Q) : tSl r te tl th σ H Q := h
theorem r_sll {a : Addr} {xs : List V} {lo hi : Option Int} (h : SqL K H a xs) (q : ∀ p, H p = none → Q (.ref p) (upd H p (.lst (cutV xs lo hi)))) : rSlL K (.ref a) lo hi H Q := ⟨a, xs, rfl, h, q⟩
theorem r_nopart {R : Option Int → Hp → Prop} (h : R none H) : tNoPart σ H R := h
theorem r_part {te : TE} {R : Option Int → Hp → Prop} (h : te σ H fun x H1 => ∃ i, x = .int i ∧ R (some i) H1) : tPart te σ H R := h
theorem r_parti {i : Int} {R : Int → Prop} (h : R i) : ∃ j, V.int i = .int j ∧ R j := ⟨i, rfl, h⟩
theorem r_yes {R : Bool → Hp → Prop} (h : R true H) : tYes σ H R := h
theorem r_sz {xs : List V} {B : Prop} (e : Nat.ble xs.length 1000 = true) (h : B) : xs.length ≤ sizeLine ∧ B := ⟨Nat.le_trans (Nat.le_of_ble_eq_true e) (by decide), h⟩
theorem r_iteB {b : Bool} {A B : Prop} (h1 : b = true → A) (h2 : b = false → B) : if b = true then A else B := by
  cases b with
  | true => rw [if_pos rfl]; exact h1 rfl
  | false => rw [if_neg (by decide)]; exact h2 rfl
theorem r_tb {t : TE} {R : Bool → Hp → Prop} (h : t σ H fun x H1 => ∃ c, x = .bl c ∧ R c H1) : tB t σ H R := h
theorem r_un {r : V → Hp → VK → Prop} {ta : TE} (h : ta σ H fun x H1 => r x H1 Q) : tUn r ta σ H Q := h
theorem r_u {g : Int → V} {i : Int} (h : Q (g i) H) : rU g (.int i) H Q := ⟨i, rfl, h⟩
theorem r_ret {te : TE} (h : te σ H D.rt) : tRet te D σ H := h
theorem r_gsub {to ti : TE} {t : TSet} {v : V} {N : L2.St → Hp → Prop} (h : to σ H fun o H1 => ti σ H1 fun i H2 => t o i v H2 fun H3 => N σ H3) : gSub to ti t v σ H N := h
theorem r_setl {p : Addr} {xs : List V} {k : Int} {j : Nat} {v : V} {R : Hp → Prop} (h : H p = some (.lst xs)) (e : ixN xs.length k = some j) (q : R (upd H p (.lst (xs.set j v)))) : rSetL (.ref p) (.int k) v H R := ⟨p, xs, k, j, rfl, rfl, h, e, q⟩
theorem r_next (h : D.nx σ H) : tNext D σ H := h
theorem r_call {sp : Sp} {dvs : List V} {E : XK} {t : TA} (h : t σ H fun vs H1 => sp (vs ++ dvs) H1 Q E) : tCall sp dvs E t σ H Q := h
theorem r_lst {t : TA} (h : t σ H fun xs H1 => xs.length ≤ sizeLine ∧ ∀ p, H1 p = none → Q (.ref p) (upd H1 p (.lst xs))) : tLst t σ H Q := h
theorem r_tup {t : TA} (h : t σ H fun xs H1 => xs.length ≤ sizeLine ∧ ∀ p, H1 p = none → Q (.ref p) (upd H1 p (.tup xs))) : tTup t σ H Q := h
theorem r_drop {te : TE} (h : te σ H fun _ H1 => D.nx σ H1) : tDrop te D σ H := h
theorem r_eq {x y : V} (s : scal x y = true) (q : Q (.bl (decide (x = y))) H) : rEq x y H Q := ⟨s, q⟩
theorem r_ne {x y : V} (s : scal x y = true) (q : Q (.bl (!decide (x = y))) H) : rNe x y H Q := ⟨s, q⟩
theorem hl_new {H : Hp} {a b : Addr} {o u : HO} (h : H a = some o) (n : H b = none) : upd H b u a = some o := (upd_ne (ne_of_none h n)).trans h
theorem hl_set {H : Hp} {a b : Addr} {o u : HO} (n : a ≠ b) (h : H a = some o) : upd H b u a = some o := (upd_ne n).trans h
end

/-! ### what stands at an address, over the heaps -/
def Kp (S : List Addr) (H H' : Hp) : Prop := ∀ b o, H b = some o → b ∉ S → H' b = some o
theorem Kp.refl {S : List Addr} {H : Hp} : Kp S H H := fun _ _ h _ => h
theorem Kp.trans {S : List Addr} {H H1 H2 : Hp} (a : Kp S H H1) (b : Kp S H1 H2) : Kp S H H2 := fun x o h n => b x o (a x o h n) n
theorem Kp.new {S : List Addr} {H : Hp} {p : Addr} {x : HO} (n : H p = none) : Kp S H (upd H p x) := fun b o h _ => hl_new h n
theorem Kp.set {S : List Addr} {H : Hp} {p : Addr} {x : HO} (m : p ∈ S) : Kp S H (upd H p x) := fun b o h n => hl_set (fun e => n (e ▸ m)) h
/-- a thing made since H is changed -/
theorem Kp.own {S : List Addr} {H H1 : Hp} {p : Addr} {x : HO} (k : Kp S H H1) (n : H p = none) : Kp S H (upd H1 p x) := fun b o h m => hl_set (ne_of_none h n) (k b o h m)
theorem Kp.sub {S S' : List Addr} {H H' : Hp} (k : Kp S H H') (m : ∀ a ∈ S, a ∈ S') : Kp S' H H' := fun b o h n => k b o h fun z => n (m b z)
theorem Kp.ofSame {S : List Addr} {H H' : Hp} (k : Same H H') : Kp S H H' := fun b o h _ => k b o h
theorem Kp.nil {H H' : Hp} (k : Kp [] H H') : Same H H' := fun b o h => k b o h (by simp)
theorem Kp.free {S : List Addr} {H H' : Hp} (k : Kp S H H') {p : Addr} (n : H' p = none) (m : p ∉ S) : H p = none := by
  cases q : H p with
  | none => rfl
  | some o => rw [k p o q m] at n; cases n
theorem Same.upd_new {H : Hp} {p : Addr} {x : HO} (n : H p = none) : Same H (upd H p x) := fun b o h => hl_new h n
theorem hl_kp {S : List Addr} {H H' : Hp} {a : Addr} {o : HO} (k : Kp S H H') (n : a ∉ S) (h : H a = some o) : H' a = some o := k _ _ h n
theorem hl_same {H H' : Hp} {a : Addr} {o : HO} (k : Same H H') (h : H a = some o) : H' a = some o := k _ _ h
/-- every object outside S stands, outside S' -/
def Lft (S : List Addr) (H : Hp) (S' : List Addr) (H' : Hp) : Prop := ∀ a o, H a = some o → a ∉ S → H' a = some o ∧ a ∉ S'
theorem Lft.refl {S : List Addr} {H : Hp} : Lft S H S H := fun _ _ h n => ⟨h, n⟩
theorem Lft.trans {S S1 S2 : List Addr} {H H1 H2 : Hp} (a : Lft S H S1 H1) (b : Lft S1 H1 S2 H2) : Lft S H S2 H2 := fun x o h n => b x o (a x o h n).1 (a x o h n).2
theorem Lft.new {S : List Addr} {H : Hp} {p : Addr} {x : HO} (n : H p = none) : Lft S H S (upd H p x) := fun _ _ h m => ⟨hl_new h n, m⟩
theorem Lft.set {S : List Addr} {H : Hp} {p : Addr} {x : HO} (m : p ∈ S) : Lft S H S (upd H p x) := fun _ _ h n => ⟨hl_set (fun e => n (e ▸ m)) h, n⟩
theorem Lft.kp {S S1 : List Addr} {H H1 : Hp} (k : Kp S H H1) (m : ∀ a ∈ S, a ∈ S1) : Lft S1 H S1 H1 := fun b o h n => ⟨k b o h fun z => n (m b z), n⟩
theorem Lft.same {S : List Addr} {H H1 : Hp} (k : Same H H1) : Lft S H S H1 := fun b o h n => ⟨k b o h, n⟩
theorem Lft.own {S : List Addr} {H : Hp} {p : Addr} {x : HO} (n : H p = none) : Lft S H (p :: S) (upd H p x) := fun a _ h m => ⟨hl_new h n, fun z => by
  rcases List.mem_cons.mp z with e | e
  · exact ne_of_none h n e
  · exact m e⟩
theorem Lft.sub {S S' : List Addr} {H : Hp} (m : ∀ a ∈ S', a ∈ S) : Lft S H S' H := fun a _ h n => ⟨h, fun z => n (m a z)⟩
/-- plain data -/
inductive O where
  | non | bl (b : Bool) | int (i : Int) | str (x : Str) | tup (os : List O) | lst (os : List O) | dct
mutual
inductive Rep (S : List Addr) (H : Hp) : V → O → Prop
  | non : Rep S H .non .non
  | bl (b : Bool) : Rep S H (.bl b) (.bl b)
  | int (i : Int) : Rep S H (.int i) (.int i)
  | str (x : Str) : Rep S H (.str x) (.str x)
  | tup {a : Addr} {xs : List V} {os : List O} : H a = some (.tup xs) → a ∉ S → RepAll S H xs os → Rep S H (.ref a) (.tup os)
  | lst {a : Addr} {xs : List V} {os : List O} : H a = some (.lst xs) → a ∉ S → RepAll S H xs os → Rep S H (.ref a) (.lst os)
  | dct {a : Addr} {kvs : List (Key × V)} : H a = some (.dK kvs) → a ∉ S → Rep S H (.ref a) .dct
inductive RepAll (S : List Addr) (H : Hp) : List V → List O → Prop
  | nil : RepAll S H [] []
  | cons {v : V} {vs : List V} {o : O} {os : List O} : Rep S H v o → RepAll S H vs os → RepAll S H (v :: vs) (o :: os)
end
mutual
theorem Rep.to {S S' : List Addr} {H H' : Hp} (k : Lft S H S' H') : ∀ {v : V} {o : O}, Rep S H v o → Rep S' H' v o
  | _, _, .non => .non
  | _, _, .bl b => .bl b
  | _, _, .int i => .int i
  | _, _, .str x => .str x
  | _, _, .tup h n r => .tup (k _ _ h n).1 (k _ _ h n).2 (RepAll.to k r)
  | _, _, .lst h n r => .lst (k _ _ h n).1 (k _ _ h n).2 (RepAll.to k r)
  | _, _, .dct h n => .dct (k _ _ h n).1 (k _ _ h n).2
theorem RepAll.to {S S' : List Addr} {H H' : Hp} (k : Lft S H S' H') : ∀ {vs : List V} {os : List O}, RepAll S H vs os → RepAll S' H' vs os
  | _, _, .nil => .nil
  | _, _, .cons r t => .cons (Rep.to k r) (RepAll.to k t)
end
section
variable {S : List Addr} {H : Hp}
theorem RepAll.length : ∀ {vs : List V} {os : List O}, RepAll S H vs os → vs.length = os.length
  | _, _, .nil => rfl
  | _, _, .cons _ t => congrArg (· + 1) (RepAll.length t)
theorem RepAll.get : ∀ {vs : List V} {os : List O} {i : Nat} {v : V}, RepAll S H vs os → vs[i]? = some v → ∃ o, os[i]? = some o ∧ Rep S H v o
  | _, _, _, _, .nil, e => by simp at e
  | _, _, 0, _, .cons r _, e => by simp at e; subst e; exact ⟨_, rfl, r⟩
  | _, _, i + 1, v, .cons _ t, e => by
    obtain ⟨o, h1, h2⟩ := RepAll.get (i := i) (v := v) t (by simpa using e)
    exact ⟨o, by simpa using h1, h2⟩
theorem RepAll.append : ∀ {vs us : List V} {os qs : List O}, RepAll S H vs os → RepAll S H us qs → RepAll S H (vs ++ us) (os ++ qs)
  | _, _, _, _, .nil, s => s
  | _, _, _, _, .cons r t, s => .cons r (RepAll.append t s)
theorem RepAll.take : ∀ {vs : List V} {os : List O} (n : Nat), RepAll S H vs os → RepAll S H (vs.take n) (os.take n)
  | _, _, 0, _ => .nil
  | _, _, _ + 1, .nil => .nil
  | _, _, n + 1, .cons r t => .cons r (RepAll.take n t)
theorem RepAll.drop : ∀ {vs : List V} {os : List O} (n : Nat), RepAll S H vs os → RepAll S H (vs.drop n) (os.drop n)
  | _, _, 0, r => r
  | _, _, _ + 1, .nil => .nil
  | _, _, n + 1, .cons _ t => RepAll.drop n t
theorem RepAll.ints : ∀ (ns : List Int), RepAll S H (ns.map V.int) (ns.map O.int)
  | [] => .nil
  | n :: ns => .cons (.int n) (RepAll.ints ns)
theorem RepAll.ints_inv : ∀ {ns : List Int} {vs : List V}, RepAll S H vs (ns.map O.int) → vs = ns.map V.int
  | [], _, .nil => rfl
  | n :: ns, _, .cons r t => by cases r; rw [RepAll.ints_inv t]; rfl
theorem Rep.tupInv {v : V} {os : List O} (r : Rep S H v (.tup os)) : ∃ a xs, v = .ref a ∧ H a = some (.tup xs) ∧ a ∉ S ∧ RepAll S H xs os := by
  cases r with
  | tup h n t => exact ⟨_, _, rfl, h, n, t⟩
end
/-! ### the drawn state -/
structure StAt (s c : Addr) (H : Hp) (cs : List Int) (j r : Int) : Prop where
  hs : H s = some (.lst [.ref c, .int j, .int r])
  hc : H c = some (.lst (cs.map .int))
  ne : cs ≠ []
  nn : ∀ x ∈ cs, 0 ≤ x
  len : cs.length ≤ 1000
  hj : 0 ≤ j
  hr : 0 ≤ r
  hr' : r < 2147483647
def St (s c : Addr) (H : Hp) : Prop := s ≠ c ∧ ∃ cs j r, StAt s c H cs j r
theorem St.out {s c p : Addr} {H : Hp} (h : St s c H) (n : H p = none) : p ∉ [s, c] := by
  obtain ⟨_, cs, j, r, h⟩ := h
  intro z
  rcases List.mem_cons.mp z with e | z
  · rw [e, h.hs] at n; cases n
  · rw [List.mem_singleton.mp z, h.hc] at n; cases n
theorem St.same {s c : Addr} {H H' : Hp} (h : St s c H) (k : Same H H') : St s c H' := by
  obtain ⟨n, cs, j, r, h⟩ := h
  exact ⟨n, cs, j, r, k _ _ h.hs, k _ _ h.hc, h.ne, h.nn, h.len, h.hj, h.hr, h.hr'⟩
theorem St.new {s c p : Addr} {H : Hp} {x : HO} (h : St s c H) (n : H p = none) : St s c (upd H p x) := h.same (Same.upd_new n)
theorem St.set {s c p : Addr} {H : Hp} {x : HO} (h : St s c H) (n : p ∉ [s, c]) : St s c (upd H p x) := by
  obtain ⟨n0, cs, j, r, h⟩ := h
  exact ⟨n0, cs, j, r, hl_set (fun e => n (by simp [e])) h.hs, hl_set (fun e => n (by simp [e])) h.hc, h.ne, h.nn, h.len, h.hj, h.hr, h.hr'⟩
/-! ### loops and comprehensions -/
section
variable {K : PySem.W.Frag} {D : Ends} {σ : L2.St} {H : Hp} {Q : VK}
def Lp (J : It) (g : TG) (tb : TS) (D : Ends) (σ : L2.St) (H1 : Hp) : Prop := ∃ W : Nat → Nat → L2.St → Hp → Prop, (∃ m, W 0 m σ H1) ∧ ∀ i m σ H, W i m σ H →
  (J.stop i H ∧ D.nx σ H) ∨ (J.go i H ∧ ∃ N : L2.St → Hp → Prop, (∀ σ' H', N σ' H' → ∃ m', m' < m ∧ W (i + 1) m' σ' H') ∧ ∀ x H', J.yld i H x H' → g x σ H' fun σ2 H2 => tb { D with nx := N, ct := N, bk := D.nx } σ2 H2)
theorem r_for {wi : TI} {g : TG} {tb : TS} (h : wi σ H fun J H1 => Lp J g tb D σ H1) : tFor wi g tb D σ H := h
def Rg1 (R : It → Hp → Prop) (vs : List V) (H : Hp) : Prop := ∃ j : Int, vs = [.int j] ∧ -(2 ^ 62) ≤ j ∧ j < 2 ^ 62 ∧ R (Itr 0 j.toNat) H
theorem r_irng1 {ta : TA} {R : It → Hp → Prop} (h : ta σ H (Rg1 R)) : iRng1 ta σ H R := h
theorem r_rg1 {R : It → Hp → Prop} {j : Int} (c : -(2 ^ 62) ≤ j ∧ j < 2 ^ 62) (h : R (Itr 0 j.toNat) H) : Rg1 R [.int j] H := ⟨j, rfl, c.1, c.2, h⟩
def Rg2 (R : It → Hp → Prop) (vs : List V) (H : Hp) : Prop := ∃ i j : Int, vs = [.int i, .int j] ∧ (-(2 ^ 62) ≤ i ∧ i < 2 ^ 62 ∧ -(2 ^ 62) ≤ j ∧ j < 2 ^ 62) ∧ R (Itr i (j - i).toNat) H
theorem r_irng2 {ta : TA} {R : It → Hp → Prop} (h : ta σ H (Rg2 R)) : iRng2 ta σ H R := h
theorem r_rg2 {R : It → Hp → Prop} {i j : Int} (c : -(2 ^ 62) ≤ i ∧ i < 2 ^ 62 ∧ -(2 ^ 62) ≤ j ∧ j < 2 ^ 62) (h : R (Itr i (j - i).toNat) H) : Rg2 R [.int i, .int j] H := ⟨i, j, rfl, c, h⟩
def IlR (K : PySem.W.Frag) (R : It → Hp → Prop) (x : V) (H : Hp) : Prop := ∃ a, x = .ref a ∧ (∃ xs, SqL K H a xs) ∧ R (Itl K a) H
theorem r_ilist {tl : TE} {R : It → Hp → Prop} (h : tl σ H (IlR K R)) : iList K tl σ H R := h
theorem r_il {R : It → Hp → Prop} {a : Addr} {xs : List V} (e : SqL K H a xs) (h : R (Itl K a) H) : IlR K R (.ref a) H := ⟨a, rfl, ⟨xs, e⟩, h⟩
def ItR (K : PySem.W.Frag) (R : It → Hp → Prop) (x : V) (H : Hp) : Prop := ∃ a, x = .ref a ∧ (∃ xs, SqT K H a xs) ∧ R (Itt K a) H
theorem r_itup {tl : TE} {R : It → Hp → Prop} (h : tl σ H (ItR K R)) : iTup K tl σ H R := h
theorem r_it {R : It → Hp → Prop} {a : Addr} {xs : List V} (e : SqT K H a xs) (h : R (Itt K a) H) : ItR K R (.ref a) H := ⟨a, rfl, ⟨xs, e⟩, h⟩
def IzR (K : PySem.W.Frag) (R : It → Hp → Prop) (vs : List V) (H1 : Hp) : Prop := ∃ a b xs ys, vs = [.ref a, .ref b] ∧ ((SqL K H1 a xs ∧ SqL K H1 b ys ∧ R (Itz K a b) H1) ∨ (SqT K H1 a xs ∧ SqT K H1 b ys ∧ R (ItzT K a b) H1))
theorem r_izip {ta : TA} {R : It → Hp → Prop} (h : ta σ H (IzR K R)) : iZipA K ta σ H R := h
theorem r_izt {R : It → Hp → Prop} {a b : Addr} {xs ys : List V} (e1 : SqT K H a xs) (e2 : SqT K H b ys) (h : R (ItzT K a b) H) : IzR K R [.ref a, .ref b] H := ⟨a, b, xs, ys, rfl, .inr ⟨e1, e2, h⟩⟩
theorem lp_by {J : It} {n : Nat} {G : Hp → Prop} {Y : Nat → Hp → V → Hp → Prop} (w : Walk J n G Y) {g : TG} {tb : TS} (Pv : Nat → L2.St → Hp → Prop) (h0 : Pv 0 σ H) (hG : ∀ i σ H, i ≤ n → Pv i σ H → G H)
    (hs : ∀ i x σ H H', i < n → Pv i σ H → Y i H x H' → g x σ H' fun σ2 H2 => tb { D with nx := Pv (i + 1), ct := Pv (i + 1), bk := D.nx } σ2 H2) (hd : ∀ σ H, Pv n σ H → D.nx σ H) : Lp J g tb D σ H := for_it w Pv h0 hG hs hd
/-- ways that meet: what holds of slots and heap where they do -/
theorem r_join {c : TT} {t u : TS} (G : L2.St → Hp → Prop) (h2 : ∀ σ' H', G σ' H' → D.nx σ' H') (h1 : ∀ N : L2.St → Hp → Prop, (∀ σ' H', G σ' H' → N σ' H') → tIfS c t u { D with nx := N } σ H) : tIfS c t u D σ H := h1 D.nx h2
theorem r_joinE {te : TE} (G : V → Hp → Prop) (h2 : ∀ v H', G v H' → Q v H') (h1 : ∀ Q' : VK, (∀ v H', G v H' → Q' v H') → te σ H Q') : te σ H Q := h1 Q h2
theorem r_joinT {te : TT} {R : Bool → Hp → Prop} (G : Bool → Hp → Prop) (h2 : ∀ v H', G v H' → R v H') (h1 : ∀ R' : Bool → Hp → Prop, (∀ v H', G v H' → R' v H') → te σ H R') : te σ H R := h1 R h2
theorem walk_zipT {a b : Addr} {xs ys : List V} {n : Nat} (hn : n = min xs.length ys.length) : Walk (ItzT K a b) n (fun H => SqT K H a xs ∧ SqT K H b ys) (YPair (fun i => xs[i]?) (fun i => ys[i]?)) where
  goes := fun i H hi h => ⟨xs, ys, xs[i]'(by omega), ys[i]'(by omega), h.1, h.2, List.getElem?_eq_getElem (by omega), List.getElem?_eq_getElem (by omega)⟩
  stops := fun H h => ⟨xs, ys, h.1, h.2, by omega⟩
  yields := fun i H x H' _ h y => by
    obtain ⟨T, x1, y1, e1, e2, e3, e4, e5⟩ := y
    exact ⟨T, x1, y1, e1, e2, e3, e4 xs h.1, e5 ys h.2⟩
/-- a comprehension's turns -/
def Lc (J : It) (g : TG) (tt : TT) (te : TE) (vs : List Nat) (σ : L2.St) (D : Addr) (Q : VK) (H1 : Hp) : Prop := ∃ W : Nat → Nat → Hp → Prop, (∃ m, W 0 m (upd H1 D (.lst []))) ∧ ∀ i m H, W i m H →
  (J.stop i H ∧ Q (.ref D) H) ∨ (J.go i H ∧ ∃ Nx : Hp → Prop, (∀ H', Nx H' → ∃ m', m' < m ∧ W (i + 1) m' H') ∧ ∀ x H', J.yld i H x H' → g x (wipe σ vs) H' fun σ2 H2 => wipe σ2 vs = wipe σ vs ∧ tt σ2 H2 fun b H3 =>
    if b = true then te σ2 H3 fun y H4 => ∃ acc, H4 D = some (.lst acc) ∧ acc.length < sizeLine ∧ Nx (upd H4 D (.lst (acc ++ [y]))) else Nx H3)
theorem r_lc {wi : TI} {g : TG} {tt : TT} {te : TE} {vs : List Nat} (h : wi σ H fun J H1 => ∀ D, H1 D = none → Lc J g tt te vs σ D Q H1) : tLc wi g tt te vs σ H Q := h
/-- what an item's part of a turn is to reach: kept with a value, or not kept -/
def LcT (g : TG) (tt : TT) (te : TE) (vs : List Nat) (σ : L2.St) (x : V) (H : Hp) (Y : V → Hp → Prop) (No : Hp → Prop) : Prop :=
  g x (wipe σ vs) H fun σ2 H2 => wipe σ2 vs = wipe σ vs ∧ tt σ2 H2 fun b H3 => if b = true then te σ2 H3 Y else No H3
/-- the list is made of the values kept: R i says what the i-th turn's part is -/
theorem lc_by {J : It} {n : Nat} {G : Hp → Prop} {Yd : Nat → Hp → V → Hp → Prop} (w : Walk J n G Yd) {g : TG} {tt : TT} {te : TE} {vs : List Nat} {D : Addr} (Pv : Nat → Hp → Prop) (h0 : Pv 0 (upd H D (.lst []))) (hG : ∀ i H, i ≤ n → Pv i H → G H)
    (hs : ∀ i x H H', i < n → Pv i H → Yd i H x H' → LcT g tt te vs σ x H' (fun y H4 => ∃ acc, H4 D = some (.lst acc) ∧ acc.length < sizeLine ∧ Pv (i + 1) (upd H4 D (.lst (acc ++ [y])))) (fun H3 => Pv (i + 1) H3)) (hd : ∀ H, Pv n H → Q (.ref D) H) : Lc J g tt te vs σ D Q H := by
  refine ⟨fun i m H => m = n - i ∧ i ≤ n ∧ Pv i H, ⟨n, by simp, Nat.zero_le _, h0⟩, ?_⟩
  rintro i m H ⟨rfl, hi, p⟩
  by_cases hlt : i < n
  · exact .inr ⟨w.goes i H hlt (hG i H hi p), Pv (i + 1), fun H' p' => ⟨n - (i + 1), by omega, rfl, hlt, p'⟩, fun x H' y => hs i x H H' hlt p (w.yields i H x H' hlt (hG i H hi p) y)⟩
  · have e : i = n := by omega
    subst e
    exact .inl ⟨w.stops H (hG _ H hi p), hd H p⟩
/-- every item is kept; its value is told by R, which new objects leave true; the source is left as it is -/
theorem lc_map {J : It} {n : Nat} {G : Hp → Prop} {Yd : Nat → Hp → V → Hp → Prop} (w : Walk J n G Yd) (hn : n ≤ 1000000) {g : TG} {tt : TT} {te : TE} {vs : List Nat} {D : Addr} (nD : H D = none) (R : Nat → V → Hp → Prop) (hR : ∀ i v H H', R i v H → Same H H' → R i v H')
    (hRD : ∀ i v H' acc acc', R i v H' → H' D = some (.lst acc) → R i v (upd H' D (.lst acc'))) (hG : ∀ H', Same H H' → G H') (hY : ∀ i H1 x H2, Yd i H1 x H2 → Same H1 H2)
    (hs : ∀ i x H1 H2 (Y : V → Hp → Prop) (No : Hp → Prop), i < n → Same H H1 → Yd i H1 x H2 → (∀ y H4, Same H2 H4 → R i y H4 → Y y H4) → LcT g tt te vs σ x H2 Y No)
    (hd : ∀ ys H', ys.length = n → Same H H' → H' D = some (.lst ys) → (∀ i y, ys[i]? = some y → R i y H') → Q (.ref D) H') : Lc J g tt te vs σ D Q H := by
  refine lc_by w (fun i H' => Same H H' ∧ ∃ ys : List V, ys.length = i ∧ H' D = some (.lst ys) ∧ ∀ j y, ys[j]? = some y → R j y H') ⟨Same.upd_new nD, [], rfl, upd_same, fun j y e => by simp at e⟩ (fun i H' _ p => hG H' p.1) (fun i x H1 H2 hi p y => ?_) (fun H' p => ?_)
  · obtain ⟨sm, ys, el, eD, hr⟩ := p
    have s2 := hY _ _ _ _ y
    refine hs i x H1 H2 _ _ hi sm y (fun v H4 q1 q2 => ?_)
    have s4 : Same H1 H4 := s2.trans q1
    have e4 : H4 D = some (.lst ys) := s4 _ _ eD
    refine ⟨ys, e4, by rw [el]; exact Nat.lt_of_lt_of_le (Nat.lt_of_lt_of_le hi hn) (by decide), fun b o e => ?_, ys ++ [v], by simp [el], upd_same, fun j y' e => ?_⟩
    · exact hl_set (ne_of_none e nD) (s4 _ _ (sm _ _ e))
    · by_cases hj : j < ys.length
      · rw [List.getElem?_append_left hj] at e
        exact hRD _ _ _ _ _ (hR _ _ _ _ (hr j y' e) s4) e4
      · rw [List.getElem?_append_right (by omega)] at e
        have hj2 : j - ys.length = 0 := by
          cases h : j - ys.length with
          | zero => rfl
          | succ m => rw [h] at e; simp at e
        rw [hj2] at e
        simp at e
        subst e
        have : j = i := by omega
        subst this
        exact hRD _ _ _ _ _ q2 e4
  · obtain ⟨sm, ys, el, eD, hr⟩ := p
    exact hd ys H' el sm eD hr
/-- items are kept or not: t tells which -/
theorem lc_filt {J : It} {n : Nat} {G : Hp → Prop} {Yd : Nat → Hp → V → Hp → Prop} (w : Walk J n G Yd) (hn : n ≤ 1000000) {g : TG} {tt : TT} {te : TE} {vs : List Nat} {D : Addr} (nD : H D = none) (t : Nat → Bool) (hG : ∀ H', Same H H' → G H') (hY : ∀ i H1 x H2, Yd i H1 x H2 → Same H1 H2)
    (hs : ∀ i x H1 H2 (Y : V → Hp → Prop) (No : Hp → Prop), i < n → Same H H1 → Yd i H1 x H2 → (t i = true → ∀ y H4, Same H2 H4 → Y y H4) → (t i = false → ∀ H4, Same H2 H4 → No H4) → LcT g tt te vs σ x H2 Y No)
    (hd : ∀ ys H', ys.isEmpty = (List.range n).all (fun i => !t i) → ys.length ≤ n → Same H H' → H' D = some (.lst ys) → Q (.ref D) H') : Lc J g tt te vs σ D Q H := by
  refine lc_by w (fun i H' => Same H H' ∧ ∃ ys : List V, ys.isEmpty = (List.range i).all (fun i => !t i) ∧ ys.length ≤ i ∧ H' D = some (.lst ys)) ⟨Same.upd_new nD, [], rfl, Nat.le_refl _, upd_same⟩ (fun i H' _ p => hG H' p.1) (fun i x H1 H2 hi p y => ?_) (fun H' p => ?_)
  · obtain ⟨sm, ys, ee, el, eD⟩ := p
    have s2 := hY _ _ _ _ y
    refine hs i x H1 H2 _ _ hi sm y (fun ht v H4 q => ?_) (fun ht H4 q => ?_)
    · have s4 : Same H1 H4 := s2.trans q
      refine ⟨ys, s4 _ _ eD, Nat.lt_of_le_of_lt el (Nat.lt_of_lt_of_le hi (Nat.le_trans hn (by decide))), fun b o e => hl_set (ne_of_none e nD) (s4 _ _ (sm _ _ e)), ys ++ [v], ?_, by simp; omega, upd_same⟩
      rw [List.range_succ, List.all_append, List.all_cons, ht]
      cases ys <;> simp
    · have s4 : Same H1 H4 := s2.trans q
      refine ⟨sm.trans s4, ys, ?_, by omega, s4 _ _ eD⟩
      rw [List.range_succ, List.all_append, List.all_cons, ht, ee]
      simp
  · obtain ⟨sm, ys, ee, el, eD⟩ := p
    exact hd ys H' ee el sm eD
theorem range_all {α : Type} (f : α → Bool) (d : α) : ∀ os : List α, (List.range os.length).all (fun i => f (os.getD i d)) = os.all f
  | [] => rfl
  | o :: os => by
    rw [List.length_cons, List.range_succ_eq_map, List.all_cons, List.all_map, List.all_cons, ← range_all f d os]
    rfl
end
/-! ### the rules with the written part told -/
section
variable {X : Cx} {K : PySem.W.Frag} {e l tg : Expr} {tl te : TE} {t ta : TA}
theorem ix_listK (q : X.K = K := by rfl) : IxR X (rIxL K) := q ▸ ix_list
theorem ix_tupK (q : X.K = K := by rfl) : IxR X (rIxT K) := q ▸ ix_tup
theorem pi_listK (h : PE X l tl) (q : X.K = K := by rfl) : PI X tg l (iList K tl) := q ▸ pi_list h
theorem pi_tupK (h : PE X l tl) (q : X.K = K := by rfl) : PI X tg l (iTup K tl) := q ▸ pi_tup h
theorem cr_lenK (q : X.K = K := by rfl) : CallR X (.builtin "len") (rLen K) := q ▸ cr_len
theorem cr_listOfK (q : X.K = K := by rfl) : CallR X (.type "list") (rListOf K) := q ▸ cr_listOf
theorem cr_tupOfK (q : X.K = K := by rfl) : CallR X (.type "tuple") (rTupOf K) := q ▸ cr_tupOf
theorem cr_allK (hc : X.calm = true) (q : X.K = K := by rfl) : CallR X (.builtin "all") (rAll K) := q ▸ cr_all hc
theorem cr_sumK (hc : X.calm = true) (q : X.K = K := by rfl) : CallR X (.builtin "sum") (rSum K) := q ▸ cr_sum hc
theorem cr_isiK (q : X.K = K := by rfl) : CallR X (.builtin "isinstance") (rIsi K) := q ▸ call_isi
theorem sl_listK (q : X.K = K := by rfl) : SlR X (rSlL K) := q ▸ sl_list
theorem sl_tupAK (q : X.K = K := by rfl) : SlR X (rSlA K) := q ▸ sl_tupA
theorem op_catAK (q : X.K = K := by rfl) : OpR X (binaryOp .Add) (rCatA K) := q ▸ op_catA
theorem castBM {e : Expr} {T : String} {r : V → List V → Hp → VK → Prop} {to : TE} (h : PE X e (tBM X.K T r to t)) (q : X.K = K := by rfl) : PE X e (tBM K T r to t) := q ▸ h
theorem castBM0 {e : Expr} {T : String} {r : V → List V → Hp → VK → Prop} {to : TE} (h : PE X e (tBM0 X.K T r to)) (q : X.K = K := by rfl) : PE X e (tBM0 K T r to) := q ▸ h
theorem castPI {iter : Expr} {wi : PySem.W.Frag → TI} (h : PI X tg iter (wi X.K)) (q : X.K = K := by rfl) : PI X tg iter (wi K) := q ▸ h
theorem castPG {n : Nat} {tg : Expr} {g : TGs} (h : PG X tg (gTup X.K n g)) (q : X.K = K := by rfl) : PG X tg (gTup K n g) := q ▸ h
end
/-! ### calls by keywords alone; keywords in any order -/
theorem pe_callK0 {X : Cx} {CX : CXT} {k : Nat} {f : Addr} {fd : FuncData} {ps ks : List Str} {sp : Sp} {E : XK} {x : Str} {p pos : Pos} {kws : List Keyword} {tk : TA} {g : List Value → List Value → List Value} {gV : List V → List V → List V}
    (F : FnOk X.prog X.w X.K X.mg X.base CX k f fd ps sp) (hr : Room k X.A) (hg : Gl X x) (hm : X.mg x = some (.ref f)) (hk : PySem.W.keepIn X.K (.ref f) = true) (hb : KBinds X.K fd ps ks g gV) (hx : Passes CX X E)
    (hkw : PK X kws tk) (hall : (backToKw pos (keywordEach kws X.env)).all (·.1.isSome) = true := by rfl) (hks : (backToKw pos (keywordEach kws X.env)).filterMap (·.1) = ks := by rfl)
    (hdb : (x == ("__debug__" : Str)) = false := by decide) (hpl : ((backTo pos (starEach [] X.env)).any (·.1) || (backToKw pos (keywordEach kws X.env)).any (·.1.isNone)) = false := by rfl) :
    PE X (.Call (.Name x p) [] kws pos) (tCallK sp gV E tNil tk) := by
  refine ⟨fun pins s σ H Q I h => wpAny_Call_Name_kw (ld_glob I hg hm ?_ hdb)⟩
  refine PySem.W.callWith_KW0 (h₀ := X.base) I.ok.mod.kin hk hall (thn (hkw.run pos pins s σ H _ I h) fun ws s2 ⟨zs, H2, I2, rz, q2⟩ => ⟨I2.kIn, ?_⟩) hpl
  rw [hks]
  exact run_fnk (us := []) F hr hb hx I2 .nil rz q2
def permV (na nb : Nat) (is : List Nat) (vs zs : List V) : List V := if vs.length = na ∧ zs.length = nb then is.map fun i => (vs ++ zs).getD i .non else []
def permU (na nb : Nat) (is : List Nat) (vs zs : List Value) : List Value := if vs.length = na ∧ zs.length = nb then is.map fun i => (vs ++ zs).getD i .none else []
theorem vals_getD : ∀ {xs : List V} {us : List Value} (i : Nat), Vals xs us → RelV (xs.getD i .non) (us.getD i .none)
  | _, _, _, .nil => rfl
  | _, _, 0, .cons r _ => r
  | _, _, i + 1, .cons _ t => by
    have := vals_getD i t
    simpa using this
theorem vals_map {xs : List V} {us : List Value} (r : Vals xs us) : ∀ is : List Nat, Vals (is.map fun i => xs.getD i .non) (is.map fun i => us.getD i .none)
  | [] => .nil
  | i :: is => .cons (vals_getD i r) (vals_map r is)
theorem kb_perm {K : PySem.W.Frag} {fd : FuncData} {ps ks : List Str} {us0 ws0 : Nat} {is : List Nat} (h0 : ps ≠ [])
    (h : ∀ (us ws : List Value), us.length = us0 → ws.length = ws0 → ∀ s : Shared, BindsTo s fd ⟨us, ks.zip ws⟩ (ps.zip (is.map fun i => (us ++ ws).getD i .none))) : KBinds K fd ps ks (permU us0 ws0 is) (permV us0 ws0 is) where
  to := fun s us ws _ hl => by
    unfold permU at hl ⊢
    by_cases c : us.length = us0 ∧ ws.length = ws0
    · rw [if_pos c]
      exact h us ws c.1 c.2 s
    · rw [if_neg c] at hl
      cases ps with
      | nil => exact absurd rfl h0
      | cons _ _ => simp at hl
  rel := fun {vs us zs ws} r1 r2 => by
    unfold permU permV
    rw [r1.length, r2.length]
    by_cases c : us.length = us0 ∧ ws.length = ws0
    · rw [if_pos c, if_pos c]
      exact vals_map (r1.append r2) is
    · rw [if_neg c, if_neg c]
      exact .nil
section
variable {K : PySem.W.Frag} {D : Ends} {σ : L2.St} {H : Hp} {Q : VK}
theorem r_callk {sp : Sp} {gV : List V → List V → List V} {E : XK} {t tk : TA} (h : t σ H fun vs H1 => tk σ H1 fun zs H2 => sp (gV vs zs) H2 Q E) : tCallK sp gV E t tk σ H Q := h
theorem r_perm {sp : Sp} {E : XK} {na nb : Nat} {is : List Nat} {vs zs : List V} (h1 : vs.length = na) (h2 : zs.length = nb) (h : sp (is.map fun i => (vs ++ zs).getD i .non) H Q E) : sp (permV na nb is vs zs) H Q E := by
  unfold permV; rw [if_pos ⟨h1, h2⟩]; exact h
end
theorem hu_of64 {A : Around} {k : Nat} (hr : Room k A) : A.units + 64 < cLine := hr.units
/-! ### against the empty list, the empty tuple -/
def rNil (K : PySem.W.Frag) (g : Bool → Bool) : R2 := fun x y H Q => ∃ a b xs, x = .ref a ∧ y = .ref b ∧ SqL K H a xs ∧ SqL K H b [] ∧ Q (.bl (g xs.isEmpty)) H
def rNilT (K : PySem.W.Frag) (g : Bool → Bool) : R2 := fun x y H Q => ∃ a b xs, x = .ref a ∧ y = .ref b ∧ SqT K H a xs ∧ SqT K H b [] ∧ Q (.bl (g xs.isEmpty)) H
theorem op_eqNil {X : Cx} (hu : X.A.units + 64 < cLine) : OpR X (compareOp .Eq) (rNil X.K id) := by
  intro pins s σ H x y v u Q I rx ry h
  obtain ⟨a, b, xs, rfl, rfl, h1, h2, q⟩ := h
  cases rx; cases ry
  obtain ⟨its, rv, p1, _⟩ := I.list h1
  obtain ⟨its2, rv2, p2, _⟩ := I.list h2
  cases rv2
  have e1 : xs.length = its.length := rv.length
  cases xs with
  | nil =>
    cases rv
    exact PySem.SeqAt.eq_listAt (e := fun _ => true) p1.isList p2.isList rfl (by omega) (fun j h => absurd h (Nat.not_lt_zero j)) ⟨.bl _, H, I, rfl, q⟩
  | cons z zs =>
    cases its with
    | nil => simp at e1
    | cons _ _ => exact PySem.SeqAt.eq_list_lengthsAt p1.isList p2.isList rfl (by omega) ⟨.bl false, H, I, rfl, q⟩
theorem op_neNil {X : Cx} (hu : X.A.units + 64 < cLine) : OpR X (compareOp .NotEq) (rNil X.K not) := by
  intro pins s σ H x y v u Q I rx ry h
  obtain ⟨a, b, xs, rfl, rfl, h1, h2, q⟩ := h
  cases rx; cases ry
  obtain ⟨its, rv, p1, _⟩ := I.list h1
  obtain ⟨its2, rv2, p2, _⟩ := I.list h2
  cases rv2
  have e1 : xs.length = its.length := rv.length
  cases xs with
  | nil =>
    cases rv
    exact PySem.SeqAt.RcNeAt.lists (e := fun _ => true) p1.isList p2.isList rfl (by omega) (fun j h => absurd h (Nat.not_lt_zero j)) _ _ _ _ ⟨.bl _, H, I, rfl, q⟩
  | cons z zs =>
    cases its with
    | nil => simp at e1
    | cons _ _ => exact PySem.SeqAt.RcNeAt.lists_lengths p1.isList p2.isList rfl (by omega) _ _ _ _ ⟨.bl true, H, I, rfl, q⟩
theorem op_eqNilT {X : Cx} (hu : X.A.units + 64 < cLine) : OpR X (compareOp .Eq) (rNilT X.K id) := by
  intro pins s σ H x y v u Q I rx ry h
  obtain ⟨a, b, xs, rfl, rfl, h1, h2, q⟩ := h
  cases rx; cases ry
  obtain ⟨its, rv, p1, _⟩ := I.tuple h1
  obtain ⟨its2, rv2, p2, _⟩ := I.tuple h2
  cases rv2
  have e1 : xs.length = its.length := rv.length
  refine PySem.SeqAt.eq_tupleAt (e := fun _ => true) (show s.heap.IsTuple a its.toArray from p1) (show s.heap.IsTuple b #[] from p2) (by omega) (fun j _ h => absurd h (Nat.not_lt_zero j)) ⟨.bl xs.isEmpty, H, I, ?_, q⟩
  cases xs with
  | nil =>
    cases rv
    rfl
  | cons z zs =>
    cases its with
    | nil => simp at e1
    | cons _ _ => rfl
theorem op_eqNilK {X : Cx} {K : PySem.W.Frag} (hu : X.A.units + 64 < cLine) (q : X.K = K := by rfl) : OpR X (compareOp .Eq) (rNil K id) := q ▸ op_eqNil hu
theorem op_neNilK {X : Cx} {K : PySem.W.Frag} (hu : X.A.units + 64 < cLine) (q : X.K = K := by rfl) : OpR X (compareOp .NotEq) (rNil K not) := q ▸ op_neNil hu
theorem op_eqNilTK {X : Cx} {K : PySem.W.Frag} (hu : X.A.units + 64 < cLine) (q : X.K = K := by rfl) : OpR X (compareOp .Eq) (rNilT K id) := q ▸ op_eqNilT hu
section
variable {K : PySem.W.Frag} {H : Hp} {Q : VK}
theorem r_nilL {g : Bool → Bool} {a b : Addr} {xs : List V} (h1 : SqL K H a xs) (h2 : SqL K H b []) (q : Q (.bl (g xs.isEmpty)) H) : rNil K g (.ref a) (.ref b) H Q := ⟨a, b, xs, rfl, rfl, h1, h2, q⟩
theorem r_nilT {g : Bool → Bool} {a b : Addr} {xs : List V} (h1 : SqT K H a xs) (h2 : SqT K H b []) (q : Q (.bl (g xs.isEmpty)) H) : rNilT K g (.ref a) (.ref b) H Q := ⟨a, b, xs, rfl, rfl, h1, h2, q⟩
end
theorem kt_NoneType_int {K : PySem.W.Frag} : PySem.W.kitOne K (.type "NoneType") (.type "int") = some false := kit_ty (by decide +kernel)
theorem kt_bool_int {K : PySem.W.Frag} : PySem.W.kitOne K (.type "bool") (.type "int") = some true := kit_ty (by decide +kernel)
theorem kt_int_int {K : PySem.W.Frag} : PySem.W.kitOne K (.type "int") (.type "int") = some true := kit_ty (by decide +kernel)
theorem kt_str_int {K : PySem.W.Frag} : PySem.W.kitOne K (.type "str") (.type "int") = some false := kit_ty (by decide +kernel)
theorem kt_tuple_int {K : PySem.W.Frag} : PySem.W.kitOne K (.type "tuple") (.type "int") = some false := kit_ty (by decide +kernel)
theorem kt_list_int {K : PySem.W.Frag} : PySem.W.kitOne K (.type "list") (.type "int") = some false := kit_ty (by decide +kernel)
theorem kt_dict_int {K : PySem.W.Frag} : PySem.W.kitOne K (.type "dict") (.type "int") = some false := kit_ty (by decide +kernel)
theorem kt_NoneType_bool {K : PySem.W.Frag} : PySem.W.kitOne K (.type "NoneType") (.type "bool") = some false := kit_ty (by decide +kernel)
theorem kt_bool_bool {K : PySem.W.Frag} : PySem.W.kitOne K (.type "bool") (.type "bool") = some true := kit_ty (by decide +kernel)
theorem kt_int_bool {K : PySem.W.Frag} : PySem.W.kitOne K (.type "int") (.type "bool") = some false := kit_ty (by decide +kernel)
theorem kt_str_bool {K : PySem.W.Frag} : PySem.W.kitOne K (.type "str") (.type "bool") = some false := kit_ty (by decide +kernel)
theorem kt_tuple_bool {K : PySem.W.Frag} : PySem.W.kitOne K (.type "tuple") (.type "bool") = some false := kit_ty (by decide +kernel)
theorem kt_list_bool {K : PySem.W.Frag} : PySem.W.kitOne K (.type "list") (.type "bool") = some false := kit_ty (by decide +kernel)
theorem kt_dict_bool {K : PySem.W.Frag} : PySem.W.kitOne K (.type "dict") (.type "bool") = some false := kit_ty (by decide +kernel)
theorem kt_NoneType_tuple {K : PySem.W.Frag} : PySem.W.kitOne K (.type "NoneType") (.type "tuple") = some false := kit_ty (by decide +kernel)
theorem kt_bool_tuple {K : PySem.W.Frag} : PySem.W.kitOne K (.type "bool") (.type "tuple") = some false := kit_ty (by decide +kernel)
theorem kt_int_tuple {K : PySem.W.Frag} : PySem.W.kitOne K (.type "int") (.type "tuple") = some false := kit_ty (by decide +kernel)
theorem kt_str_tuple {K : PySem.W.Frag} : PySem.W.kitOne K (.type "str") (.type "tuple") = some false := kit_ty (by decide +kernel)
theorem kt_tuple_tuple {K : PySem.W.Frag} : PySem.W.kitOne K (.type "tuple") (.type "tuple") = some true := kit_ty (by decide +kernel)
theorem kt_list_tuple {K : PySem.W.Frag} : PySem.W.kitOne K (.type "list") (.type "tuple") = some false := kit_ty (by decide +kernel)
theorem kt_dict_tuple {K : PySem.W.Frag} : PySem.W.kitOne K (.type "dict") (.type "tuple") = some false := kit_ty (by decide +kernel)
theorem kt_NoneType_str {K : PySem.W.Frag} : PySem.W.kitOne K (.type "NoneType") (.type "str") = some false := kit_ty (by decide +kernel)
theorem kt_bool_str {K : PySem.W.Frag} : PySem.W.kitOne K (.type "bool") (.type "str") = some false := kit_ty (by decide +kernel)
theorem kt_int_str {K : PySem.W.Frag} : PySem.W.kitOne K (.type "int") (.type "str") = some false := kit_ty (by decide +kernel)
theorem kt_str_str {K : PySem.W.Frag} : PySem.W.kitOne K (.type "str") (.type "str") = some true := kit_ty (by decide +kernel)
theorem kt_tuple_str {K : PySem.W.Frag} : PySem.W.kitOne K (.type "tuple") (.type "str") = some false := kit_ty (by decide +kernel)
theorem kt_list_str {K : PySem.W.Frag} : PySem.W.kitOne K (.type "list") (.type "str") = some false := kit_ty (by decide +kernel)
theorem kt_dict_str {K : PySem.W.Frag} : PySem.W.kitOne K (.type "dict") (.type "str") = some false := kit_ty (by decide +kernel)
theorem kt_NoneType_list {K : PySem.W.Frag} : PySem.W.kitOne K (.type "NoneType") (.type "list") = some false := kit_ty (by decide +kernel)
theorem kt_bool_list {K : PySem.W.Frag} : PySem.W.kitOne K (.type "bool") (.type "list") = some false := kit_ty (by decide +kernel)
theorem kt_int_list {K : PySem.W.Frag} : PySem.W.kitOne K (.type "int") (.type "list") = some false := kit_ty (by decide +kernel)
theorem kt_str_list {K : PySem.W.Frag} : PySem.W.kitOne K (.type "str") (.type "list") = some false := kit_ty (by decide +kernel)
theorem kt_tuple_list {K : PySem.W.Frag} : PySem.W.kitOne K (.type "tuple") (.type "list") = some false := kit_ty (by decide +kernel)
theorem kt_list_list {K : PySem.W.Frag} : PySem.W.kitOne K (.type "list") (.type "list") = some true := kit_ty (by decide +kernel)
theorem kt_dict_list {K : PySem.W.Frag} : PySem.W.kitOne K (.type "dict") (.type "list") = some false := kit_ty (by decide +kernel)
theorem kt_NoneType_dict {K : PySem.W.Frag} : PySem.W.kitOne K (.type "NoneType") (.type "dict") = some false := kit_ty (by decide +kernel)
theorem kt_bool_dict {K : PySem.W.Frag} : PySem.W.kitOne K (.type "bool") (.type "dict") = some false := kit_ty (by decide +kernel)
theorem kt_int_dict {K : PySem.W.Frag} : PySem.W.kitOne K (.type "int") (.type "dict") = some false := kit_ty (by decide +kernel)
theorem kt_str_dict {K : PySem.W.Frag} : PySem.W.kitOne K (.type "str") (.type "dict") = some false := kit_ty (by decide +kernel)
theorem kt_tuple_dict {K : PySem.W.Frag} : PySem.W.kitOne K (.type "tuple") (.type "dict") = some false := kit_ty (by decide +kernel)
theorem kt_list_dict {K : PySem.W.Frag} : PySem.W.kitOne K (.type "list") (.type "dict") = some false := kit_ty (by decide +kernel)
theorem kt_dict_dict {K : PySem.W.Frag} : PySem.W.kitOne K (.type "dict") (.type "dict") = some true := kit_ty (by decide +kernel)
local macro_rules | `(tactic| walk_at "ne") => `(tactic| first | assumption | (refine' Ne.symm ?h1; (case h1 => assumption)))
local macro_rules | `(tactic| walk_at "nin") => `(tactic| first | assumption | exact List.not_mem_nil)
local macro_rules | `(tactic| walk_at "hl") => `(tactic| first
  | assumption
  | exact upd_same
  | (refine' hl_new ?h1 ?h2; (case h2 => assumption); (case h1 => walk_at "hl"))
  | (refine' hl_set ?h2 ?h1; (case h2 => walk_at "ne"); (case h1 => walk_at "hl"))
  | (refine' hl_same ?h2 ?h1; (case h2 => assumption); (case h1 => walk_at "hl"))
  | (refine' hl_kp ?h2 ?h3 ?h1; (case h2 => assumption); (case h3 => walk_at "nin"); (case h1 => walk_at "hl")))
local macro_rules | `(tactic| walk_at "sq") => `(tactic| first | assumption | (refine' SqL.of ?h1; (case h1 => walk_at "hl")) | (refine' SqT.of ?h1; (case h1 => walk_at "hl")))
local macro_rules | `(tactic| walk_at "sc") => `(tactic| first | assumption | omega | (dsimp only; omega) | decide | exact .inl ⟨by omega, by omega⟩ | exact .inr ⟨by omega, by omega⟩ | exact ⟨by omega, by decide⟩)
local macro_rules | `(tactic| walk_at "sz") => `(tactic| first | assumption | ((try simp only [List.length_map, List.length_append, List.length_cons, List.length_nil]); have : (1000000 : Nat) ≤ sizeLine := (by decide); omega))
local macro_rules | `(tactic| walk_at "ty") => `(tactic| first | assumption | exact TyX.base (.int _) | exact TyX.base (.bl _) | exact TyX.base .non | exact TyX.base (.str _) | (refine' TyX.base (.tup ?h1); (case h1 => walk_at "hl")) | (refine' TyX.base (.lst ?h1); (case h1 => walk_at "hl")) | (refine' TyX.base (.dK ?h1); (case h1 => walk_at "hl")))
local macro_rules | `(tactic| walk_at "mem") => `(tactic| first | assumption | (simp; done) | (intro _ h; simp at h ⊢; first | exact h | exact .inr h | exact .inr (.inr h) | (rcases h with h | h <;> simp [h])))
local macro_rules | `(tactic| walk_at "stt") => `(tactic| first | assumption | (refine' St.new ?h1 ?h2; (case h2 => assumption); (case h1 => walk_at "stt")) | (refine' St.set ?h1 ?h2; (case h2 => assumption); (case h1 => walk_at "stt")) | (refine' St.same ?h1 ?h2; (case h2 => assumption); (case h1 => walk_at "stt")))
local macro_rules | `(tactic| walk_at "in") => `(tactic| first | assumption | exact List.mem_cons_self | exact List.mem_cons_of_mem _ List.mem_cons_self | exact List.mem_cons_of_mem _ (List.mem_cons_of_mem _ List.mem_cons_self))
local macro_rules | `(tactic| walk_at "kp") => `(tactic| first
  | exact Kp.refl
  | assumption
  | (refine' Kp.trans ?h1 (Kp.new ?h2); (case h2 => assumption); (case h1 => walk_at "kp"))
  | (refine' Kp.trans ?h1 (Kp.set ?h2); (case h2 => walk_at "in"); (case h1 => walk_at "kp"))
  | (refine' Kp.own ?h1 ?h2; (case h2 => assumption); (case h1 => walk_at "kp"))
  | (refine' Kp.trans ?h1 (Kp.sub ?h2 ?h3); (case h2 => assumption); (case h3 => walk_at "mem"); (case h1 => walk_at "kp"))
  | (refine' Kp.trans ?h1 (Kp.ofSame ?h2); (case h2 => assumption); (case h1 => walk_at "kp")))
local macro_rules | `(tactic| walk_at "sm") => `(tactic| first
  | exact Same.refl _
  | assumption
  | (refine' Same.trans ?h1 (Same.upd_new ?h2); (case h2 => assumption); (case h1 => walk_at "sm"))
  | (refine' Same.trans ?h1 ?h2; (case h2 => assumption); (case h1 => walk_at "sm")))
local macro_rules | `(tactic| walk_at "lf") => `(tactic| first
  | exact Lft.refl
  | (refine' Lft.trans ?h1 (Lft.new ?h2); (case h2 => assumption); (case h1 => walk_at "lf"))
  | (refine' Lft.trans ?h1 (Lft.set ?h2); (case h2 => walk_at "in"); (case h1 => walk_at "lf"))
  | (refine' Lft.trans ?h1 (Lft.kp ?h2 ?h3); (case h2 => assumption); (case h3 => walk_at "mem"); (case h1 => walk_at "lf"))
  | (refine' Lft.trans ?h1 (Lft.same ?h2); (case h2 => assumption); (case h1 => walk_at "lf"))
  | (refine' Lft.trans ?h1 (Lft.own ?h2); (case h2 => assumption); (case h1 => walk_at "lf")))
local macro_rules | `(tactic| walk_at "kt") => `(tactic| first | exact kt_NoneType_int | exact kt_bool_int | exact kt_int_int | exact kt_str_int | exact kt_tuple_int | exact kt_list_int | exact kt_dict_int | exact kt_NoneType_bool | exact kt_bool_bool | exact kt_int_bool | exact kt_str_bool | exact kt_tuple_bool | exact kt_list_bool | exact kt_dict_bool | exact kt_NoneType_tuple | exact kt_bool_tuple | exact kt_int_tuple | exact kt_str_tuple | exact kt_tuple_tuple | exact kt_list_tuple | exact kt_dict_tuple | exact kt_NoneType_str | exact kt_bool_str | exact kt_int_str | exact kt_str_str | exact kt_tuple_str | exact kt_list_str | exact kt_dict_str | exact kt_NoneType_list | exact kt_bool_list | exact kt_int_list | exact kt_str_list | exact kt_tuple_list | exact kt_list_list | exact kt_dict_list | exact kt_NoneType_dict | exact kt_bool_dict | exact kt_int_dict | exact kt_str_dict | exact kt_tuple_dict | exact kt_list_dict | exact kt_dict_dict)
local macro_rules | `(tactic| walk_at "st1") => `(tactic| first
  | with_reducible refine r_seq ?_
  | with_reducible refine r_for ?_
  | with_reducible refine r_irng1 ?_
  | ((with_reducible refine r_rg1 ?e1 ?_); (case e1 => omega))
  | with_reducible refine r_irng2 ?_
  | ((with_reducible refine r_rg2 ?e1 ?_); (case e1 => omega))
  | with_reducible refine r_ilist ?_
  | ((with_reducible refine' r_il ?e1 ?_); (case e1 => walk_at "sq"))
  | with_reducible refine r_itup ?_
  | ((with_reducible refine' r_it ?e1 ?_); (case e1 => walk_at "sq"))
  | with_reducible refine r_izip ?_
  | ((with_reducible refine' r_izt ?e1 ?e2 ?_); (case e1 => walk_at "sq"); (case e2 => walk_at "sq"))
  | with_reducible refine r_lc ?_
  | with_reducible refine r_tand ?_
  | with_reducible refine r_tor ?_
  | with_reducible refine r_tnot ?_
  | with_reducible refine r_andv ?_
  | with_reducible refine r_orv ?_
  | with_reducible refine r_notv ?_
  | with_reducible refine r_chain ?_
  | with_reducible refine' r_t ?_
  | with_reducible refine' r_f ?_
  | with_reducible refine r_bm ?_
  | with_reducible refine r_tb ?_
  | with_reducible refine r_yes ?_
  | ((with_reducible refine r_sz ?e1 ?_); (case e1 => rfl))
  | with_reducible refine r_sl ?_
  | ((with_reducible refine' r_sll ?e1 ?_); (case e1 => walk_at "sq"))
  | with_reducible refine r_nopart ?_
  | with_reducible refine r_part ?_
  | with_reducible refine r_parti ?_
  | with_reducible refine r_callk ?_
  | with_reducible refine r_perm (by rfl) (by rfl) ?_
  | ((with_reducible refine' r_nilL ?e1 ?e2 ?_); (case e1 => walk_at "sq"); (case e2 => walk_at "sq"))
  | ((with_reducible refine' r_nilT ?e1 ?e2 ?_); (case e1 => walk_at "sq"); (case e2 => walk_at "sq"))
  | ((with_reducible refine' r_app0 ?e1 ?e2 ?_); (case e1 => walk_at "hl"); (case e2 => walk_at "sz"))
  | ((with_reducible refine' r_ty ?e1 ?_); (case e1 => walk_at "hl"))
  | ((with_reducible refine' r_all ?e1 ?_); (case e1 => walk_at "sq"))
  | ((with_reducible refine' r_sum ?e1 ?_); (case e1 => walk_at "sq"))
  | ((with_reducible refine' r_isi ?e1 ?e2 ?e3 ?_); (case e1 => exact .ty _); (case e2 => walk_at "ty"); (case e3 => walk_at "kt"))
  | with_reducible refine r_asg ?_
  | with_reducible refine r_gname ?_
  | ((with_reducible refine' r_var ?e1 ?_); (case e1 => rfl))
  | with_reducible refine r_c ?_
  | with_reducible refine r_op ?_
  | with_reducible refine r_i0 ?_
  | ((with_reducible refine' r_i ?e1 ?_); (case e1 => walk_at "sc"))
  | ((with_reducible refine' r_ixl ?e1 ?e2 ?_); (case e1 => walk_at "sq"); (case e2 => first | assumption | rfl))
  | ((with_reducible refine' r_ixt ?e1 ?e2 ?_); (case e1 => walk_at "sq"); (case e2 => first | assumption | rfl))
  | with_reducible refine r_cb ?_
  | with_reducible refine r_cons ?_
  | with_reducible refine r_nil ?_
  | ((with_reducible refine' r_len ?e1 ?_); (case e1 => walk_at "sq"))
  | ((with_reducible refine' r_lent ?e1 ?_); (case e1 => walk_at "sq"))
  | with_reducible refine r_abs ?_
  | ((with_reducible refine' r_listl ?e1 ?_); (case e1 => walk_at "sq"))
  | ((with_reducible refine' r_listt ?e1 ?_); (case e1 => walk_at "sq"))
  | ((with_reducible refine' r_tupl ?e1 ?_); (case e1 => walk_at "sq"))
  | ((with_reducible refine' r_tupt ?e1 ?_); (case e1 => walk_at "sq"))
  | with_reducible refine r_ife ?_
  | with_reducible refine r_test ?_
  | with_reducible refine r_bl ?_
  | with_reducible refine r_ret ?_
  | with_reducible refine r_gsub ?_
  | ((with_reducible refine' r_setl ?e1 ?e2 ?_); (case e1 => walk_at "hl"); (case e2 => first | assumption | rfl))
  | with_reducible refine r_next ?_
  | with_reducible refine r_call ?_
  | with_reducible refine r_lst ?_
  | with_reducible refine r_tup ?_
  | with_reducible refine r_drop ?_
  | ((with_reducible refine' r_eq ?e1 ?_); (case e1 => rfl))
  | ((with_reducible refine' r_ne ?e1 ?_); (case e1 => rfl)))
local macro_rules | `(tactic| walk_at "st") => `(tactic| repeat (walk_at "st1"))
local macro_rules | `(tactic| walk_at "if") => `(tactic| ((first | refine r_if ?_ | (simp only []; refine r_if ?_)); walk_at "st"))
structure Tx (K : PySem.W.Frag) (mg : Str → Option Value) : Prop where
  m_abs : mg "abs" = none
  m_bool : mg "bool" = none
  m_enumerate : mg "enumerate" = none
  m_isinstance : mg "isinstance" = none
  m_len : mg "len" = none
  m_list : mg "list" = none
  m_min : mg "min" = none
  m_range : mg "range" = none
  m_sorted : mg "sorted" = none
  m_sum : mg "sum" = none
  m_tuple : mg "tuple" = none
  m_zip : mg "zip" = none
def topS (i : Nat) : Stmt := PySem.Challenge.pw_onetrace_k08_products_and_nulls.main.body.getD i (.Pass ⟨0, 0, 0, 0⟩)
abbrev s_inverse : Stmt := topS 1
theorem sc_inverse : FnScope ["n", "p", "rest", "lower", "many", "lower_many", "whole"] ["n", "p"] (defScope s_inverse) := ⟨rfl, rfl, rfl, by decide +kernel, rfl, by decide +kernel, by decide +kernel⟩
abbrev s_reduced : Stmt := topS 3
theorem sc_reduced : FnScope ["rows", "p", "bases", "row", "rest", "at", "base", "place", "other", "_"] ["rows", "p"] (defScope s_reduced) := ⟨rfl, rfl, rfl, by decide +kernel, rfl, by decide +kernel, by decide +kernel⟩
abbrev s_first_place : Stmt := topS 4
theorem sc_first_place : FnScope ["row", "at", "n"] ["row"] (defScope s_first_place) := ⟨rfl, rfl, rfl, by decide +kernel, rfl, by decide +kernel, by decide +kernel⟩
abbrev s_less : Stmt := topS 5
theorem sc_less : FnScope ["row", "base", "k", "p", "n", "m"] ["row", "base", "k", "p"] (defScope s_less) := ⟨rfl, rfl, rfl, by decide +kernel, rfl, by decide +kernel, by decide +kernel⟩
abbrev s_times_row : Stmt := topS 6
theorem sc_times_row : FnScope ["row", "k", "p", "n"] ["row", "k", "p"] (defScope s_times_row) := ⟨rfl, rfl, rfl, by decide +kernel, rfl, by decide +kernel, by decide +kernel⟩
abbrev s_rest_of : Stmt := topS 7
theorem sc_rest_of : FnScope ["row", "bases", "p", "rest", "place", "base"] ["row", "bases", "p"] (defScope s_rest_of) := ⟨rfl, rfl, rfl, by decide +kernel, rfl, by decide +kernel, by decide +kernel⟩
abbrev s_product_of : Stmt := topS 8
theorem sc_product_of : FnScope ["row", "other", "p", "n", "m"] ["row", "other", "p"] (defScope s_product_of) := ⟨rfl, rfl, rfl, by decide +kernel, rfl, by decide +kernel, by decide +kernel⟩
abbrev s_nulls_of : Stmt := topS 9
theorem sc_nulls_of : FnScope ["rows", "width", "p", "bases", "base", "nulls", "free", "null", "at"] ["rows", "width", "p"] (defScope s_nulls_of) := ⟨rfl, rfl, rfl, by decide +kernel, rfl, by decide +kernel, by decide +kernel⟩
abbrev s_law_state : Stmt := topS 11
theorem sc_law_state : FnScope ["script", "cells", "cell"] ["script"] (defScope s_law_state) := ⟨rfl, rfl, rfl, by decide +kernel, rfl, by decide +kernel, by decide +kernel⟩
abbrev s_law_draw : Stmt := topS 12
theorem sc_law_draw : FnScope ["state", "many", "cells", "at", "cell"] ["state", "many"] (defScope s_law_draw) := ⟨rfl, rfl, rfl, by decide +kernel, rfl, by decide +kernel, by decide +kernel⟩
abbrev s_law_prime : Stmt := topS 13
theorem sc_law_prime : FnScope ["state"] ["state"] (defScope s_law_prime) := ⟨rfl, rfl, rfl, by decide +kernel, rfl, by decide +kernel, by decide +kernel⟩
abbrev s_law_row : Stmt := topS 14
theorem sc_law_row : FnScope ["state", "wideness", "base", "way", "some", "k", "number"] ["state", "wideness", "base"] (defScope s_law_row) := ⟨rfl, rfl, rfl, by decide +kernel, rfl, by decide +kernel, by decide +kernel⟩
abbrev s_law_times : Stmt := topS 15
theorem sc_law_times : FnScope ["line", "n", "base", "number"] ["line", "n", "base"] (defScope s_law_times) := ⟨rfl, rfl, rfl, by decide +kernel, rfl, by decide +kernel, by decide +kernel⟩
abbrev s_law_together : Stmt := topS 16
theorem sc_law_together : FnScope ["line", "two", "base", "first"] ["line", "two", "base"] (defScope s_law_together) := ⟨rfl, rfl, rfl, by decide +kernel, rfl, by decide +kernel, by decide +kernel⟩
abbrev s_law_rows : Stmt := topS 17
theorem sc_law_rows : FnScope ["state", "wideness", "base", "many", "some", "k", "line", "way"] ["state", "wideness", "base", "many"] (defScope s_law_rows) := ⟨rfl, rfl, rfl, by decide +kernel, rfl, by decide +kernel, by decide +kernel⟩
abbrev s_law_inverse : Stmt := topS 18
theorem sc_law_inverse : FnScope ["n", "base", "k"] ["n", "base"] (defScope s_law_inverse) := ⟨rfl, rfl, rfl, by decide +kernel, rfl, by decide +kernel, by decide +kernel⟩
abbrev s_law_reduced : Stmt := topS 19
theorem sc_law_reduced : FnScope ["lot", "wideness", "base", "left", "line", "done", "column", "picked", "unit"] ["lot", "wideness", "base"] (defScope s_law_reduced) := ⟨rfl, rfl, rfl, by decide +kernel, rfl, by decide +kernel, by decide +kernel⟩
abbrev s_law_alike : Stmt := topS 20
theorem sc_law_alike : FnScope ["told", "wanted", "line", "number"] ["told", "wanted"] (defScope s_law_alike) := ⟨rfl, rfl, rfl, by decide +kernel, rfl, by decide +kernel, by decide +kernel⟩
abbrev s_law_is_few : Stmt := topS 21
theorem sc_law_is_few : FnScope ["base", "times", "many", "k"] ["base", "times"] (defScope s_law_is_few) := ⟨rfl, rfl, rfl, by decide +kernel, rfl, by decide +kernel, by decide +kernel⟩
abbrev s_law_all : Stmt := topS 22
theorem sc_law_all : FnScope ["lot", "wideness", "base", "known", "line", "there", "n"] ["lot", "wideness", "base"] (defScope s_law_all) := ⟨rfl, rfl, rfl, by decide +kernel, rfl, by decide +kernel, by decide +kernel⟩
abbrev s_law_product : Stmt := topS 23
theorem sc_law_product : FnScope ["line", "two", "base", "first"] ["line", "two", "base"] (defScope s_law_product) := ⟨rfl, rfl, rfl, by decide +kernel, rfl, by decide +kernel, by decide +kernel⟩
abbrev s_law_every : Stmt := topS 24
theorem sc_law_every : FnScope ["wideness", "base", "some", "k"] ["wideness", "base"] (defScope s_law_every) := ⟨rfl, rfl, rfl, by decide +kernel, rfl, by decide +kernel, by decide +kernel⟩
abbrev s_law_longer : Stmt := topS 25
theorem sc_law_longer : FnScope ["some", "base", "more", "line", "number"] ["some", "base"] (defScope s_law_longer) := ⟨rfl, rfl, rfl, by decide +kernel, rfl, by decide +kernel, by decide +kernel⟩
abbrev s_law : Stmt := topS 26
theorem sc_law : FnScope ["script", "state", "turn", "base", "wide", "lot", "told", "line", "two", "first", "due", "known", "there", "nought"] ["script"] (defScope s_law) := ⟨rfl, rfl, rfl, by decide +kernel, rfl, by decide +kernel, by decide +kernel⟩
theorem kb_nulls_of_2_1_0 {K : PySem.W.Frag} {f : Addr} {fd : FuncData} (F : Fun K "nulls_of" "nulls_of" s_nulls_of f fd) : ∀ (us ws : List Value), us.length = 0 → ws.length = 3 → ∀ s : Shared, BindsTo s fd ⟨us, (["p", "width", "rows"] : List Str).zip ws⟩ ((["rows", "width", "p"] : List Str).zip (([2, 1, 0] : List Nat).map fun i => (us ++ ws).getD i .none)) := by
  obtain ⟨oc, od, kV, doc, pm, an, cdv, ct, osl, rfl, lk, hcd⟩ := F.ex
  intro us ws h1 h2 s
  match us, h1, ws, h2 with
  | [], _, [w0, w1, w2], _ => exact .of_eq rfl
theorem kb_product_of_2_1_0 {K : PySem.W.Frag} {f : Addr} {fd : FuncData} (F : Fun K "product_of" "product_of" s_product_of f fd) : ∀ (us ws : List Value), us.length = 0 → ws.length = 3 → ∀ s : Shared, BindsTo s fd ⟨us, (["p", "other", "row"] : List Str).zip ws⟩ ((["row", "other", "p"] : List Str).zip (([2, 1, 0] : List Nat).map fun i => (us ++ ws).getD i .none)) := by
  obtain ⟨oc, od, kV, doc, pm, an, cdv, ct, osl, rfl, lk, hcd⟩ := F.ex
  intro us ws h1 h2 s
  match us, h1, ws, h2 with
  | [], _, [w0, w1, w2], _ => exact .of_eq rfl
/-! ### the law's own: draws, rows -/
def sp_law_state (K : PySem.W.Frag) : Sp := fun vs H Q _ => ∃ (a : Addr) (ns : List Int), vs = [.ref a] ∧ SqL K H a (ns.map .int) ∧ ns.length ≤ 63 ∧
  ∀ s c H', Same H H' → St s c H' → Q (.ref s) H'
def sp_law_draw (_ : PySem.W.Frag) : Sp := fun vs H Q _ => ∃ (s c : Addr) (m : Int), vs = [.ref s, .int m] ∧ St s c H ∧ (0 < m ∧ m < 1073741824) ∧
  ∀ d H', Kp [s, c] H H' → St s c H' → 0 ≤ d ∧ d < m → Q (.int d) H'
theorem St.nil0 {s c : Addr} {H : Hp} (h : St s c H) : H s ≠ none ∧ H c ≠ none := by
  obtain ⟨_, cs, j, r, h⟩ := h
  exact ⟨by rw [h.hs]; simp, by rw [h.hc]; simp⟩
theorem ints_of_all {p : Int → Prop} : ∀ {ys : List V}, (∀ y ∈ ys, ∃ n : Int, y = .int n ∧ p n) → ∃ cs : List Int, ys = cs.map .int ∧ ∀ n ∈ cs, p n
  | [], _ => ⟨[], rfl, by simp⟩
  | y :: ys, h => by
    obtain ⟨n, rfl, hn⟩ := h y List.mem_cons_self
    obtain ⟨cs, rfl, hc⟩ := ints_of_all (ys := ys) fun z hz => h z (List.mem_cons_of_mem _ hz)
    exact ⟨n :: cs, rfl, fun m hm => by
      rcases List.mem_cons.mp hm with rfl | hm
      · exact hn
      · exact hc m hm⟩
theorem atI_in {α : Type} {xs : List α} {i : Int} (h0 : 0 ≤ i) (h1 : i < xs.length) : ∃ v, atI xs i = some v ∧ v ∈ xs := by
  obtain ⟨j, rfl⟩ : ∃ j : Nat, i = j := ⟨i.toNat, by omega⟩
  have h2 : j < xs.length := by omega
  exact ⟨xs[j], atI_nat (List.getElem?_eq_getElem h2), List.getElem_mem h2⟩
section
variable {P : Program} {w : World} {K : PySem.W.Frag} {mg : Str → Option Value} {base : Heap}
theorem ok_law_draw (T : Tx K mg)  {f : Addr} {fd : FuncData} (F : Here K mg "_law_draw" s_law_draw ["state", "many"] f fd) : Cal P w K mg base "_law_draw" 1 ["state", "many"] (sp_law_draw K) s_law_draw f fd := by
  refine F.cal sc_law_draw (fun vs H Q E h => ?_) (fun cdv A outer s H vs Q E hr h => ?_)
  · obtain ⟨s, c, m, rfl, _⟩ := h
    rfl
  · obtain ⟨s, c, m, rfl, hst, ⟨m0, m1⟩, q⟩ := h
    refine ⟨_, (pss_cons (ps_set (i := 2) sc_law_draw.nd rfl (by first | exact .inl rfl | exact .inr rfl) (pe_ix (ix_listK (K := K)) (pv 0) pe_int (fun _ _ => rfl)))
      (pss_cons (ps_set (i := 3) sc_law_draw.nd rfl (by first | exact .inl rfl | exact .inr rfl) (pe_op op_mod (pe_ix (ix_listK (K := K)) (pv 0) pe_int (fun _ _ => rfl)) (pe_callB (cr_lenK (K := K)) (by rfl) T.m_len (by decide +kernel) (pa_cons (pv 2) pa_nil))))
      (pss_cons (ps_set (i := 4) sc_law_draw.nd rfl (by first | exact .inl rfl | exact .inr rfl) (pe_ix (ix_listK (K := K)) (pv 2) (pv 3) (fun _ _ => rfl)))
      (pss_cons (ps_if (pt_cmpR op_ge (pv 4) pe_int (nomark _)) (pss_cons (ps_asg (pe_op op_fdivW (pv 4) (pv 1)) (pg_sub (pv 2) (pv 3) set_list))
      (pss_one (ps_ret (pe_op op_mod (pv 4) (pv 1))))) pss_nil)
      (pss_cons (ps_asg (pe_op op_add (pe_ix (ix_listK (K := K)) (pv 0) pe_int (fun _ _ => rfl)) pe_int) (pg_sub (pv 0) pe_int set_list))
      (pss_cons (ps_asg (pe_op op_mod (pe_op op_add (pe_op op_add (pe_op op_mul (pe_ix (ix_listK (K := K)) (pv 0) pe_int (fun _ _ => rfl)) pe_int) (pv 4)) pe_int) pe_int) (pg_sub (pv 0) pe_int set_list))
      (pss_one (ps_ret (pe_op op_mod (pe_op op_fdivW (pe_op op_mod (pe_op op_mul (pe_ix (ix_listK (K := K)) (pv 0) pe_int (fun _ _ => rfl)) (pe_ix (ix_listK (K := K)) (pv 0) pe_int (fun _ _ => rfl))) pe_int) pe_int) (pv 1)))))))))), ?_⟩
    obtain ⟨hne, cs, j, r, hs, hc, ne, nn, len, hj, hr0, hr1⟩ := hst
    have hl : 0 < (cs.map V.int).length := by rw [List.length_map]; exact List.length_pos_iff.mpr ne
    obtain ⟨i, hi, ei⟩ : ∃ i : Nat, i < cs.length ∧ j % ((cs.map V.int).length : Int) = i := by
      have h1 := Int.emod_nonneg j (show ((cs.map V.int).length : Int) ≠ 0 by omega)
      have h2 := Int.emod_lt_of_pos j (show (0 : Int) < ((cs.map V.int).length : Int) by omega)
      rw [List.length_map] at h1 h2 ⊢
      exact ⟨(j % (cs.length : Int)).toNat, by omega, by omega⟩
    have hx : atI (cs.map V.int) (j % ((cs.map V.int).length : Int)) = some (.int cs[i]) := by
      rw [ei]; exact atI_nat (by rw [List.getElem?_map, List.getElem?_eq_getElem hi]; rfl)
    have hx0 : 0 ≤ cs[i] := nn _ (List.getElem_mem hi)
    have hxi : ixN (cs.map V.int).length (j % ((cs.map V.int).length : Int)) = some i := by
      rw [ei]; unfold ixN; rw [if_pos (by omega), if_pos (by rw [List.length_map]; omega)]; rfl
    have hw : CDivW cs[i] m := wide_div (b := 30) m0 (by omega) (by decide) (by decide)
    walk_at "st"
    walk_at "if"
    refine r_ite (fun hge => ?_) (fun hlt => ?_)
    · walk_at "st"
      refine q _ _ (fun b o e hb => ?_) ⟨hne, cs.set i (cs[i] / m), j, r, ?_, ?_, ?_, ?_, ?_, hj, hr0, hr1⟩ ⟨Int.emod_nonneg _ (by omega), Int.emod_lt_of_pos _ m0⟩
      · rw [upd_ne (by intro z; exact hb (by simp [z]))]; exact e
      · walk_at "hl"
      · rw [upd_same, List.map_set]
      · intro z; exact ne (by simpa using congrArg List.length z)
      · intro x hx
        rcases List.mem_or_eq_of_mem_set hx with h | h
        · exact nn _ h
        · rw [h]; exact Int.ediv_nonneg hx0 (by omega)
      · simpa using len
    · walk_at "st"
      refine q _ _ (fun b o e hb => ?_) ⟨hne, cs, j + 1, (r * 48271 + cs[i] + 12345) % 2147483647, upd_same, ?_, ne, nn, len, by omega, Int.emod_nonneg _ (by decide), Int.emod_lt_of_pos _ (by decide)⟩ ⟨Int.emod_nonneg _ (by omega), Int.emod_lt_of_pos _ m0⟩
      · rw [upd_ne (by intro z; exact hb (by simp [z])), upd_ne (by intro z; exact hb (by simp [z]))]; exact e
      · rw [upd_ne hne.symm, upd_ne hne.symm]; exact hc
end
section
variable {P : Program} {w : World} {K : PySem.W.Frag} {mg : Str → Option Value} {base : Heap}
theorem ok_law_state (T : Tx K mg)  {f : Addr} {fd : FuncData} (F : Here K mg "_law_state" s_law_state ["script"] f fd) : Cal P w K mg base "_law_state" 1 ["script"] (sp_law_state K) s_law_state f fd := by
  refine F.cal sc_law_state (fun vs H Q E h => ?_) (fun cdv A outer s H vs Q E hr h => ?_)
  · obtain ⟨a, ns, rfl, _⟩ := h
    rfl
  · obtain ⟨a, ns, rfl, hS, hlen, q⟩ := h
    refine ⟨_, (pss_cons (ps_setLc (i := 1) rfl sc_law_state.nd rfl rfl (sw_true rfl rfl rfl (by decide +kernel)) (pi_listK (K := K) (pe_slice (sl_listK (K := K)) (pv 0) po_none (po_some pe_int))) (blkOk_by (own := [("cell", 2)]) (N := ["script", "cells", "cell"]) (sc := (defScope s_law_state)) (by decide +kernel)) (fun _ _ _ _ _ => (pg_name (i := 2) sc_law_state.nd rfl (by first | exact .inl rfl | exact .inr rfl))) (fun _ _ _ _ _ => pts_nil) (fun _ _ _ _ _ => (pe_callB cr_abs (by rfl) T.m_abs (by decide +kernel) (pa_cons (pv 2) pa_nil))))
      (pss_cons (ps_if (pt_cmpR op_eq (pe_callB (cr_lenK (K := K)) (by rfl) T.m_len (by decide +kernel) (pa_cons (pv 1) pa_nil)) pe_int (nomark _)) (pss_one (ps_set (i := 1) sc_law_state.nd rfl (by first | exact .inl rfl | exact .inr rfl) (pe_lst (pa_cons pe_int pa_nil)))) pss_nil)
      (pss_one (ps_ret (pe_lst (pa_cons (pv 1) (pa_cons pe_int (pa_cons pe_int pa_nil)))))))), ?_⟩
    walk_at "st"
    intro p hp
    walk_at "st"
    intro D hD
    have hcut : ∀ (i : Nat) (x : V), (cutV (ns.map V.int) none (some 63))[i]? = some x → ∃ n : Int, x = .int n := fun i x e => by
      have h1 := List.mem_of_getElem? e
      unfold cutV at h1
      obtain ⟨n, _, hn⟩ := List.mem_map.mp (List.mem_of_mem_drop (List.mem_of_mem_take h1))
      exact ⟨n, hn.symm⟩
    have hcl : (cutV (ns.map V.int) none (some 63)).length ≤ 63 := Nat.le_trans (cutV_length _ _ _) (by rw [List.length_map]; exact hlen)
    refine lc_map (walk_list (xs := cutV (ns.map V.int) none (some 63))) (by omega) hD (fun _ y _ => ∃ n : Int, y = .int n ∧ 0 ≤ n) (fun _ _ _ _ h _ => h) (fun _ _ _ _ _ h _ => h) (fun H' k => SqL.of (k _ _ upd_same)) (fun i H1 x H2 y => by rw [y.1]; exact Same.refl _)
      (fun i x H1 H2 Y No hi sm y hY => ?_) (fun ys H' el sm eD hys => ?_)
    · obtain ⟨rfl, ex⟩ := y
      obtain ⟨n, rfl⟩ := hcut i x ex
      refine ⟨rfl, ?_⟩
      walk_at "st"
      refine hY _ _ (Same.refl _) ⟨_, rfl, ?_⟩
      split <;> omega
    · have hall : ∀ y ∈ ys, ∃ n : Int, y = .int n ∧ 0 ≤ n := fun y hy => by
        obtain ⟨i, e⟩ := List.getElem?_of_mem hy
        exact hys i y e
      obtain ⟨cs, ecs, hcs⟩ := ints_of_all hall
      subst ecs
      have hSame : Same H H' := (Same.upd_new hp).trans sm
      have hcl2 : cs.length ≤ 63 := by rw [List.length_map] at el; omega
      walk_at "st"
      walk_at "if"
      refine r_ite (fun h0 => ?_) (fun h0 => ?_)
      · walk_at "st"
        intro l hl
        walk_at "st"
        intro s hs
        have ne : s ≠ l := fun z => by rw [z, upd_same] at hs; cases hs
        refine q s l _ (by walk_at "sm") ⟨ne, [5], 0, 1, upd_same, hl_set ne.symm upd_same, by simp, by simp, by simp, by omega, by omega, by omega⟩
      · walk_at "st"
        intro s hs
        have ne : s ≠ D := (ne_of_none eD hs).symm
        have h1 : cs ≠ [] := fun z => h0 (by rw [z]; rfl)
        exact q s D _ (by walk_at "sm") ⟨ne, cs, 0, 1, upd_same, hl_set ne.symm eD, h1, hcs, by omega, by omega, by omega, by omega⟩
end
def sp_law_prime (_ : PySem.W.Frag) : Sp := fun vs H Q _ => ∃ (s c : Addr), vs = [.ref s] ∧ St s c H ∧
  ∀ p H', Kp [s, c] H H' → St s c H' → p ∈ [2, 3, 5, 97, (997 : Int)] → Q (.int p) H'
/-- a new tuple of numbers by base -/
def sp_law_row (_ : PySem.W.Frag) : Sp := fun vs H Q _ => ∃ (s c : Addr) (w b : Int), vs = [.ref s, .int w, .int b] ∧ St s c H ∧ (0 ≤ w ∧ w ≤ 400) ∧ (2 ≤ b ∧ b ≤ 997) ∧
  ∀ (p : Addr) (ns : List Int) (H' : Hp), Kp [s, c] H H' → St s c H' → H p = none → H' p = some (.tup (ns.map .int)) → ((ns.length : Int) = w ∧ ∀ n ∈ ns, 0 ≤ n ∧ n < b) → Q (.ref p) H'
section
variable {P : Program} {w : World} {K : PySem.W.Frag} {mg : Str → Option Value} {base : Heap}
theorem ok_law_prime (T : Tx K mg) {f_law_draw : Addr} {fd_law_draw : FuncData} (C_law_draw : Cal P w K mg base "_law_draw" 1 ["state", "many"] (sp_law_draw K) s_law_draw f_law_draw fd_law_draw) {f : Addr} {fd : FuncData} (F : Here K mg "_law_prime" s_law_prime ["state"] f fd) : Cal P w K mg base "_law_prime" 2 ["state"] (sp_law_prime K) s_law_prime f fd := by
  refine F.cal sc_law_prime (fun vs H Q E h => ?_) (fun cdv A outer s H vs Q E hr h => ?_)
  · obtain ⟨s, c, rfl, _⟩ := h
    rfl
  · obtain ⟨s, c, rfl, hst, q⟩ := h
    refine ⟨_, (pss_one (ps_ret (pe_ix (ix_listK (K := K)) (pe_lst (pa_cons pe_int (pa_cons pe_int (pa_cons pe_int (pa_cons pe_int (pa_cons pe_int pa_nil)))))) (pe_call C_law_draw.ok (hr.mono (by decide)) (by rfl) C_law_draw.at_ C_law_draw.kp C_law_draw.b .nil pass0 (pa_cons (pv 0) (pa_cons pe_int pa_nil))) (fun _ _ => rfl)))), ?_⟩
    walk_at "st"
    intro l hl
    have ol := hst.out hl
    walk_at "st"
    refine ⟨s, c, 5, rfl, by walk_at "stt", by omega, fun d H1 k1 st1 hd => ?_⟩
    obtain ⟨v, ev, hv⟩ := atI_in (xs := [V.int 2, V.int 3, V.int 5, V.int 97, V.int 997]) hd.1 (by simpa using hd.2)
    walk_at "st"
    obtain ⟨p, rfl, hp⟩ : ∃ p, v = .int p ∧ p ∈ [2, 3, 5, 97, (997 : Int)] := by
      simp at hv
      rcases hv with h | h | h | h | h <;> exact ⟨_, h, by simp⟩
    exact q p H1 (by walk_at "kp") st1 hp
theorem ok_law_row (T : Tx K mg) {f_law_draw : Addr} {fd_law_draw : FuncData} (C_law_draw : Cal P w K mg base "_law_draw" 1 ["state", "many"] (sp_law_draw K) s_law_draw f_law_draw fd_law_draw) {f : Addr} {fd : FuncData} (F : Here K mg "_law_row" s_law_row ["state", "wideness", "base"] f fd) : Cal P w K mg base "_law_row" 2 ["state", "wideness", "base"] (sp_law_row K) s_law_row f fd := by
  refine F.cal sc_law_row (fun vs H Q E h => ?_) (fun cdv A outer s H vs Q E hr h => ?_)
  · obtain ⟨s, c, w, b, rfl, _⟩ := h
    rfl
  · obtain ⟨s, c, w, b, rfl, hst, hw, hb, q⟩ := h
    refine ⟨_, (pss_cons (ps_set (i := 3) sc_law_row.nd rfl (by first | exact .inl rfl | exact .inr rfl) (pe_call C_law_draw.ok (hr.mono (by decide)) (by rfl) C_law_draw.at_ C_law_draw.kp C_law_draw.b .nil pass0 (pa_cons (pv 0) (pa_cons pe_int pa_nil))))
      (pss_cons (ps_set (i := 4) sc_law_row.nd rfl (by first | exact .inl rfl | exact .inr rfl) (pe_lst pa_nil))
      (pss_cons (ps_for PassesOwn.never rfl (pi_range1 (by rfl) T.m_range (pa_cons (pv 1) pa_nil)) (pg_name (i := 5) sc_law_row.nd rfl (by first | exact .inl rfl | exact .inr rfl)) (pss_cons (ps_set (i := 6) sc_law_row.nd rfl (by first | exact .inl rfl | exact .inr rfl) (pe_ix (ix_listK (K := K)) (pe_lst (pa_cons (pe_call C_law_draw.ok (hr.mono (by decide)) (by rfl) C_law_draw.at_ C_law_draw.kp C_law_draw.b .nil pass0 (pa_cons (pv 0) (pa_cons (pv 2) pa_nil))) (pa_cons (pe_op op_sub (pv 2) pe_int) (pa_cons (pe_op op_mod pe_int (pv 2)) (pa_cons (pe_call C_law_draw.ok (hr.mono (by decide)) (by rfl) C_law_draw.at_ C_law_draw.kp C_law_draw.b .nil pass0 (pa_cons (pv 0) (pa_cons pe_int pa_nil))) pa_nil))))) (pe_call C_law_draw.ok (hr.mono (by decide)) (by rfl) C_law_draw.at_ C_law_draw.kp C_law_draw.b .nil pass0 (pa_cons (pv 0) (pa_cons pe_int pa_nil))) (fun _ _ => rfl)))
      (pss_one (ps_expr (castBM (K := K) (pe_bm PySem.F.plainAttrs_list PySem.F.slot_list_append PySem.F.type_list_append mt_append (pv 4) (pa_cons (pe_ifExp (PW.pt (pw_or (pt_cmpR op_gt (pv 3) pe_int (nomark _)) (pw_or1 (pt_cmpR op_eq (pe_call C_law_draw.ok (hr.mono (by decide)) (by rfl) C_law_draw.at_ C_law_draw.kp C_law_draw.b .nil pass0 (pa_cons (pv 0) (pa_cons pe_int pa_nil))) pe_int (nomark _))))) (pv 6) pe_int) pa_nil)))))))
      (pss_one (ps_ret (pe_callTy (cr_tupOfK (K := K)) (by rfl) T.m_tuple (by decide +kernel) (pa_cons (pv 4) pa_nil))))))), ?_⟩
    walk_at "st"
    refine ⟨s, c, 4, rfl, by walk_at "stt", by omega, fun way H1 k1 st1 hway => ?_⟩
    walk_at "st"
    intro l hl
    have ol := st1.out hl
    walk_at "st"
    have hl0 : H l = none := k1.free hl ol
    refine lp_by (walk_range (lo := 0) (n := w.toNat)) (fun i σ' H' => ∃ x5 x6, σ' = [some (.ref s), some (.int w), some (.int b), some (.int way), some (.ref l), x5, x6] ∧ Kp [s, c] H H' ∧ St s c H' ∧
      ∃ ns : List Int, H' l = some (.lst (ns.map .int)) ∧ ns.length = i ∧ ∀ n ∈ ns, 0 ≤ n ∧ n < b) ⟨none, none, rfl, by walk_at "kp", by walk_at "stt", [], upd_same, rfl, by simp⟩ (fun _ _ _ _ _ => trivial) (fun i x σ' H2 H3 hi p y => ?_) (fun σ' H2 p => ?_)
    · obtain ⟨x5, x6, rfl, k2, st2, ns, el, en, hn⟩ := p
      obtain ⟨rfl, rfl⟩ := y
      walk_at "st"
      refine ⟨s, c, b, rfl, by walk_at "stt", by omega, fun d1 H4 k4 st4 hd1 => ?_⟩
      walk_at "st"
      refine ⟨s, c, 2, rfl, by walk_at "stt", by omega, fun d2 H5 k5 st5 hd2 => ?_⟩
      walk_at "st"
      intro t ht
      have ot := st5.out ht
      walk_at "st"
      refine ⟨s, c, 4, rfl, by walk_at "stt", by omega, fun d3 H6 k6 st6 hd3 => ?_⟩
      have em := Int.emod_nonneg 1 (show b ≠ 0 by omega)
      have em2 := Int.emod_lt_of_pos 1 (show 0 < b by omega)
      obtain ⟨v, ev, hv⟩ := atI_in (xs := [V.int d1, V.int (b - 1), V.int (1 % b), V.int d2]) hd3.1 (by simpa using hd3.2)
      obtain ⟨n, rfl, hn1⟩ : ∃ n, v = .int n ∧ (0 ≤ n ∧ n < b) := by
        simp at hv
        rcases hv with h | h | h | h <;> exact ⟨_, h, by omega⟩
      walk_at "st"
      have el6 : H6 l = some (.lst (ns.map .int)) := by walk_at "hl"
      have kl6 : Kp [s, c] H H6 := by walk_at "kp"
      have fin : ∀ (m : Int) (H7 : Hp), (0 ≤ m ∧ m < b) → Kp [s, c] H H7 → St s c H7 → H7 l = some (.lst (ns.map .int)) → ∃ x5 x6, [some (.ref s), some (.int w), some (.int b), some (.int way), some (.ref l), some (V.int (0 + (i : Int))), some (V.int n)] = [some (.ref s), some (.int w), some (.int b), some (.int way), some (.ref l), x5, x6] ∧ Kp [s, c] H (upd H7 l (.lst (ns.map .int ++ [.int m]))) ∧ St s c (upd H7 l (.lst (ns.map .int ++ [.int m]))) ∧
          ∃ ns' : List Int, (upd H7 l (.lst (ns.map .int ++ [.int m]))) l = some (.lst (ns'.map .int)) ∧ ns'.length = i + 1 ∧ ∀ n ∈ ns', 0 ≤ n ∧ n < b := fun m H7 hm k7 st7 e7 => by
        refine ⟨_, _, rfl, by walk_at "kp", by walk_at "stt", ns ++ [m], by rw [upd_same, List.map_append]; rfl, by simp [en], fun z hz => ?_⟩
        rcases List.mem_append.mp hz with h | h
        · exact hn z h
        · rw [List.mem_singleton.mp h]; exact hm
      have hns : ns.length ≤ 400 := by omega
      refine r_ite (fun h1 => ?_) (fun h1 => ?_)
      · walk_at "st"
        exact fin n H6 hn1 kl6 st6 el6
      · walk_at "st"
        refine ⟨s, c, 3, rfl, by walk_at "stt", by omega, fun d4 H7 k7 st7 hd4 => ?_⟩
        walk_at "st"
        have el7 : H7 l = some (.lst (ns.map .int)) := by walk_at "hl"
        refine r_ite (fun h2 => ?_) (fun h2 => ?_)
        · walk_at "st"
          exact fin n H7 hn1 (by walk_at "kp") st7 (by walk_at "hl")
        · walk_at "st"
          exact fin 0 H7 (by omega) (by walk_at "kp") st7 (by walk_at "hl")
    · obtain ⟨x5, x6, rfl, k2, st2, ns, el, en, hn⟩ := p
      walk_at "st"
      intro p hp
      exact q p ns _ (by walk_at "kp") (by walk_at "stt") (k2.free hp (st2.out hp)) upd_same ⟨by omega, hn⟩
end
/-! ### zip of a list and a tuple; a list or a tuple walked -/
def ItzM (K : PySem.W.Frag) (a b : Addr) : It :=
  ⟨fun i H => ∃ (xs ys : List V) (x y : V), SqL K H a xs ∧ SqT K H b ys ∧ xs[i]? = some x ∧ ys[i]? = some y,
    fun i H v H' => ∃ T x y, v = .ref T ∧ H T = none ∧ H' = upd H T (.tup [x, y]) ∧ (∀ xs, SqL K H a xs → xs[i]? = some x) ∧ ∀ ys, SqT K H b ys → ys[i]? = some y,
    fun i H => ∃ xs ys : List V, SqL K H a xs ∧ SqT K H b ys ∧ i = min xs.length ys.length⟩
theorem turn_zipM {P : Program} {w : World} {K : PySem.W.Frag} {elts : List Expr} {kk : Nat} {tpos : Pos} {a b z TI TO i1 i2 : Addr} (D : ZipSep2 z TI TO i1 i2 [i1, a] [i2, b]) (n1 : a ≠ i1) (n2 : b ≠ i2) :
    Turn P w K (.Tuple elts kk tpos) (ItzM K a b) [z, TI, TO, i1, i2] z (fun i h => IsZip h z TI TO .none ∧ IsTupOf2 h TI (.ref i1) (.ref i2) ∧ (∃ x y, IsTupOf2 h TO x y) ∧ h.IsListIter i1 a i ∧ h.IsTupleIter i2 b i) where
  mem := List.mem_cons_self
  obj := fun i h st c hc => by
    obtain ⟨q1, q2, ⟨x, y, q3⟩, ⟨o1, e1, _, d1⟩, ⟨o2, e2, _, d2⟩⟩ := st
    have e' : c = z ∨ c = TI ∨ c = TO ∨ c = i1 ∨ c = i2 := by simpa using hc
    rcases e' with q | q | q | q | q <;> rw [q]
    · exact ⟨_, q1, fun v u => nomatch u⟩
    · exact ⟨_, q2, fun v u => nomatch u⟩
    · exact ⟨_, q3, fun v u => nomatch u⟩
    · exact ⟨o1, e1, fun v u => by rw [d1] at u; cases u⟩
    · exact ⟨o2, e2, fun v u => by rw [d2] at u; cases u⟩
  keep := fun i h h' st k => by
    obtain ⟨q1, q2, ⟨x, y, q3⟩, h1, h2⟩ := st
    exact ⟨k z (by simp) _ q1, k TI (by simp) _ q2, ⟨x, y, k TO (by simp) _ q3⟩, h1.at fun o q => k i1 (by simp) o q, h2.at fun o q => k i2 (by simp) o q⟩
  item := by
    intro X hP hw hK hc i pins s σ H E I hf st hg
    subst hP hw hK
    obtain ⟨q1, q2, q3, h1, h2⟩ := st
    obtain ⟨xs, ys, x, y, hqx, hqy, hx, hy⟩ := hg
    obtain ⟨its, rv, p, _⟩ := I.list hqx
    obtain ⟨its2, rv2, p2, _⟩ := I.tuple hqy
    obtain ⟨u, hu, ru⟩ := rv.get hx
    obtain ⟨u2, hu2, ru2⟩ := rv2.get hy
    have W := WalksT.zipD2 (A := X.A) D (Draws.list (prog := X.prog) (w := X.w) (A := X.A.in1) (I.ok.hd hc) i1 a n1 its.toArray) (Draws.tuple (A := X.A.in1) (I.ok.hd hc) i2 b n2 its2.toArray)
    have lt : i < min its.toArray.size its2.toArray.size := by
      obtain ⟨z1, _⟩ := List.getElem?_eq_some_iff.mp hu
      obtain ⟨z2, _⟩ := List.getElem?_eq_some_iff.mp hu2
      simp only [List.size_toArray]
      omega
    refine W.item i s _ _ lt ⟨q1, q2, q3, ⟨h1, p.isList⟩, ⟨h2, p2⟩⟩ fun T vals h' tk hP hT0 hT hM hk => ⟨_, rfl, W.go _ _ _ i T { s with heap := h', toks := tk } _ _ hM fun h2' st2 hk2 => ?_⟩
    obtain ⟨x', y', e1, e2, rfl⟩ := hP
    obtain rfl : x' = u := by
      have e1 : its.toArray[i]? = some x' := e1
      rw [List.getElem?_toArray, hu] at e1
      exact (Option.some.inj e1).symm
    obtain rfl : y' = u2 := by
      have e2 : its2.toArray[i]? = some y' := e2
      rw [List.getElem?_toArray, hu2] at e2
      exact (Option.some.inj e2).symm
    have hT2 : h2'.IsTuple T #[x', y'] := hT.at fun o e => hk2 T o (W.apart i T _ hM) e
    have sub : ∀ c, c ∉ [z, TI, TO, i1, i2] → c ∉ [z, TO, i1, i2] := fun c hc q => hc (by
      have e' : c = z ∨ c = TO ∨ c = i1 ∨ c = i2 := by simpa using q
      rcases e' with q | q | q | q <;> simp [q])
    have okn : ObjOk X.prog X.w (upd H T (.tup [x, y])) h2' T (.tup [x, y]) := by
      refine ⟨?_, [x', y'], .cons ru (.cons ru2 .nil), hT2⟩
      show 2 ≤ sizeLine
      decide
    refine ⟨.ref T, _, I.turnedNew (t' := tk) (ch := [z, TI, TO, i1, i2]) (fun c o hb q => hk2 c o (sub c hb) (hk c o (sub c hb) q)) hf hT0 okn, rfl, ⟨_, x, y, rfl, I.hok.fresh hT0, rfl, fun l hl => by rw [I.list_inj hl hqx]; exact hx, fun l hl => by rw [I.tuple_inj hl hqy]; exact hy⟩, ⟨st2.1, st2.2.1, st2.2.2.1, st2.2.2.2.1.1, st2.2.2.2.2.1⟩, fun c hcm => ?_⟩
    have hlt : c < s.heap.objs.size := by
      obtain ⟨xx, yy, q3'⟩ := q3
      have e' : c = z ∨ c = TI ∨ c = TO ∨ c = i1 ∨ c = i2 := by simpa using hcm
      rcases e' with q | q | q | q | q <;> rw [q]
      · exact Heap.lt_size q1
      · exact Heap.lt_size q2
      · exact Heap.lt_size q3'
      · obtain ⟨_, e1, _⟩ := h1; exact Heap.lt_size e1
      · obtain ⟨_, e2, _⟩ := h2; exact Heap.lt_size e2
    rw [upd_ne (Nat.ne_of_lt (Nat.lt_of_lt_of_le hlt hT0))]
    exact (hf c hcm).1
  done := by
    intro X hP hw hK hc i pins s σ H E I hf st hg
    subst hP hw hK
    obtain ⟨q1, q2, q3, h1, h2⟩ := st
    obtain ⟨xs, ys, hqx, hqy, rfl⟩ := hg
    obtain ⟨its, rv, p, _⟩ := I.list hqx
    obtain ⟨its2, rv2, p2, _⟩ := I.tuple hqy
    have W := WalksT.zipD2 (A := X.A) D (Draws.list (prog := X.prog) (w := X.w) (A := X.A.in1) (I.ok.hd hc) i1 a n1 its.toArray) (Draws.tuple (A := X.A.in1) (I.ok.hd hc) i2 b n2 its2.toArray)
    have el : min xs.length ys.length = min its.toArray.size its2.toArray.size := by rw [List.size_toArray, List.size_toArray, rv.length, rv2.length]
    rw [el] at h1 h2
    refine W.done s _ _ ⟨q1, q2, q3, ⟨h1, p.isList⟩, ⟨h2, p2⟩⟩ fun h' tk hk => ⟨rfl, I.turnedL (t' := tk) (ch := [z, TI, TO, i1, i2]) (fun c o hb q => hk c o (fun y => hb ?_) q) hf⟩
    have e' : c = z ∨ c = TO ∨ c = i1 ∨ c = i2 := by simpa using y
    rcases e' with q | q | q | q <;> simp [q]
  self := fun A i s Q E st h => wpAny_pyIter_zip st.1 h
def ZpX (K : PySem.W.Frag) (R : It → Hp → Prop) (vs : List V) (H : Hp) : Prop := ∃ a b xs ys, vs = [.ref a, .ref b] ∧ ((SqT K H a xs ∧ SqT K H b ys ∧ R (ItzT K a b) H) ∨ (SqL K H a xs ∧ SqT K H b ys ∧ R (ItzM K a b) H))
def iZipX (K : PySem.W.Frag) (ta : TA) : TI := fun σ H R => ta σ H (ZpX K R)
theorem pi_zipX {X : Cx} {e e2 : Expr} {ta : TA} {p pos tpos : Pos} {elts : List Expr} {kk : Nat} (hg : Gl X "zip") (hm : X.mg "zip" = none) (ha : PA X [e, e2] ta)
    (hs : starEach [e, e2] X.env = (false, eval e X.env) :: starEach [e2] X.env := by rfl) (hpl : (backTo pos (starEach [e2] X.env)).any (·.1) = false := by rfl) :
    PI X (.Tuple elts kk tpos) (.Call (.Name "zip" p) [e, e2] [] pos) (iZipX X.K ta) := by
  refine ⟨fun pins s σ H R I h => ?_⟩
  refine Call_ (ld_blt I hg hm PyProof.Rows.boot_zip (PyProof.Rows.callWith_type1 (thn (ha.run pos pins s σ H _ I h) fun us t ⟨vs, H1, J, r1, q1⟩ => ?_) hs hpl))
  obtain ⟨a, b, xs, ys, rfl, q1⟩ := q1
  obtain ⟨u, v, rfl, ru, rv⟩ := vals2 r1
  obtain rfl : u = Value.ref a := ru
  obtain rfl : v = Value.ref b := rv
  have fr : ∀ c, c ∈ [t.heap.objs.size + 4, t.heap.objs.size + 2, t.heap.objs.size + 3, t.heap.objs.size, t.heap.objs.size + 1] → FpOk X pins H1 c := fun c hcm => by
    have le : t.heap.objs.size ≤ c := by
      have e' : c = t.heap.objs.size + 4 ∨ c = t.heap.objs.size + 2 ∨ c = t.heap.objs.size + 3 ∨ c = t.heap.objs.size ∨ c = t.heap.objs.size + 1 := by simpa using hcm
      rcases e' with z | z | z | z | z <;> rw [z]
      · exact Nat.le_add_right _ _
      · exact Nat.le_add_right _ _
      · exact Nat.le_add_right _ _
      · exact Nat.le_refl _
      · exact Nat.le_add_right _ _
    exact J.fpOk le (J.hok.fresh le)
  rcases q1 with ⟨hqx, hqy, q⟩ | ⟨hqx, hqy, q⟩
  · obtain ⟨its, w1, p1, _⟩ := J.tuple hqx
    obtain ⟨its2, w2, p2, _⟩ := J.tuple hqy
    have la : a < t.heap.objs.size := by obtain ⟨_, z, _⟩ := p1; exact Heap.lt_size z
    have lb : b < t.heap.objs.size := by obtain ⟨_, z, _⟩ := p2; exact Heap.lt_size z
    refine call_zipT (show t.heap.IsTuple a its.toArray from p1) (show t.heap.IsTuple b its2.toArray from p2) fun g hz hTI hTO h1 h2 _ hk => wpAny_pyIter_zip hz ?_
    exact ⟨t.heap.objs.size + 4, _, _, _, H1, rfl, J.kept (t' := t.toks) hk, turn_zipT (PySem.W.ktu_apart t.heap.objs.size a b la lb), ⟨hz, hTI, ⟨_, _, hTO⟩, h1, h2⟩, fr, q⟩
  · obtain ⟨its, w1, p1, _⟩ := J.list hqx
    obtain ⟨its2, w2, p2, _⟩ := J.tuple hqy
    have la : a < t.heap.objs.size := p1.lt
    have lb : b < t.heap.objs.size := by obtain ⟨_, z, _⟩ := p2; exact Heap.lt_size z
    refine zip_begins2 (begins_list a its.toArray) (begins_tuple b its2.toArray) p1.isList p2 fun g hz hTI hTO h1 h2 _ hk => wpAny_pyIter_zip hz ?_
    exact ⟨t.heap.objs.size + 4, _, _, _, H1, rfl, J.kept (t' := t.toks) hk, turn_zipM (zip_sep2 (N := t.heap.objs.size) (fp1 := [a]) (fp2 := [b]) (by simpa using la) (by simpa using lb)) (Nat.ne_of_lt la) (Nat.ne_of_lt (Nat.lt_succ_of_lt lb)),
      ⟨hz, hTI, ⟨_, _, hTO⟩, ⟨_, h1, rfl, rfl⟩, ⟨_, h2, rfl, rfl⟩⟩, fr, q⟩
def SqR (K : PySem.W.Frag) (R : It → Hp → Prop) (x : V) (H : Hp) : Prop := ∃ a, x = .ref a ∧ (((∃ xs, SqT K H a xs) ∧ R (Itt K a) H) ∨ ((∃ xs, SqL K H a xs) ∧ R (Itl K a) H))
def iSq (K : PySem.W.Frag) (tl : TE) : TI := fun σ H R => tl σ H (SqR K R)
theorem pi_sq {X : Cx} {tg l : Expr} {tl : TE} (hl : PE X l tl) : PI X tg l (iSq X.K tl) := by
  refine ⟨fun pins s σ H R I h => ?_⟩
  refine thn (hl.run pins s σ H _ I h) fun v t ⟨x, H1, J, r1, q1⟩ => ?_
  obtain ⟨a, rfl, q1⟩ := q1
  cases r1
  have fr : ∀ b, b ∈ [t.heap.objs.size] → FpOk X pins H1 b := fun b m => by
    rw [List.mem_singleton.mp m]
    exact J.fpOk (Nat.le_refl _) (J.hok.fresh (Nat.le_refl _))
  rcases q1 with ⟨⟨xs, hq⟩, q⟩ | ⟨⟨xs, hq⟩, q⟩
  · obtain ⟨its, rv, p, _⟩ := J.tuple hq
    exact wpAny_pyIter_tuple (show t.heap.IsTuple a its.toArray from p) ⟨t.heap.objs.size, [t.heap.objs.size], _, _, H1, rfl, J.kept (t' := t.toks) fun b o e => Heap.get?_push_of_some _ e, turn_tuple a _, ⟨_, Heap.get?_push_size _ rfl, rfl, rfl⟩, fr, q⟩
  · obtain ⟨its, rv, p, _⟩ := J.list hq
    exact wpAny_pyIter_list p.isList ⟨t.heap.objs.size, [t.heap.objs.size], _, _, H1, rfl, J.kept (t' := t.toks) fun b o e => Heap.get?_push_of_some _ e, turn_list a _, ⟨_, Heap.get?_push_size _ rfl, rfl, rfl⟩, fr, q⟩
section
variable {K : PySem.W.Frag}
theorem walk_zipM {a b : Addr} {xs ys : List V} {n : Nat} (hn : n = min xs.length ys.length) : Walk (ItzM K a b) n (fun H => SqL K H a xs ∧ SqT K H b ys) (YPair (fun i => xs[i]?) (fun i => ys[i]?)) where
  goes := fun i H hi h => ⟨xs, ys, xs[i]'(by omega), ys[i]'(by omega), h.1, h.2, List.getElem?_eq_getElem (by omega), List.getElem?_eq_getElem (by omega)⟩
  stops := fun H h => ⟨xs, ys, h.1, h.2, hn⟩
  yields := fun i H x H' _ h y => by
    obtain ⟨T, x1, y1, e1, e2, e3, e4, e5⟩ := y
    exact ⟨T, x1, y1, e1, e2, e3, e4 xs h.1, e5 ys h.2⟩
theorem r_izx {ta : TA} {σ : L2.St} {H : Hp} {R : It → Hp → Prop} (h : ta σ H (ZpX K R)) : iZipX K ta σ H R := h
theorem r_zxt {R : It → Hp → Prop} {a b : Addr} {xs ys : List V} {H : Hp} (e1 : SqT K H a xs) (e2 : SqT K H b ys) (h : R (ItzT K a b) H) : ZpX K R [.ref a, .ref b] H := ⟨a, b, xs, ys, rfl, .inl ⟨e1, e2, h⟩⟩
theorem r_zxm {R : It → Hp → Prop} {a b : Addr} {xs ys : List V} {H : Hp} (e1 : SqL K H a xs) (e2 : SqT K H b ys) (h : R (ItzM K a b) H) : ZpX K R [.ref a, .ref b] H := ⟨a, b, xs, ys, rfl, .inr ⟨e1, e2, h⟩⟩
theorem r_isq {tl : TE} {σ : L2.St} {H : Hp} {R : It → Hp → Prop} (h : tl σ H (SqR K R)) : iSq K tl σ H R := h
theorem r_sqt {R : It → Hp → Prop} {a : Addr} {xs : List V} {H : Hp} (e : SqT K H a xs) (h : R (Itt K a) H) : SqR K R (.ref a) H := ⟨a, rfl, .inl ⟨⟨xs, e⟩, h⟩⟩
theorem r_sql {R : It → Hp → Prop} {a : Addr} {xs : List V} {H : Hp} (e : SqL K H a xs) (h : R (Itl K a) H) : SqR K R (.ref a) H := ⟨a, rfl, .inr ⟨⟨xs, e⟩, h⟩⟩
end
theorem pi_sqK {X : Cx} {K : PySem.W.Frag} {tg l : Expr} {tl : TE} (h : PE X l tl) (q : X.K = K := by rfl) : PI X tg l (iSq K tl) := q ▸ pi_sq h
theorem ix_seqK {X : Cx} {K : PySem.W.Frag} (q : X.K = K := by rfl) : IxR X (rIx K) := q ▸ ix_seq
theorem r_ixql {K : PySem.W.Frag} {p : Addr} {xs : List V} {i : Int} {v : V} {H : Hp} {Q : VK} (h : SqL K H p xs) (e : atI xs i = some v) (q : Q v H) : rIx K (.ref p) (.int i) H Q := .inl ⟨p, xs, i, v, rfl, rfl, h, e, q⟩
theorem r_ixqt {K : PySem.W.Frag} {p : Addr} {xs : List V} {i : Int} {v : V} {H : Hp} {Q : VK} (h : SqT K H p xs) (e : atI xs i = some v) (q : Q v H) : rIx K (.ref p) (.int i) H Q := .inr (.inl ⟨p, xs, i, v, rfl, rfl, h, e, q⟩)
local macro_rules | `(tactic| walk_at "st1") => `(tactic| first
  | with_reducible refine r_izx ?_
  | with_reducible refine r_isq ?_
  | ((with_reducible refine' r_zxt ?e1 ?e2 ?_); (case e1 => walk_at "sq"); (case e2 => walk_at "sq"))
  | ((with_reducible refine' r_zxm ?e1 ?e2 ?_); (case e1 => walk_at "sq"); (case e2 => walk_at "sq"))
  | ((with_reducible refine' r_sqt ?e1 ?_); (case e1 => walk_at "sq"))
  | ((with_reducible refine' r_sql ?e1 ?_); (case e1 => walk_at "sq")))
def sp_law_times (_ : PySem.W.Frag) : Sp := fun vs H Q _ => ∃ (a : Addr) (ns : List Int) (n b : Int), vs = [.ref a, .int n, .int b] ∧ (H a = some (.tup (ns.map .int)) ∨ H a = some (.lst (ns.map .int))) ∧ ns.length ≤ 1000 ∧ (2 ≤ b ∧ b ≤ 997) ∧ (∀ x ∈ ns, 0 ≤ x ∧ x < b) ∧
  ∀ (p : Addr) (H' : Hp), Same H H' → H p = none → H' p = some (.tup ((ns.map fun x => x * n % b).map .int)) → Q (.ref p) H'
def sp_law_together (_ : PySem.W.Frag) : Sp := fun vs H Q _ => ∃ (a a2 : Addr) (ns ms : List Int) (b : Int), vs = [.ref a, .ref a2, .int b] ∧ (H a = some (.tup (ns.map .int)) ∨ H a = some (.lst (ns.map .int))) ∧ H a2 = some (.tup (ms.map .int)) ∧ ns.length ≤ 1000 ∧ (2 ≤ b ∧ b ≤ 997) ∧
  ∀ (p : Addr) (H' : Hp), Same H H' → H p = none → H' p = some (.tup ((List.zipWith (fun x y => (x + y) % b) ns ms).map .int)) → Q (.ref p) H'
theorem getElem?_map_int {ns : List Int} {i : Nat} {x : V} (e : (ns.map V.int)[i]? = some x) : ∃ n, ns[i]? = some n ∧ x = .int n := by
  rw [List.getElem?_map] at e
  cases h : ns[i]? with
  | none => rw [h] at e; cases e
  | some n => rw [h] at e; exact ⟨n, rfl, (Option.some.inj e).symm⟩
theorem list_ext_int {ys : List V} {ms : List Int} (hl : ys.length = ms.length) (h : ∀ (i : Nat) (y : V), ys[i]? = some y → ∃ m, ms[i]? = some m ∧ y = V.int m) : ys = ms.map V.int := by
  apply List.ext_getElem?
  intro i
  cases e : ys[i]? with
  | none =>
    rw [List.getElem?_eq_none_iff] at e
    rw [List.getElem?_eq_none_iff.mpr (by rw [List.length_map]; omega)]
  | some y =>
    obtain ⟨m, h1, rfl⟩ := h i y e
    rw [List.getElem?_map, h1]; rfl
section
variable {P : Program} {w : World} {K : PySem.W.Frag} {mg : Str → Option Value} {base : Heap}
theorem ok_law_times (T : Tx K mg)  {f : Addr} {fd : FuncData} (F : Here K mg "_law_times" s_law_times ["line", "n", "base"] f fd) : Cal P w K mg base "_law_times" 1 ["line", "n", "base"] (sp_law_times K) s_law_times f fd := by
  refine F.cal sc_law_times (fun vs H Q E h => ?_) (fun cdv A outer s H vs Q E hr h => ?_)
  · obtain ⟨a, ns, n, b, rfl, _⟩ := h
    rfl
  · obtain ⟨a, ns, n, b, rfl, ha, hlen, hb, hns, q⟩ := h
    refine ⟨_, (pss_one (ps_ret (pe_callTy (cr_tupOfK (K := K)) (by rfl) T.m_tuple (by decide +kernel) (pa_cons (pe_lc rfl sc_law_times.nd (pi_sqK (K := K) (pv 0)) (blkOk_by (own := [("number", 3)]) (N := ["line", "n", "base", "number"]) (sc := (defScope s_law_times)) (by decide +kernel)) (fun _ _ _ _ _ => (pg_name (i := 3) sc_law_times.nd rfl (by first | exact .inl rfl | exact .inr rfl))) (fun _ _ _ _ _ => pts_nil) (fun _ _ _ _ _ => (pe_op op_mod (pe_op op_mul (pv 3) (pv 1)) (pv 2)))) pa_nil)))), ?_⟩
    rcases ha with ha | ha
    · walk_at "st"
      intro D hD
      refine lc_map (walk_tup (xs := ns.map V.int)) (by rw [List.length_map]; omega) hD (fun i y _ => ∃ m, (ns.map fun x => x * n % b)[i]? = some m ∧ y = .int m) (fun _ _ _ _ h _ => h) (fun _ _ _ _ _ h _ => h) (fun H' k => SqT.of (k _ _ ha)) (fun i H1 x H2 y => by rw [y.1]; exact Same.refl _)
        (fun i x H1 H2 Y No hi sm y hY => ?_) (fun ys H' el sm eD hys => ?_)
      · obtain ⟨rfl, ex⟩ := y
        obtain ⟨m, em, rfl⟩ := getElem?_map_int ex
        have hm := hns m (List.mem_of_getElem? em)
        refine ⟨rfl, ?_⟩
        walk_at "st"
        refine hY _ _ (Same.refl _) ⟨_, ?_, rfl⟩
        rw [List.getElem?_map, em]; rfl
      · obtain rfl := list_ext_int (ms := ns.map fun x => x * n % b) (by rw [el, List.length_map, List.length_map]) hys
        walk_at "st"
        intro p hp
        exact q p _ (by walk_at "sm") (sm.free hp) upd_same
    · walk_at "st"
      intro D hD
      refine lc_map (walk_list (xs := ns.map V.int)) (by rw [List.length_map]; omega) hD (fun i y _ => ∃ m, (ns.map fun x => x * n % b)[i]? = some m ∧ y = .int m) (fun _ _ _ _ h _ => h) (fun _ _ _ _ _ h _ => h) (fun H' k => SqL.of (k _ _ ha)) (fun i H1 x H2 y => by rw [y.1]; exact Same.refl _)
        (fun i x H1 H2 Y No hi sm y hY => ?_) (fun ys H' el sm eD hys => ?_)
      · obtain ⟨rfl, ex⟩ := y
        obtain ⟨m, em, rfl⟩ := getElem?_map_int ex
        have hm := hns m (List.mem_of_getElem? em)
        refine ⟨rfl, ?_⟩
        walk_at "st"
        refine hY _ _ (Same.refl _) ⟨_, ?_, rfl⟩
        rw [List.getElem?_map, em]; rfl
      · obtain rfl := list_ext_int (ms := ns.map fun x => x * n % b) (by rw [el, List.length_map, List.length_map]) hys
        walk_at "st"
        intro p hp
        exact q p _ (by walk_at "sm") (sm.free hp) upd_same
theorem ok_law_together (T : Tx K mg)  {f : Addr} {fd : FuncData} (F : Here K mg "_law_together" s_law_together ["line", "two", "base"] f fd) : Cal P w K mg base "_law_together" 1 ["line", "two", "base"] (sp_law_together K) s_law_together f fd := by
  refine F.cal sc_law_together (fun vs H Q E h => ?_) (fun cdv A outer s H vs Q E hr h => ?_)
  · obtain ⟨a, a2, ns, ms, b, rfl, _⟩ := h
    rfl
  · obtain ⟨a, a2, ns, ms, b, rfl, ha, ha2, hlen, hb, q⟩ := h
    refine ⟨_, (pss_one (ps_ret (pe_callTy (cr_tupOfK (K := K)) (by rfl) T.m_tuple (by decide +kernel) (pa_cons (pe_lc rfl sc_law_together.nd (castPI (K := K) (wi := fun K => iZipX K _) (pi_zipX (by rfl) T.m_zip (pa_cons (pv 0) (pa_cons (pv 1) pa_nil)))) (blkOk_by (own := [("first", 3), ("two", 1)]) (N := ["line", "two", "base", "first"]) (sc := (defScope s_law_together)) (by decide +kernel)) (fun _ _ _ _ _ => (castPG (K := K) (n := 2) (pg_tup rfl (pgs_cons (pg_name (i := 3) sc_law_together.nd rfl (by first | exact .inl rfl | exact .inr rfl)) (pgs_cons (pg_name (i := 1) sc_law_together.nd rfl (by first | exact .inl rfl | exact .inr rfl)) pgs_nil))))) (fun _ _ _ _ _ => pts_nil) (fun _ _ _ _ _ => (pe_op op_mod (pe_op op_add (pv 3) (pv 1)) (pv 2)))) pa_nil)))), ?_⟩
    rcases ha with ha | ha
    · walk_at "st"
      intro D hD
      refine lc_map (walk_zipT (xs := ns.map V.int) (ys := ms.map V.int) rfl) (by rw [List.length_map]; omega) hD (fun i y _ => ∃ m, (List.zipWith (fun x y => (x + y) % b) ns ms)[i]? = some m ∧ y = .int m) (fun _ _ _ _ h _ => h) (fun _ _ _ _ _ h _ => h) (fun H' k => ⟨SqT.of (k _ _ ha), SqT.of (k _ _ ha2)⟩) (fun i H1 x H2 y => ?_)
        (fun i x H1 H2 Y No hi sm y hY => ?_) (fun ys H' el sm eD hys => ?_)
      · obtain ⟨t, x1, y1, rfl, nt, rfl, _⟩ := y
        exact Same.upd_new nt
      · obtain ⟨t, x1, y1, rfl, nt, rfl, e1, e2⟩ := y
        obtain ⟨m1, em1, rfl⟩ := getElem?_map_int e1
        obtain ⟨m2, em2, rfl⟩ := getElem?_map_int e2
        refine ⟨t, [.int m1, .int m2], rfl, .inl (.inl upd_same), rfl, _, _, rfl, _, _, rfl, rfl, rfl, ?_⟩
        walk_at "st"
        refine hY _ _ (Same.refl _) ⟨_, ?_, rfl⟩
        rw [List.getElem?_zipWith, em1, em2]
      · obtain rfl := list_ext_int (ms := List.zipWith (fun x y => (x + y) % b) ns ms) (by rw [el, List.length_zipWith, List.length_map, List.length_map]) hys
        walk_at "st"
        intro p hp
        exact q p _ (by walk_at "sm") (sm.free hp) upd_same
    · walk_at "st"
      intro D hD
      refine lc_map (walk_zipM (xs := ns.map V.int) (ys := ms.map V.int) rfl) (by rw [List.length_map]; omega) hD (fun i y _ => ∃ m, (List.zipWith (fun x y => (x + y) % b) ns ms)[i]? = some m ∧ y = .int m) (fun _ _ _ _ h _ => h) (fun _ _ _ _ _ h _ => h) (fun H' k => ⟨SqL.of (k _ _ ha), SqT.of (k _ _ ha2)⟩) (fun i H1 x H2 y => ?_)
        (fun i x H1 H2 Y No hi sm y hY => ?_) (fun ys H' el sm eD hys => ?_)
      · obtain ⟨t, x1, y1, rfl, nt, rfl, _⟩ := y
        exact Same.upd_new nt
      · obtain ⟨t, x1, y1, rfl, nt, rfl, e1, e2⟩ := y
        obtain ⟨m1, em1, rfl⟩ := getElem?_map_int e1
        obtain ⟨m2, em2, rfl⟩ := getElem?_map_int e2
        refine ⟨t, [.int m1, .int m2], rfl, .inl (.inl upd_same), rfl, _, _, rfl, _, _, rfl, rfl, rfl, ?_⟩
        walk_at "st"
        refine hY _ _ (Same.refl _) ⟨_, ?_, rfl⟩
        rw [List.getElem?_zipWith, em1, em2]
      · obtain rfl := list_ext_int (ms := List.zipWith (fun x y => (x + y) % b) ns ms) (by rw [el, List.length_zipWith, List.length_map, List.length_map]) hys
        walk_at "st"
        intro p hp
        exact q p _ (by walk_at "sm") (sm.free hp) upd_same
end
def rowO (ns : List Int) : O := .tup (ns.map .int)
def sp_law_rows (_ : PySem.W.Frag) : Sp := fun vs H Q _ => ∃ (s c : Addr) (w b m : Int), vs = [.ref s, .int w, .int b, .int m] ∧ St s c H ∧ (0 ≤ w ∧ w ≤ 400) ∧ (2 ≤ b ∧ b ≤ 997) ∧ (0 ≤ m ∧ m ≤ 400) ∧
  ∀ (p : Addr) (us : List V) (rows : List (List Int)) (H' : Hp), Kp [s, c] H H' → St s c H' → H p = none → H' p = some (.tup us) → RepAll [s, c] H' us (rows.map rowO) → ((rows.length : Int) = m ∧ ∀ r ∈ rows, (r.length : Int) = w ∧ ∀ n ∈ r, 0 ≤ n ∧ n < b) → Q (.ref p) H'
theorem Rep.rowInv {S : List Addr} {H : Hp} {v : V} {ns : List Int} (r : Rep S H v (rowO ns)) : ∃ a, v = .ref a ∧ H a = some (.tup (ns.map .int)) ∧ a ∉ S := by
  obtain ⟨a, xs, rfl, h, n, t⟩ := Rep.tupInv r
  rw [RepAll.ints_inv t] at h
  exact ⟨a, rfl, h, n⟩
theorem Rep.row {S : List Addr} {H : Hp} {a : Addr} {ns : List Int} (h : H a = some (.tup (ns.map .int))) (n : a ∉ S) : Rep S H (.ref a) (rowO ns) := .tup h n (RepAll.ints ns)
theorem RepAll.rowGet {S : List Addr} {H : Hp} {us : List V} {rows : List (List Int)} {v : V} (r : RepAll S H us (rows.map rowO)) (hv : v ∈ us) : ∃ ns, ns ∈ rows ∧ ∃ a, v = .ref a ∧ H a = some (.tup (ns.map .int)) ∧ a ∉ S := by
  obtain ⟨i, e⟩ := List.getElem?_of_mem hv
  obtain ⟨o, eo, ro⟩ := r.get e
  rw [List.getElem?_map] at eo
  cases h : rows[i]? with
  | none => rw [h] at eo; cases eo
  | some ns =>
    rw [h] at eo; cases eo
    exact ⟨ns, List.mem_of_getElem? h, ro.rowInv⟩
theorem nin3 {l a : Addr} {S : List Addr} (h1 : a ≠ l) (h2 : a ∉ S) : a ∉ l :: S := fun z => (List.mem_cons.mp z).elim h1 h2
theorem row_times {r : List Int} {n b w : Int} (hb : 2 ≤ b) (h : (r.length : Int) = w ∧ ∀ n ∈ r, 0 ≤ n ∧ n < b) : ((r.map fun x => x * n % b).length : Int) = w ∧ ∀ n ∈ (r.map fun x => x * n % b), 0 ≤ n ∧ n < b := by
  refine ⟨by rw [List.length_map]; exact h.1, fun m hm => ?_⟩
  obtain ⟨x, _, e⟩ := List.mem_map.mp hm
  rw [← e]
  exact ⟨Int.emod_nonneg _ (by omega), Int.emod_lt_of_pos _ (by omega)⟩
theorem row_together {r q : List Int} {b w : Int} (hb : 2 ≤ b) (h : (r.length : Int) = w) (h2 : (q.length : Int) = w) : ((List.zipWith (fun x y => (x + y) % b) r q).length : Int) = w ∧ ∀ n ∈ (List.zipWith (fun x y => (x + y) % b) r q), 0 ≤ n ∧ n < b := by
  refine ⟨by rw [List.length_zipWith]; omega, fun m hm => ?_⟩
  obtain ⟨i, e⟩ := List.getElem?_of_mem hm
  rw [List.getElem?_zipWith] at e
  split at e
  · cases e
    exact ⟨Int.emod_nonneg _ (by omega), Int.emod_lt_of_pos _ (by omega)⟩
  · cases e
section
variable {P : Program} {w : World} {K : PySem.W.Frag} {mg : Str → Option Value} {base : Heap}
theorem ok_law_rows (T : Tx K mg) {f_law_row : Addr} {fd_law_row : FuncData} (C_law_row : Cal P w K mg base "_law_row" 2 ["state", "wideness", "base"] (sp_law_row K) s_law_row f_law_row fd_law_row) {f_law_draw : Addr} {fd_law_draw : FuncData} (C_law_draw : Cal P w K mg base "_law_draw" 1 ["state", "many"] (sp_law_draw K) s_law_draw f_law_draw fd_law_draw) {f_law_times : Addr} {fd_law_times : FuncData} (C_law_times : Cal P w K mg base "_law_times" 1 ["line", "n", "base"] (sp_law_times K) s_law_times f_law_times fd_law_times) {f_law_together : Addr} {fd_law_together : FuncData} (C_law_together : Cal P w K mg base "_law_together" 1 ["line", "two", "base"] (sp_law_together K) s_law_together f_law_together fd_law_together) {f : Addr} {fd : FuncData} (F : Here K mg "_law_rows" s_law_rows ["state", "wideness", "base", "many"] f fd) : Cal P w K mg base "_law_rows" 3 ["state", "wideness", "base", "many"] (sp_law_rows K) s_law_rows f fd := by
  refine F.cal sc_law_rows (fun vs H Q E h => ?_) (fun cdv A outer s H vs Q E hr h => ?_)
  · obtain ⟨s, c, w, b, m, rfl, _⟩ := h
    rfl
  · obtain ⟨s, c, w, b, m, rfl, hst, hw, hb, hm, q⟩ := h
    refine ⟨_, (pss_cons (ps_set (i := 4) sc_law_rows.nd rfl (by first | exact .inl rfl | exact .inr rfl) (pe_lst pa_nil))
      (pss_cons (ps_for PassesOwn.never rfl (pi_range1 (by rfl) T.m_range (pa_cons (pv 3) pa_nil)) (pg_name (i := 5) sc_law_rows.nd rfl (by first | exact .inl rfl | exact .inr rfl)) (pss_cons (ps_set (i := 6) sc_law_rows.nd rfl (by first | exact .inl rfl | exact .inr rfl) (pe_call C_law_row.ok (hr.mono (by decide)) (by rfl) C_law_row.at_ C_law_row.kp C_law_row.b .nil pass0 (pa_cons (pv 0) (pa_cons (pv 1) (pa_cons (pv 2) pa_nil)))))
      (pss_cons (ps_set (i := 7) sc_law_rows.nd rfl (by first | exact .inl rfl | exact .inr rfl) (pe_call C_law_draw.ok (hr.mono (by decide)) (by rfl) C_law_draw.at_ C_law_draw.kp C_law_draw.b .nil pass0 (pa_cons (pv 0) (pa_cons pe_int pa_nil))))
      (pss_cons (ps_if (PW.pt (pw_and (pt_cmpR (op_neNilK (K := K) (hu_of64 hr)) (pv 4) (pe_lst pa_nil) (nomark _)) (pw_and1 (pt_cmpR op_lt (pv 7) pe_int (nomark _))))) (pss_cons (ps_set (i := 6) sc_law_rows.nd rfl (by first | exact .inl rfl | exact .inr rfl) (pe_call C_law_times.ok (hr.mono (by decide)) (by rfl) C_law_times.at_ C_law_times.kp C_law_times.b .nil pass0 (pa_cons (pe_ix (ix_listK (K := K)) (pv 4) (pe_call C_law_draw.ok (hr.mono (by decide)) (by rfl) C_law_draw.at_ C_law_draw.kp C_law_draw.b .nil pass0 (pa_cons (pv 0) (pa_cons (pe_callB (cr_lenK (K := K)) (by rfl) T.m_len (by decide +kernel) (pa_cons (pv 4) pa_nil)) pa_nil))) (fun _ _ => rfl)) (pa_cons (pe_call C_law_draw.ok (hr.mono (by decide)) (by rfl) C_law_draw.at_ C_law_draw.kp C_law_draw.b .nil pass0 (pa_cons (pv 0) (pa_cons (pv 2) pa_nil))) (pa_cons (pv 2) pa_nil)))))
      (pss_one (ps_set (i := 6) sc_law_rows.nd rfl (by first | exact .inl rfl | exact .inr rfl) (pe_call C_law_together.ok (hr.mono (by decide)) (by rfl) C_law_together.at_ C_law_together.kp C_law_together.b .nil pass0 (pa_cons (pv 6) (pa_cons (pe_ix (ix_listK (K := K)) (pv 4) (pe_call C_law_draw.ok (hr.mono (by decide)) (by rfl) C_law_draw.at_ C_law_draw.kp C_law_draw.b .nil pass0 (pa_cons (pv 0) (pa_cons (pe_callB (cr_lenK (K := K)) (by rfl) T.m_len (by decide +kernel) (pa_cons (pv 4) pa_nil)) pa_nil))) (fun _ _ => rfl)) (pa_cons (pv 2) pa_nil))))))) pss_nil)
      (pss_cons (ps_if (PW.pt (pw_and (pt_cmpR op_eq (pv 7) pe_int (nomark _)) (pw_and1 (pt_cmpR (op_neNilK (K := K) (hu_of64 hr)) (pv 4) (pe_lst pa_nil) (nomark _))))) (pss_one (ps_set (i := 6) sc_law_rows.nd rfl (by first | exact .inl rfl | exact .inr rfl) (pe_ix (ix_listK (K := K)) (pv 4) (pe_call C_law_draw.ok (hr.mono (by decide)) (by rfl) C_law_draw.at_ C_law_draw.kp C_law_draw.b .nil pass0 (pa_cons (pv 0) (pa_cons (pe_callB (cr_lenK (K := K)) (by rfl) T.m_len (by decide +kernel) (pa_cons (pv 4) pa_nil)) pa_nil))) (fun _ _ => rfl)))) pss_nil)
      (pss_one (ps_expr (castBM (K := K) (pe_bm PySem.F.plainAttrs_list PySem.F.slot_list_append PySem.F.type_list_append mt_append (pv 4) (pa_cons (pv 6) pa_nil))))))))))
      (pss_one (ps_ret (pe_callTy (cr_tupOfK (K := K)) (by rfl) T.m_tuple (by decide +kernel) (pa_cons (pv 4) pa_nil)))))), ?_⟩
    walk_at "st"
    intro l hl
    have ol := hst.out hl
    walk_at "st"
    refine lp_by (walk_range (lo := 0) (n := m.toNat)) (fun i σ' H' => ∃ x5 x6 x7, σ' = [some (.ref s), some (.int w), some (.int b), some (.int m), some (.ref l), x5, x6, x7] ∧ Kp [s, c] H H' ∧ St s c H' ∧
      ∃ (us : List V) (rows : List (List Int)), H' l = some (.lst us) ∧ RepAll [l, s, c] H' us (rows.map rowO) ∧ rows.length = i ∧ ∀ r ∈ rows, (r.length : Int) = w ∧ ∀ n ∈ r, 0 ≤ n ∧ n < b) ⟨none, none, none, rfl, by walk_at "kp", by walk_at "stt", [], [], upd_same, .nil, rfl, by simp⟩ (fun _ _ _ _ _ => trivial) (fun i x σ' H2 H3 hi p y => ?_) (fun σ' H2 p => ?_)
    · obtain ⟨x5, x6, x7, rfl, k2, st2, us, rows, el, ru, en, hn⟩ := p
      obtain ⟨rfl, rfl⟩ := y
      have eu : us.length = rows.length := by rw [ru.length, List.length_map]
      walk_at "st"
      refine ⟨s, c, w, b, rfl, st2, by omega, by omega, fun pl ns H4 k4 st4 npl epl hns => ?_⟩
      have opl : pl ∉ [l, s, c] := nin3 (ne_of_none el npl).symm (st2.out npl)
      walk_at "st"
      refine ⟨s, c, 5, rfl, st4, by omega, fun way H5 k5 st5 hway => ?_⟩
      walk_at "st"
      have e5 : H5 l = some (.lst us) := by walk_at "hl"
      have r5 : RepAll [l, s, c] H5 us (rows.map rowO) := ru.to (by walk_at "lf")
      have opl2 : pl ∉ [s, c] := fun z => opl (List.mem_cons_of_mem _ z)
      have epl5 : H5 pl = some (.tup (ns.map .int)) := by walk_at "hl"
      have k05 : Kp [s, c] H H5 := by walk_at "kp"
      clear k2 k4 k5 st2 st4 ru el epl
      refine r_join (fun σ' H' => ∃ (pl : Addr) (ns : List Int), σ' = [some (.ref s), some (.int w), some (.int b), some (.int m), some (.ref l), some (V.int (0 + (i : Int))), some (.ref pl), some (.int way)] ∧ Kp [s, c] H H' ∧ St s c H' ∧ H' l = some (.lst us) ∧ RepAll [l, s, c] H' us (rows.map rowO) ∧ H' pl = some (.tup (ns.map .int)) ∧ pl ∉ [l, s, c] ∧ (ns.length : Int) = w ∧ ∀ n ∈ ns, 0 ≤ n ∧ n < b) (fun σ' H' g => ?_) (fun N hN => ?_)
      · obtain ⟨pl, ns, rfl, k2, st2, el, ru, epl, opl, hns⟩ := g
        have hus : us.length ≤ 400 := by omega
        have fin : ∀ (p2 : Addr) (ns2 : List Int) (H7 : Hp), H7 p2 = some (.tup (ns2.map .int)) → p2 ∉ [l, s, c] → ((ns2.length : Int) = w ∧ ∀ n ∈ ns2, 0 ≤ n ∧ n < b) → Kp [s, c] H H7 → St s c H7 → H7 l = some (.lst us) → RepAll [l, s, c] H7 us (rows.map rowO) →
            ∃ x5 x6 x7, [some (.ref s), some (.int w), some (.int b), some (.int m), some (.ref l), some (V.int (0 + (i : Int))), some (.ref p2), some (.int way)] = [some (.ref s), some (.int w), some (.int b), some (.int m), some (.ref l), x5, x6, x7] ∧ Kp [s, c] H (upd H7 l (.lst (us ++ [.ref p2]))) ∧ St s c (upd H7 l (.lst (us ++ [.ref p2]))) ∧
            ∃ (us' : List V) (rows' : List (List Int)), (upd H7 l (.lst (us ++ [.ref p2]))) l = some (.lst us') ∧ RepAll [l, s, c] (upd H7 l (.lst (us ++ [.ref p2]))) us' (rows'.map rowO) ∧ rows'.length = i + 1 ∧ ∀ r ∈ rows', (r.length : Int) = w ∧ ∀ n ∈ r, 0 ≤ n ∧ n < b := fun p2 ns2 H7 e2 o2 h2 k7 st7 el7 r7 => by
          have hl0 : H l = none := hl
          refine ⟨_, _, _, rfl, by walk_at "kp", by walk_at "stt", us ++ [.ref p2], rows ++ [ns2], upd_same, ?_, by simp [en], fun r hr => ?_⟩
          · rw [List.map_append]
            exact ((r7.append (.cons (Rep.row e2 o2) .nil))).to (by walk_at "lf")
          · rcases List.mem_append.mp hr with h | h
            · exact hn r h
            · rw [List.mem_singleton.mp h]; exact h2
        walk_at "st"
        refine r_join (fun σ' H' => ∃ (pl : Addr) (ns : List Int), σ' = [some (.ref s), some (.int w), some (.int b), some (.int m), some (.ref l), some (V.int (0 + (i : Int))), some (.ref pl), some (.int way)] ∧ Kp [s, c] H H' ∧ St s c H' ∧ H' l = some (.lst us) ∧ RepAll [l, s, c] H' us (rows.map rowO) ∧ H' pl = some (.tup (ns.map .int)) ∧ pl ∉ [l, s, c] ∧ (ns.length : Int) = w ∧ ∀ n ∈ ns, 0 ≤ n ∧ n < b) (fun σ' H' g => ?_) (fun N hN => ?_)
        · obtain ⟨p3, ns3, rfl, k3, st3, el3, ru3, epl3, opl3, hns3⟩ := g
          walk_at "st"
          exact fin p3 ns3 _ epl3 opl3 hns3 k3 st3 el3 ru3
        · walk_at "if"
          refine r_ite (fun h1 => ?_) (fun h1 => ?_)
          · walk_at "st"
            intro p hp
            walk_at "st"
            refine r_iteB (fun h2 => ?_) (fun h2 => ?_)
            · walk_at "st"
              have hlen : 0 < us.length := by
                cases us with
                | nil => cases h2
                | cons _ _ => simp
              refine ⟨s, c, _, rfl, by walk_at "stt", by omega, fun d H8 k8 st8 hd => ?_⟩
              obtain ⟨v, ev, hv⟩ := atI_in (xs := us) hd.1 hd.2
              have el8 : H8 l = some (.lst us) := by walk_at "hl"
              have r8 : RepAll [l, s, c] H8 us (rows.map rowO) := ru.to (by walk_at "lf")
              obtain ⟨ns8, m8, a8, rfl, e8, o8⟩ := r8.rowGet hv
              walk_at "st"
              exact hN _ _ ⟨a8, ns8, rfl, by walk_at "kp", st8, el8, r8, e8, o8, hn ns8 m8⟩
            · walk_at "st"
              exact hN _ _ ⟨pl, ns, rfl, by walk_at "kp", by walk_at "stt", by walk_at "hl", ru.to (by walk_at "lf"), by walk_at "hl", opl, hns⟩
          · walk_at "st"
            exact hN _ _ ⟨pl, ns, rfl, k2, st2, el, ru, epl, opl, hns⟩
      · walk_at "if"
        intro p hp
        walk_at "st"
        refine r_iteB (fun h2 => ?_) (fun h2 => ?_)
        · have hlen : 0 < us.length := by
            cases us with
            | nil => cases h2
            | cons _ _ => simp
          have hus : us.length ≤ 400 := by omega
          walk_at "st"
          refine r_ite (fun h3 => ?_) (fun h3 => ?_)
          · walk_at "st"
            refine ⟨s, c, _, rfl, by walk_at "stt", by omega, fun d H6 k6 st6 hd => ?_⟩
            obtain ⟨v, ev, hv⟩ := atI_in (xs := us) hd.1 hd.2
            have el6 : H6 l = some (.lst us) := by walk_at "hl"
            have r6 : RepAll [l, s, c] H6 us (rows.map rowO) := r5.to (by walk_at "lf")
            obtain ⟨ns6, m6, a6, rfl, e6, o6⟩ := r6.rowGet hv
            have o62 : a6 ∉ [s, c] := fun z => o6 (List.mem_cons_of_mem _ z)
            walk_at "st"
            refine ⟨s, c, b, rfl, st6, by omega, fun d2 H7 k7 st7 hd2 => ?_⟩
            have h6 := hn ns6 m6
            walk_at "st"
            refine ⟨a6, ns6, d2, b, rfl, .inl (by walk_at "hl"), by omega, hb, h6.2, fun p7 H8 s8 n8 e8 => ?_⟩
            have t7 := row_times (n := d2) hb.1 h6
            walk_at "st"
            have el8 : H8 l = some (.lst us) := by walk_at "hl"
            have st8 := st7.same s8
            have o78 : p7 ∉ [s, c] := st7.out n8
            refine ⟨s, c, _, rfl, by walk_at "stt", by omega, fun d3 H9 k9 st9 hd3 => ?_⟩
            obtain ⟨v3, ev3, hv3⟩ := atI_in (xs := us) hd3.1 hd3.2
            have el9 : H9 l = some (.lst us) := by walk_at "hl"
            have r9 : RepAll [l, s, c] H9 us (rows.map rowO) := r6.to (by walk_at "lf")
            obtain ⟨ns9, m9, a9, rfl, e9, o9⟩ := r9.rowGet hv3
            walk_at "st"
            refine ⟨p7, a9, _, ns9, b, rfl, .inl (by walk_at "hl"), e9, by rw [List.length_map]; omega, hb, fun p10 H10 s10 n10 e10 => ?_⟩
            walk_at "st"
            have st10 := st9.same s10
            exact hN _ _ ⟨p10, _, rfl, by walk_at "kp", st10, by walk_at "hl", r9.to (by walk_at "lf"), e10, nin3 (ne_of_none el9 n10).symm (st9.out n10), row_together hb.1 t7.1 (hn ns9 m9).1⟩
          · walk_at "st"
            exact hN _ _ ⟨pl, ns, rfl, by walk_at "kp", by walk_at "stt", by walk_at "hl", r5.to (by walk_at "lf"), by walk_at "hl", opl, hns⟩
        · walk_at "st"
          exact hN _ _ ⟨pl, ns, rfl, by walk_at "kp", by walk_at "stt", by walk_at "hl", r5.to (by walk_at "lf"), by walk_at "hl", opl, hns⟩
    · obtain ⟨x5, x6, x7, rfl, k2, st2, us, rows, el, ru, en, hn⟩ := p
      walk_at "st"
      intro p hp
      have r2 : RepAll [s, c] H2 us (rows.map rowO) := ru.to (Lft.sub (fun a ha => List.mem_cons_of_mem _ ha))
      exact q p us rows _ (by walk_at "kp") (by walk_at "stt") (k2.free hp (st2.out hp)) upd_same (r2.to (by walk_at "lf")) ⟨by omega, hn⟩
end
section
variable {K : PySem.W.Frag} {D : Ends} {σ : L2.St} {H : Hp} {Q : VK}
theorem r_par {i j : Nat} {ta : TA} (h : ta σ H fun vs H1 => ∃ v w, vs = [v, w] ∧ D.nx ((σ.set i (some v)).set j (some w)) H1) : tPar i j ta D σ H := h
theorem r_parx {v w : V} {R : V → V → Prop} (h : R v w) : ∃ v' w', [v, w] = [v', w'] ∧ R v' w' := ⟨v, w, rfl, h⟩
theorem r_gtup {n : Nat} {t : TGs} {a : Addr} {xs : List V} {N : L2.St → Hp → Prop} (h : SqT K H a xs) (e : xs.length = n) (q : t xs σ H N) : gTup K n t (.ref a) σ H N := ⟨a, xs, rfl, h, e, q⟩
theorem r_gcons {t : TG} {u : TGs} {v : V} {r : List V} {N : L2.St → Hp → Prop} (q : t v σ H fun σ' H' => u r σ' H' N) : gCons t u (v :: r) σ H N := ⟨v, r, rfl, q⟩
theorem r_gnil {N : L2.St → Hp → Prop} (q : N σ H) : gNil [] σ H N := ⟨rfl, q⟩
end
local macro_rules | `(tactic| walk_at "st1") => `(tactic| first
  | with_reducible refine r_par ?_
  | with_reducible refine r_parx ?_
  | ((with_reducible refine' r_gtup ?e1 ?e2 ?_); (case e1 => walk_at "sq"); (case e2 => rfl))
  | with_reducible refine r_gcons ?_
  | with_reducible refine r_gnil ?_)
def sp_inverse (_ : PySem.W.Frag) : Sp := fun vs H Q _ => ∃ (n p : Int), vs = [.int n, .int p] ∧ (1 ≤ n ∧ n < p ∧ p ≤ 997) ∧ Nat.gcd p.toNat n.toNat = 1 ∧ ∀ b H', Same H H' → (1 ≤ b ∧ b < p) → b * n % p = 1 → Q (.int b) H'
section
variable {P : Program} {w : World} {K : PySem.W.Frag} {mg : Str → Option Value} {base : Heap}
theorem ok_inverse (T : Tx K mg)  {f : Addr} {fd : FuncData} (F : Here K mg "inverse" s_inverse ["n", "p"] f fd) : Cal P w K mg base "inverse" 1 ["n", "p"] (sp_inverse K) s_inverse f fd := by
  refine F.cal sc_inverse (fun vs H Q E h => ?_) (fun cdv A outer s H vs Q E hr h => ?_)
  · obtain ⟨n, p, rfl, _⟩ := h
    rfl
  · obtain ⟨n, p, rfl, hn, hg, q⟩ := h
    refine ⟨_, (pss_cons (ps_par (i := 2) (j := 3) rfl sc_inverse.nd rfl rfl (by decide) rfl rfl (pa_cons (pv 1) (pa_cons (pv 0) pa_nil)) (by rfl))
      (pss_cons (ps_asg (pe_tup (pa_cons pe_int (pa_cons pe_int pa_nil))) (castPG (K := K) (n := 2) (pg_tup rfl (pgs_cons (pg_name (i := 4) sc_inverse.nd rfl (by first | exact .inl rfl | exact .inr rfl)) (pgs_cons (pg_name (i := 5) sc_inverse.nd rfl (by first | exact .inl rfl | exact .inr rfl)) pgs_nil)))))
      (pss_cons (ps_while PassesOwn.never (pt_cmpR op_ne (pv 3) pe_int (nomark _)) (pss_cons (ps_set (i := 6) sc_inverse.nd rfl (by first | exact .inl rfl | exact .inr rfl) (pe_op op_fdivW (pv 2) (pv 3)))
      (pss_cons (ps_par (i := 2) (j := 3) rfl sc_inverse.nd rfl rfl (by decide) rfl rfl (pa_cons (pv 3) (pa_cons (pe_op op_sub (pv 2) (pe_op op_mul (pv 6) (pv 3))) pa_nil)) (by rfl))
      (pss_one (ps_par (i := 4) (j := 5) rfl sc_inverse.nd rfl rfl (by decide) rfl rfl (pa_cons (pv 5) (pa_cons (pe_op op_sub (pv 4) (pe_op op_mul (pv 6) (pv 5))) pa_nil)) (by rfl))))))
      (pss_one (ps_ret (pe_op op_mod (pv 4) (pv 1))))))), ?_⟩
    walk_at "st"
    intro tt htt
    walk_at "st"
    refine ⟨fun m σ' H' => ∃ (r l : Nat) (many lm : Int) (x6 : Option V), σ' = [some (.int n), some (.int p), some (.int r), some (.int l), some (.int many), some (.int lm), x6] ∧ H' = upd H tt (.tup [.int 0, .int 1]) ∧ l = m ∧ p ∣ (r : Int) - many * n ∧ p ∣ (l : Int) - lm * n ∧ Nat.gcd r l = 1 ∧ (r : Int) ≤ p ∧ (l : Int) ≤ p, ⟨n.toNat, p.toNat, n.toNat, 0, 1, none, ?_, rfl, rfl, ?_, ?_, hg, by omega, by omega⟩, fun m σ' H' w => ?_⟩
    · rw [show ((p.toNat : Nat) : Int) = p by omega, show ((n.toNat : Nat) : Int) = n by omega]
      rfl
    · rw [show ((p.toNat : Nat) : Int) = p by omega]
      simp
    · rw [show ((n.toNat : Nat) : Int) = n by omega]
      simp
    · obtain ⟨r, l, many, lm, x6, rfl, rfl, rfl, d1, d2, g, b1, b2⟩ := w
      walk_at "st"
      refine r_iteB (fun h => ?_) (fun h => ?_)
      · have hl : l ≠ 0 := fun z => by rw [z] at h; simp at h
        refine ⟨fun σ' H' => ∃ m', m' < l ∧ ∃ (r l : Nat) (many lm : Int) (x6 : Option V), σ' = [some (.int n), some (.int p), some (.int r), some (.int l), some (.int many), some (.int lm), x6] ∧ H' = _ ∧ l = m' ∧ p ∣ (r : Int) - many * n ∧ p ∣ (l : Int) - lm * n ∧ Nat.gcd r l = 1 ∧ (r : Int) ≤ p ∧ (l : Int) ≤ p, fun _ _ h => h, ?_⟩
        have hw : CDivW (r : Int) (l : Int) := wide_div (b := 30) (by omega) (by omega) (by decide) (by decide)
        have e1 : (r : Int) / l = ((r / l : Nat) : Int) := rfl
        have e2 : r / l ≤ r := Nat.div_le_self _ _
        have e0 : (0 : Int) ≤ (r : Int) / l := Int.ediv_nonneg (by omega) (by omega)
        have cm1 : CMul ((r : Int) / l) (l : Int) := .inr ⟨by omega, by omega⟩
        have cm2 : CMul ((r : Int) / l) lm := .inl ⟨by omega, by omega⟩
        walk_at "st"
        have e3 : (r : Int) - (r : Int) / l * l = ((r % l : Nat) : Int) := by
          rw [show ((r % l : Nat) : Int) = (r : Int) % l from rfl, Int.emod_def, Int.mul_comm]
        rw [e3]
        refine ⟨r % l, Nat.mod_lt _ (by omega), l, r % l, lm, many - (r : Int) / l * lm, _, rfl, rfl, rfl, d2, ?_, ?_, b2, ?_⟩
        · rw [← e3]
          obtain ⟨c1, h1⟩ := d1
          obtain ⟨c2, h2⟩ := d2
          refine ⟨c1 - (r : Int) / l * c2, ?_⟩
          rw [Int.mul_sub, ← h1, Int.mul_left_comm, ← h2, Int.sub_mul, Int.mul_sub, Int.mul_assoc]
          omega
        · rw [← g, Nat.gcd_comm r l, Nat.gcd_rec l r, Nat.gcd_comm]
        · have := Nat.mod_lt r (show 0 < l by omega)
          omega
      · have hl : l = 0 := by simpa using h
        subst hl
        walk_at "st"
        have hr1 : r = 1 := by simpa using g
        subst hr1
        obtain ⟨c1, h1⟩ := d1
        have key : many % p * n % p = 1 := by
          rw [Int.mul_emod, Int.emod_emod, ← Int.mul_emod]
          have : many * n = 1 - p * c1 := by omega
          rw [this, Int.sub_emod, Int.mul_emod_right]
          simp
          exact Int.emod_eq_of_lt (by omega) (by omega)
        refine q _ _ (Same.upd_new htt) ⟨?_, Int.emod_lt_of_pos _ (by omega)⟩ key
        have h0 := Int.emod_nonneg many (show p ≠ 0 by omega)
        by_cases z : many % p = 0
        · rw [z] at key
          simp at key
        · omega
end
/-! ### rows by a prime: what follows from them, and the one reduced list -/
abbrev Vec := Nat → Int
/-- u and v are the same by p -/
def Cg (p : Int) (u v : Vec) : Prop := ∀ i, p ∣ u i - v i
theorem Cg.refl {p : Int} (u : Vec) : Cg p u u := fun i => by rw [Int.sub_self]; exact Int.dvd_zero p
theorem Cg.symm {p : Int} {u v : Vec} (h : Cg p u v) : Cg p v u := fun i => by
  obtain ⟨c, e⟩ := h i
  exact ⟨-c, by rw [Int.mul_neg, ← e]; omega⟩
theorem Cg.trans {p : Int} {u v w : Vec} (h : Cg p u v) (k : Cg p v w) : Cg p u w := fun i => by
  obtain ⟨c, e⟩ := h i
  obtain ⟨d, f⟩ := k i
  exact ⟨c + d, by rw [Int.mul_add, ← e, ← f]; omega⟩
/-- what follows from the rows of L -/
inductive Sp0 (p : Int) (L : List Vec) : Vec → Prop
  | zero {v : Vec} : Cg p v (fun _ => 0) → Sp0 p L v
  | add {u v r : Vec} {c : Int} : r ∈ L → Sp0 p L u → Cg p v (fun i => u i + c * r i) → Sp0 p L v
section
variable {p : Int} {L M : List Vec}
theorem Sp0.cg {u v : Vec} (h : Sp0 p L u) (k : Cg p v u) : Sp0 p L v := by
  cases h with
  | zero h => exact .zero (k.trans h)
  | add m h e => exact .add m h (k.trans e)
theorem Sp0.plus {u v : Vec} (h : Sp0 p L u) (k : Sp0 p L v) (c : Int) : Sp0 p L (fun i => u i + c * v i) := by
  induction k with
  | @zero v e =>
    refine h.cg (fun i => ?_)
    obtain ⟨d, f⟩ := e i
    refine ⟨c * d, ?_⟩
    have f : v i - 0 = p * d := f
    show u i + c * v i - u i = _
    rw [show u i + c * v i - u i = c * (v i - 0) by rw [Int.sub_zero]; omega, f, Int.mul_left_comm]
  | @add u' v r d m _ e ih =>
    refine .add (c := c * d) m ih (fun i => ?_)
    obtain ⟨q, f⟩ := e i
    refine ⟨c * q, ?_⟩
    have f : v i - (u' i + d * r i) = p * q := f
    show u i + c * v i - (u i + c * u' i + c * d * r i) = _
    rw [Int.mul_left_comm, ← f, Int.mul_sub, Int.mul_add, Int.mul_assoc]
    omega
theorem Sp0.of {r : Vec} (h : r ∈ L) : Sp0 p L r := .add (c := 1) h (.zero (Cg.refl _)) (fun i => by
  show p ∣ r i - (0 + 1 * r i)
  rw [Int.one_mul, Int.zero_add, Int.sub_self]; exact Int.dvd_zero p)
theorem Sp0.nought : Sp0 p L (fun _ => 0) := .zero (Cg.refl _)
theorem Sp0.mul {v : Vec} (h : Sp0 p L v) (c : Int) : Sp0 p L (fun i => c * v i) := (Sp0.nought.plus h c).cg (fun i => by
  show p ∣ c * v i - (0 + c * v i)
  rw [Int.zero_add, Int.sub_self]; exact Int.dvd_zero p)
/-- what follows from what follows -/
theorem Sp0.trans {v : Vec} (h : ∀ r ∈ L, Sp0 p M r) (k : Sp0 p L v) : Sp0 p M v := by
  induction k with
  | zero e => exact .zero e
  | add m _ e ih => exact (ih.plus (h _ m) _).cg e
end
/-- rows with their places: a 1 there, 0 at each other's place, 0 ahead -/
structure Red0 (R : List (Nat × Vec)) : Prop where
  one : ∀ x ∈ R, x.2 x.1 = 1
  off : ∀ x ∈ R, ∀ y ∈ R, x ≠ y → x.2 y.1 = 0
  low : ∀ x ∈ R, ∀ i, i < x.1 → x.2 i = 0
  nd : R.Nodup
def proj (R : List (Nat × Vec)) (v : Vec) : Vec := fun i => (R.map fun x => v x.1 * x.2 i).sum
section
variable {p : Int} {R S : List (Nat × Vec)}
theorem proj_cons (x : Nat × Vec) (R : List (Nat × Vec)) (v : Vec) (i : Nat) : proj (x :: R) v i = v x.1 * x.2 i + proj R v i := by
  unfold proj; rw [List.map_cons, List.sum_cons]
theorem proj_cg {u v : Vec} (h : Cg p u v) : ∀ R : List (Nat × Vec), Cg p (proj R u) (proj R v)
  | [], i => by show p ∣ 0 - 0; exact Int.dvd_zero p
  | x :: R, i => by
    obtain ⟨c, e⟩ := h x.1
    obtain ⟨d, f⟩ := proj_cg h R i
    refine ⟨c * x.2 i + d, ?_⟩
    rw [proj_cons, proj_cons, Int.mul_add, ← f, ← Int.mul_assoc, ← e, Int.sub_mul]
    omega
theorem proj_add (u r : Vec) (c : Int) : ∀ (R : List (Nat × Vec)) (i : Nat), proj R (fun j => u j + c * r j) i = proj R u i + c * proj R r i
  | [], i => by show (0 : Int) = 0 + c * 0; omega
  | x :: R, i => by
    rw [proj_cons, proj_cons, proj_cons, proj_add u r c R i, Int.add_mul, Int.mul_add, Int.mul_assoc]
    omega
theorem proj_zero : ∀ (R : List (Nat × Vec)) (i : Nat), proj R (fun _ => 0) i = 0
  | [], _ => rfl
  | x :: R, i => by rw [proj_cons, proj_zero R i]; omega
/-- all v have 0 at each place: nothing is left -/
theorem proj_off {v : Vec} : ∀ (R : List (Nat × Vec)), (∀ y ∈ R, v y.1 = 0) → ∀ i, proj R v i = 0
  | [], _, _ => rfl
  | x :: R, h, i => by
    rw [proj_cons, h x List.mem_cons_self, proj_off R (fun y hy => h y (List.mem_cons_of_mem _ hy)) i]
    omega
theorem proj_row {x : Nat × Vec} : ∀ {R : List (Nat × Vec)}, R.Nodup → x ∈ R → x.2 x.1 = 1 → (∀ y ∈ R, x ≠ y → x.2 y.1 = 0) → ∀ i, proj R x.2 i = x.2 i
  | y :: R, nd, hx, one, off, i => by
    rw [proj_cons]
    have nd2 := List.nodup_cons.mp nd
    by_cases e : x = y
    · subst e
      rw [one, proj_off R (fun z hz => off z (List.mem_cons_of_mem _ hz) (fun q => nd2.1 (q ▸ hz))) i]
      omega
    · rw [off y List.mem_cons_self e]
      rcases List.mem_cons.mp hx with h | h
      · exact absurd h e
      · rw [proj_row nd2.2 h one (fun z hz => off z (List.mem_cons_of_mem _ hz)) i]
        omega
/-- each row that follows is told by its numbers at the places -/
theorem Red0.told (h : Red0 R) {v : Vec} (k : Sp0 p (R.map (·.2)) v) : Cg p v (proj R v) := by
  induction k with
  | @zero v e =>
    have := (proj_cg e R).symm
    refine e.trans (Cg.trans (fun i => ?_) this)
    rw [proj_zero]; exact Int.dvd_zero p
  | @add u v r c m _ e ih =>
    obtain ⟨x, hx, rfl⟩ := List.mem_map.mp m
    refine e.trans (Cg.trans (fun i => ?_) (proj_cg e R).symm)
    rw [proj_add, proj_row h.nd hx (h.one x hx) (fun y hy n => h.off x hx y hy n)]
    obtain ⟨d, f⟩ := ih i
    exact ⟨d, by rw [← f]; omega⟩
theorem sum_dvd {p : Int} : ∀ {l : List Int}, (∀ x ∈ l, p ∣ x) → p ∣ l.sum
  | [], _ => Int.dvd_zero p
  | x :: l, h => by
    rw [List.sum_cons]
    exact Int.dvd_add (h x List.mem_cons_self) (sum_dvd fun y hy => h y (List.mem_cons_of_mem _ hy))
/-- the first place that isn't 0 is one of the places -/
theorem Red0.lead (h : Red0 R) {v : Vec} (k : Sp0 p (R.map (·.2)) v) {a : Nat} (z : ∀ i, i < a → p ∣ v i) (n : ¬ p ∣ v a) : a ∈ R.map (·.1) := by
  by_cases q : a ∈ R.map (·.1)
  · exact q
  · exfalso
    apply n
    have t := h.told k a
    have : p ∣ proj R v a := by
      refine sum_dvd fun y hy => ?_
      obtain ⟨x, hx, rfl⟩ := List.mem_map.mp hy
      by_cases lt : x.1 < a
      · exact Int.dvd_mul_of_dvd_left (z _ lt)
      · have ne : x.1 ≠ a := fun e => q (List.mem_map.mpr ⟨x, hx, e⟩)
        rw [h.low x hx a (by omega), Int.mul_zero]
        exact Int.dvd_zero p
    have := Int.dvd_add t this
    rwa [Int.sub_add_cancel] at this
/-- rising lists with the same members -/
theorem rise_ext : ∀ {l m : List Nat}, l.Pairwise (· < ·) → m.Pairwise (· < ·) → (∀ a, a ∈ l ↔ a ∈ m) → l = m
  | [], [], _, _, _ => rfl
  | [], b :: m, _, _, h => by cases (h b).mpr List.mem_cons_self
  | a :: l, [], _, _, h => by cases (h a).mp List.mem_cons_self
  | a :: l, b :: m, hl, hm, h => by
    have h1 := List.pairwise_cons.mp hl
    have h2 := List.pairwise_cons.mp hm
    have e : a = b := by
      have x1 := (h a).mp List.mem_cons_self
      have x2 := (h b).mpr List.mem_cons_self
      rcases List.mem_cons.mp x1 with z | z
      · exact z
      · rcases List.mem_cons.mp x2 with y | y
        · exact y.symm
        · have := h1.1 b y
          have := h2.1 a z
          omega
    subst e
    congr 1
    refine rise_ext h1.2 h2.2 (fun c => ⟨fun hc => ?_, fun hc => ?_⟩)
    · rcases List.mem_cons.mp ((h c).mp (List.mem_cons_of_mem _ hc)) with z | z
      · have := h1.1 c hc; omega
      · exact z
    · rcases List.mem_cons.mp ((h c).mpr (List.mem_cons_of_mem _ hc)) with z | z
      · have := h2.1 c hc; omega
      · exact z
/-- from which just the same follows, they have the same places, and the same rows by p -/
theorem Red0.same (hR : Red0 R) (hS : Red0 S) (p2 : 2 ≤ p) (h1 : ∀ x ∈ R, Sp0 p (S.map (·.2)) x.2) (h2 : ∀ x ∈ S, Sp0 p (R.map (·.2)) x.2) :
    (∀ a, a ∈ R.map (·.1) ↔ a ∈ S.map (·.1)) ∧ ∀ x ∈ R, ∀ y ∈ S, x.1 = y.1 → Cg p x.2 y.2 := by
  have one : ∀ {T : List (Nat × Vec)}, Red0 T → ∀ x ∈ T, ¬ p ∣ x.2 x.1 := fun hT x hx z => by
    rw [hT.one x hx] at z
    have := Int.le_of_dvd (by omega) z
    omega
  have pl : ∀ {T U : List (Nat × Vec)}, Red0 T → Red0 U → (∀ x ∈ T, Sp0 p (U.map (·.2)) x.2) → ∀ a, a ∈ T.map (·.1) → a ∈ U.map (·.1) := fun hT hU h a ha => by
    obtain ⟨x, hx, rfl⟩ := List.mem_map.mp ha
    exact hU.lead (h x hx) (fun i hi => by rw [hT.low x hx i hi]; exact Int.dvd_zero p) (one hT x hx)
  refine ⟨fun a => ⟨pl hR hS h1 a, pl hS hR h2 a⟩, fun x hx y hy e => ?_⟩
  refine (hS.told (h1 x hx)).trans (fun i => ?_)
  have : proj S x.2 i = proj S y.2 i := by
    unfold proj
    congr 1
    apply List.map_congr_left
    intro z hz
    have : x.2 z.1 = y.2 z.1 := by
      by_cases q : z = y
      · subst q
        rw [← e, hR.one x hx, e, hS.one z hz]
      · have ne : x.1 ≠ z.1 := fun e2 => by
          have h3 := hS.off z hz y hy q
          rw [← e, e2, hS.one z hz] at h3
          cases h3
        obtain ⟨x', hx', e'⟩ := List.mem_map.mp (pl hS hR h2 z.1 (List.mem_map.mpr ⟨z, hz, rfl⟩))
        have nx : x ≠ x' := fun q2 => ne (by rw [q2, e'])
        rw [← e', hR.off x hx x' hx' nx, e', hS.off y hy z hz (fun q2 => q q2.symm)]
    rw [this]
  rw [this, proj_row hS.nd hy (hS.one y hy) (fun z hz n => hS.off y hy z hz n) i, Int.sub_self]
  exact Int.dvd_zero p
end
/-! ### rows as lists -/
def vec (l : List Int) : Vec := fun i => l.getD i 0
structure Row (p : Int) (w : Nat) (l : List Int) : Prop where
  len : l.length = w
  num : ∀ x ∈ l, 0 ≤ x ∧ x < p
section
variable {p : Int} {w : Nat}
theorem vec_out {l : List Int} {i : Nat} (h : l.length ≤ i) : vec l i = 0 := by
  unfold vec; rw [List.getD_eq_getElem?_getD, List.getElem?_eq_none h]; rfl
theorem vec_in {l : List Int} {i : Nat} (h : i < l.length) : vec l i = l[i] := by
  unfold vec; rw [List.getD_eq_getElem?_getD, List.getElem?_eq_getElem h]; rfl
theorem Row.at {l : List Int} (r : Row p w l) (hp : 0 < p) (i : Nat) : 0 ≤ vec l i ∧ vec l i < p := by
  by_cases h : i < l.length
  · rw [vec_in h]; exact r.num _ (List.getElem_mem h)
  · rw [vec_out (by omega)]; omega
theorem cg_eq {x y : Int} (hx : 0 ≤ x ∧ x < p) (hy : 0 ≤ y ∧ y < p) (h : p ∣ x - y) : x = y := by
  obtain ⟨c, e⟩ := h
  have : c = 0 := by
    rcases Int.lt_trichotomy c 0 with z | z | z
    · have : p * c ≤ p * (-1) := Int.mul_le_mul_of_nonneg_left (by omega) (by omega)
      omega
    · exact z
    · have : p * 1 ≤ p * c := Int.mul_le_mul_of_nonneg_left (by omega) (by omega)
      omega
  subst this
  omega
theorem Row.ext {l m : List Int} (r : Row p w l) (s : Row p w m) (hp : 0 < p) (h : Cg p (vec l) (vec m)) : l = m := by
  apply List.ext_getElem (by rw [r.len, s.len])
  intro i h1 h2
  have := cg_eq (r.at hp i) (s.at hp i) (h i)
  rwa [vec_in h1, vec_in h2] at this
/-- row less k times base -/
def lessL (p : Int) (l m : List Int) (k : Int) : List Int := if k = 0 then l else List.zipWith (fun n q => (n - k * q) % p) l m
theorem emod_dvd (x p : Int) : p ∣ x % p - x := ⟨-(x / p), by have := Int.emod_def x p; rw [this, Int.mul_neg]; omega⟩
theorem vec_zip {f : Int → Int → Int} {l m : List Int} (h : l.length = m.length) {i : Nat} (hi : i < l.length) : vec (List.zipWith f l m) i = f (vec l i) (vec m i) := by
  rw [vec_in hi, vec_in (by omega : i < m.length), vec_in (by rw [List.length_zipWith]; omega), List.getElem_zipWith]
theorem vec_map {f : Int → Int} {l : List Int} {i : Nat} (hi : i < l.length) : vec (l.map f) i = f (vec l i) := by
  rw [vec_in hi, vec_in (by rw [List.length_map]; exact hi), List.getElem_map]
theorem less_cg {l m : List Int} {k : Int} (h : l.length = m.length) : Cg p (vec (lessL p l m k)) (fun i => vec l i + (-k) * vec m i) := fun i => by
  unfold lessL
  by_cases hk : k = 0
  · rw [if_pos hk, hk]
    refine ⟨0, ?_⟩
    show vec l i - (vec l i + (-0) * vec m i) = _
    rw [Int.neg_zero, Int.zero_mul, Int.mul_zero]; omega
  · rw [if_neg hk]
    by_cases hi : i < l.length
    · rw [vec_zip h hi]
      have := emod_dvd (vec l i - k * vec m i) p
      show p ∣ (vec l i - k * vec m i) % p - (vec l i + (-k) * vec m i)
      rwa [Int.neg_mul, ← Int.sub_eq_add_neg]
    · rw [vec_out (by rw [List.length_zipWith]; omega)]
      show p ∣ 0 - (vec l i + (-k) * vec m i)
      rw [vec_out (by omega), vec_out (by omega)]
      exact ⟨0, by omega⟩
theorem zip_num {f : Int → Int → Int} {l m : List Int} {P : Int → Prop} (h : ∀ x y, P (f x y)) : ∀ z ∈ List.zipWith f l m, P z := by
  intro z hz
  obtain ⟨i, e⟩ := List.getElem?_of_mem hz
  rw [List.getElem?_zipWith] at e
  split at e
  · cases e; exact h _ _
  · cases e
theorem Row.less {l m : List Int} {k : Int} (r : Row p w l) (s : Row p w m) (hp : 0 < p) : Row p w (lessL p l m k) := by
  unfold lessL
  by_cases hk : k = 0
  · rw [if_pos hk]; exact r
  · rw [if_neg hk]
    exact ⟨by rw [List.length_zipWith, r.len, s.len]; omega, zip_num fun x y => ⟨Int.emod_nonneg _ (by omega), Int.emod_lt_of_pos _ hp⟩⟩
def timesL (p : Int) (l : List Int) (n : Int) : List Int := l.map fun x => x * n % p
theorem times_cg {l : List Int} {n : Int} : Cg p (vec (timesL p l n)) (fun i => n * vec l i) := fun i => by
  unfold timesL
  by_cases hi : i < l.length
  · rw [vec_map hi]
    show p ∣ vec l i * n % p - n * vec l i
    rw [Int.mul_comm n]
    exact emod_dvd _ _
  · rw [vec_out (by rw [List.length_map]; omega)]
    show p ∣ 0 - n * vec l i
    rw [vec_out (by omega)]
    exact ⟨0, by omega⟩
theorem Row.times {l : List Int} {n : Int} (r : Row p w l) (hp : 0 < p) : Row p w (timesL p l n) :=
  ⟨by unfold timesL; rw [List.length_map, r.len], fun x hx => by
    obtain ⟨y, _, e⟩ := List.mem_map.mp hx
    rw [← e]
    exact ⟨Int.emod_nonneg _ (by omega), Int.emod_lt_of_pos _ hp⟩⟩
def addL (p : Int) (l m : List Int) : List Int := List.zipWith (fun x y => (x + y) % p) l m
theorem add_cg {l m : List Int} (h : l.length = m.length) : Cg p (vec (addL p l m)) (fun i => vec l i + vec m i) := fun i => by
  unfold addL
  by_cases hi : i < l.length
  · rw [vec_zip h hi]; exact emod_dvd _ _
  · rw [vec_out (by rw [List.length_zipWith]; omega)]
    show p ∣ 0 - (vec l i + vec m i)
    rw [vec_out (by omega), vec_out (by omega)]
    exact ⟨0, by omega⟩
theorem Row.add {l m : List Int} (r : Row p w l) (s : Row p w m) (hp : 0 < p) : Row p w (addL p l m) :=
  ⟨by unfold addL; rw [List.length_zipWith, r.len, s.len]; omega, zip_num fun x y => ⟨Int.emod_nonneg _ (by omega), Int.emod_lt_of_pos _ hp⟩⟩
/-! ### places and rows -/
structure RedL (p : Int) (w : Nat) (B : List (Nat × List Int)) : Prop where
  row : ∀ x ∈ B, Row p w x.2
  one : ∀ x ∈ B, x.1 < w ∧ vec x.2 x.1 = 1
  low : ∀ x ∈ B, ∀ i, i < x.1 → vec x.2 i = 0
  off : ∀ x ∈ B, ∀ y ∈ B, x.1 ≠ y.1 → vec x.2 y.1 = 0
  nd : (B.map (·.1)).Nodup
theorem key_inj {α β : Type} {f : α → β} : ∀ {l : List α}, (l.map f).Nodup → ∀ {x y : α}, x ∈ l → y ∈ l → f x = f y → x = y
  | z :: l, nd, x, y, hx, hy, e => by
    have n := List.nodup_cons.mp nd
    rcases List.mem_cons.mp hx with h1 | h1 <;> rcases List.mem_cons.mp hy with h2 | h2
    · rw [h1, h2]
    · exact absurd (List.mem_map.mpr ⟨y, h2, by rw [← e, h1]⟩) n.1
    · exact absurd (List.mem_map.mpr ⟨x, h1, by rw [e, h2]⟩) n.1
    · exact key_inj n.2 h1 h2 e
theorem nodup_of_keys {α β : Type} {f : α → β} : ∀ {l : List α}, (l.map f).Nodup → l.Nodup
  | [], _ => List.nodup_nil
  | x :: l, h => by
    have n := List.nodup_cons.mp h
    exact List.nodup_cons.mpr ⟨fun z => n.1 (List.mem_map.mpr ⟨x, z, rfl⟩), nodup_of_keys n.2⟩
def vecs (B : List (Nat × List Int)) : List (Nat × Vec) := B.map fun x => (x.1, vec x.2)
theorem vecs_keys (B : List (Nat × List Int)) : (vecs B).map (·.1) = B.map (·.1) := by unfold vecs; rw [List.map_map]; rfl
theorem vecs_rows (B : List (Nat × List Int)) : (vecs B).map (·.2) = B.map (fun x => vec x.2) := by unfold vecs; rw [List.map_map]; rfl
theorem RedL.red {B : List (Nat × List Int)} (h : RedL p w B) : Red0 (vecs B) where
  one := fun x hx => by
    obtain ⟨y, hy, rfl⟩ := List.mem_map.mp hx
    exact (h.one y hy).2
  off := fun x hx y hy ne => by
    obtain ⟨a, ha, rfl⟩ := List.mem_map.mp hx
    obtain ⟨b, hb, rfl⟩ := List.mem_map.mp hy
    exact h.off a ha b hb fun e => ne (by rw [key_inj h.nd ha hb e])
  low := fun x hx i hi => by
    obtain ⟨y, hy, rfl⟩ := List.mem_map.mp hx
    exact h.low y hy i hi
  nd := nodup_of_keys (f := (·.1)) (by rw [vecs_keys]; exact h.nd)
/-- THE ONE: reduced lists, their places rising, from which the same follows, are the same -/
theorem RedL.same {B C : List (Nat × List Int)} (hB : RedL p w B) (hC : RedL p w C) (p2 : 2 ≤ p) (rB : (B.map (·.1)).Pairwise (· < ·)) (rC : (C.map (·.1)).Pairwise (· < ·))
    (h1 : ∀ x ∈ B, Sp0 p (C.map fun x => vec x.2) (vec x.2)) (h2 : ∀ x ∈ C, Sp0 p (B.map fun x => vec x.2) (vec x.2)) : B = C := by
  obtain ⟨keys, rows⟩ := Red0.same (p := p) hB.red hC.red p2 (fun x hx => by
    obtain ⟨y, hy, rfl⟩ := List.mem_map.mp hx
    rw [vecs_rows]; exact h1 y hy) (fun x hx => by
    obtain ⟨y, hy, rfl⟩ := List.mem_map.mp hx
    rw [vecs_rows]; exact h2 y hy)
  rw [vecs_keys, vecs_keys] at keys
  have e := rise_ext rB rC keys
  have el : B.length = C.length := by have := congrArg List.length e; rwa [List.length_map, List.length_map] at this
  apply List.ext_getElem el
  intro i b1 b2
  have k : B[i].1 = C[i].1 := by
    have := congrArg (fun l : List Nat => l[i]?) e
    simp only [List.getElem?_map, List.getElem?_eq_getElem b1, List.getElem?_eq_getElem b2, Option.map_some, Option.some.injEq] at this
    exact this
  have mB := List.getElem_mem b1
  have mC := List.getElem_mem b2
  have r := rows (B[i].1, vec B[i].2) (List.mem_map.mpr ⟨_, mB, rfl⟩) (C[i].1, vec C[i].2) (List.mem_map.mpr ⟨_, mC, rfl⟩) k
  exact Prod.ext k ((hB.row _ mB).ext (hC.row _ mC) (by omega) r)
end
/-! ### the program's own reduced rows -/
section
variable {p : Int} {w : Nat}
def restL (p : Int) (row : List Int) : List (Nat × List Int) → List Int
  | [] => row
  | x :: B => restL p (lessL p row x.2 (vec row x.1)) B
theorem mul_minus {a : Int} : a + -a * 1 = 0 := by omega
/-- less the base's multiple: 0 at its place, the same at places where the base has 0 -/
theorem less_at {l m : List Int} {a : Nat} (r : Row p w l) (s : Row p w m) (hp : 0 < p) (h1 : vec m a = 1) : vec (lessL p l m (vec l a)) a = 0 := by
  have h := less_cg (p := p) (k := vec l a) (show l.length = m.length by rw [r.len, s.len]) a
  have h : p ∣ vec (lessL p l m (vec l a)) a - (vec l a + (-(vec l a)) * vec m a) := h
  rw [h1, mul_minus] at h
  exact cg_eq ((r.less s hp).at hp a) (by omega) h
theorem less_keep {l m : List Int} {a : Nat} {k : Int} (r : Row p w l) (s : Row p w m) (hp : 0 < p) (h0 : vec m a = 0) : vec (lessL p l m k) a = vec l a := by
  have h := less_cg (p := p) (k := k) (show l.length = m.length by rw [r.len, s.len]) a
  have h : p ∣ vec (lessL p l m k) a - (vec l a + (-k) * vec m a) := h
  rw [h0, Int.mul_zero, Int.add_zero] at h
  exact cg_eq ((r.less s hp).at hp a) (r.at hp a) h
theorem less_sp {L : List Vec} {l m : List Int} {k : Int} (e : l.length = m.length) (hm : Sp0 p L (vec m)) : Sp0 p L (vec l) ↔ Sp0 p L (vec (lessL p l m k)) := by
  have c := less_cg (p := p) (k := k) e
  constructor
  · intro h
    exact (h.plus hm (-k)).cg c
  · intro h
    refine (h.plus hm k).cg (fun i => ?_)
    obtain ⟨d, f⟩ := c i
    have f : vec (lessL p l m k) i - (vec l i + (-k) * vec m i) = p * d := f
    refine ⟨-d, ?_⟩
    show vec l i - (vec (lessL p l m k) i + k * vec m i) = _
    rw [Int.mul_neg, ← f, Int.neg_mul]
    omega
theorem rest_ok (hp : 0 < p) : ∀ (B : List (Nat × List Int)) (row : List Int), Row p w row → (∀ x ∈ B, Row p w x.2 ∧ vec x.2 x.1 = 1) → B.Pairwise (fun x y => vec y.2 x.1 = 0) → ∀ D : List Nat, (∀ d ∈ D, vec row d = 0 ∧ ∀ x ∈ B, vec x.2 d = 0) →
    Row p w (restL p row B) ∧ (∀ d ∈ D, vec (restL p row B) d = 0) ∧ (∀ x ∈ B, vec (restL p row B) x.1 = 0) ∧ ∀ L : List Vec, (∀ x ∈ B, Sp0 p L (vec x.2)) → (Sp0 p L (vec row) ↔ Sp0 p L (vec (restL p row B)))
  | [], row, r, _, _, D, hD => ⟨r, fun d hd => (hD d hd).1, fun _ h => (by cases h), fun _ _ => Iff.rfl⟩
  | x :: B, row, r, hB, pw, D, hD => by
    have hx := hB x List.mem_cons_self
    have p2 := List.pairwise_cons.mp pw
    have r2 := r.less (k := vec row x.1) hx.1 hp
    obtain ⟨a1, a2, a3, a4⟩ := rest_ok hp B (lessL p row x.2 (vec row x.1)) r2 (fun y hy => hB y (List.mem_cons_of_mem _ hy)) p2.2 (x.1 :: D) (fun d hd => by
      rcases List.mem_cons.mp hd with e | hd
      · rw [e]; exact ⟨less_at r hx.1 hp hx.2, fun y hy => p2.1 y hy⟩
      · refine ⟨?_, fun y hy => (hD d hd).2 y (List.mem_cons_of_mem _ hy)⟩
        rw [less_keep r hx.1 hp ((hD d hd).2 x List.mem_cons_self)]
        exact (hD d hd).1)
    refine ⟨a1, fun d hd => a2 d (List.mem_cons_of_mem _ hd), fun y hy => ?_, fun L hL => ?_⟩
    · rcases List.mem_cons.mp hy with e | hy
      · rw [e]; exact a2 _ List.mem_cons_self
      · exact a3 y hy
    · exact (less_sp (by rw [r.len, hx.1.len]) (hL x List.mem_cons_self)).trans (a4 L fun y hy => hL y (List.mem_cons_of_mem _ hy))
/-- the first place that isn't 0, the length where there is none -/
def firstL : List Int → Nat
  | [] => 0
  | n :: l => if n ≠ 0 then 0 else firstL l + 1
theorem firstL_le : ∀ l : List Int, firstL l ≤ l.length
  | [] => Nat.le_refl _
  | n :: l => by
    unfold firstL
    split
    · exact Nat.zero_le _
    · exact Nat.succ_le_succ (firstL_le l)
theorem firstL_low : ∀ (l : List Int) (i : Nat), i < firstL l → vec l i = 0
  | n :: l, i, h => by
    unfold firstL at h
    split at h
    · omega
    · rename_i hn
      cases i with
      | zero => show n = 0; exact Decidable.not_not.mp hn
      | succ i => exact firstL_low l i (by omega)
theorem firstL_at : ∀ (l : List Int), firstL l < l.length → vec l (firstL l) ≠ 0
  | n :: l, h => by
    unfold firstL at h ⊢
    by_cases hn : n ≠ 0
    · rw [if_pos hn]; exact hn
    · rw [if_neg hn] at h ⊢
      exact firstL_at l (by simpa using h)
def stepL (p : Int) (inv : Int → Int) (B : List (Nat × List Int)) (row : List Int) : List (Nat × List Int) :=
  let r := restL p row B
  let a := firstL r
  if a < r.length then
    let b := timesL p r (inv (vec r a))
    (B.map fun x => (x.1, lessL p x.2 b (vec x.2 a))) ++ [(a, b)]
  else B
structure InvOk (p : Int) (inv : Int → Int) : Prop where
  ok : ∀ n, 1 ≤ n → n < p → n * inv n % p = 1
theorem step_ok {inv : Int → Int} (p2 : 2 ≤ p) (hi : InvOk p inv) {B : List (Nat × List Int)} (h : RedL p w B) {row : List Int} (r : Row p w row) :
    RedL p w (stepL p inv B row) ∧ ∀ v, Sp0 p ((stepL p inv B row).map fun x => vec x.2) v ↔ Sp0 p (vec row :: B.map fun x => vec x.2) v := by
  have hp : 0 < p := by omega
  have pwB : B.Pairwise (fun x y => vec y.2 x.1 = 0) := by
    have nd : B.Pairwise (fun x y => x.1 ≠ y.1) := by
      have := h.nd
      rw [List.Nodup, List.pairwise_map] at this
      exact this
    exact List.Pairwise.imp_of_mem (fun {x y} hx hy ne => h.off y hy x hx (fun e => ne e.symm)) nd
  obtain ⟨rr, _, r0, rs⟩ := rest_ok hp B row r (fun x hx => ⟨h.row x hx, (h.one x hx).2⟩) pwB [] (fun _ z => by cases z)
  have inB : ∀ (L : List Vec), (∀ x ∈ B, vec x.2 ∈ L) → ∀ x ∈ B, Sp0 p L (vec x.2) := fun L hL x hx => .of (hL x hx)
  unfold stepL
  simp only []
  by_cases hlt : firstL (restL p row B) < (restL p row B).length
  · rw [if_pos hlt]
    generalize hr : restL p row B = rest at *
    generalize ha : firstL rest = a at *
    have na : vec rest a ≠ 0 := by rw [← ha]; exact firstL_at rest (by rw [ha]; exact hlt)
    have lowr : ∀ i, i < a → vec rest i = 0 := fun i hi2 => firstL_low rest i (by rw [ha]; exact hi2)
    have bnd := rr.at hp a
    have hinv := hi.ok (vec rest a) (by omega) bnd.2
    have rb : Row p w (timesL p rest (inv (vec rest a))) := rr.times hp
    have one_b : vec (timesL p rest (inv (vec rest a))) a = 1 := by
      unfold timesL
      rw [vec_map hlt]; exact hinv
    have low_b : ∀ i, vec rest i = 0 → vec (timesL p rest (inv (vec rest a))) i = 0 := fun i hi2 => by
      unfold timesL
      by_cases hl : i < rest.length
      · rw [vec_map hl, hi2, Int.zero_mul, Int.zero_emod]
      · exact vec_out (by rw [List.length_map]; omega)
    generalize hb : timesL p rest (inv (vec rest a)) = b at *
    have aw : a < w := by rw [← rr.len]; exact hlt
    have ane : ∀ x ∈ B, x.1 ≠ a := fun x hx e => na (by rw [← e]; exact r0 x hx)
    constructor
    · constructor
      · intro x hx
        rcases List.mem_append.mp hx with hx | hx
        · obtain ⟨y, hy, rfl⟩ := List.mem_map.mp hx
          exact (h.row y hy).less rb hp
        · rw [List.mem_singleton.mp hx]; exact rb
      · intro x hx
        rcases List.mem_append.mp hx with hx | hx
        · obtain ⟨y, hy, rfl⟩ := List.mem_map.mp hx
          refine ⟨(h.one y hy).1, ?_⟩
          show vec (lessL p y.2 b (vec y.2 a)) y.1 = 1
          rw [less_keep (h.row y hy) rb hp (low_b _ (r0 y hy))]
          exact (h.one y hy).2
        · rw [List.mem_singleton.mp hx]; exact ⟨aw, one_b⟩
      · intro x hx i hi2
        rcases List.mem_append.mp hx with hx | hx
        · obtain ⟨y, hy, rfl⟩ := List.mem_map.mp hx
          have hi2 : i < y.1 := hi2
          show vec (lessL p y.2 b (vec y.2 a)) i = 0
          by_cases ia : i < a
          · rw [less_keep (h.row y hy) rb hp (low_b _ (lowr i ia))]
            exact h.low y hy i hi2
          · have : vec y.2 a = 0 := h.low y hy a (by omega)
            rw [this]
            unfold lessL
            rw [if_pos rfl]
            exact h.low y hy i hi2
        · rw [List.mem_singleton.mp hx] at hi2 ⊢
          exact low_b _ (lowr i hi2)
      · intro x hx y hy ne
        rcases List.mem_append.mp hx with hx | hx <;> rcases List.mem_append.mp hy with hy | hy
        · obtain ⟨x', hx', rfl⟩ := List.mem_map.mp hx
          obtain ⟨y', hy', rfl⟩ := List.mem_map.mp hy
          show vec (lessL p x'.2 b (vec x'.2 a)) y'.1 = 0
          rw [less_keep (h.row x' hx') rb hp (low_b _ (r0 y' hy'))]
          exact h.off x' hx' y' hy' ne
        · obtain ⟨x', hx', rfl⟩ := List.mem_map.mp hx
          rw [List.mem_singleton.mp hy]
          exact less_at (h.row x' hx') rb hp one_b
        · obtain ⟨y', hy', rfl⟩ := List.mem_map.mp hy
          rw [List.mem_singleton.mp hx]
          exact low_b _ (r0 y' hy')
        · rw [List.mem_singleton.mp hx, List.mem_singleton.mp hy] at ne
          exact absurd rfl ne
      · rw [List.map_append, List.map_map]
        refine List.nodup_append.mpr ⟨?_, by simp, ?_⟩
        · exact h.nd
        · intro c hc d hd e
          obtain ⟨y, hy, rfl⟩ := List.mem_map.mp hc
          have : d = a := by simpa using hd
          exact ane y hy (by rw [← this, ← e]; rfl)
    · intro v
      -- b follows from rest, rest from b
      have cb : Cg p (vec b) (fun i => inv (vec rest a) * vec rest i) := by rw [← hb]; exact times_cg
      have cr : Cg p (vec rest) (fun i => vec rest a * vec b i) := fun i => by
        obtain ⟨c, e⟩ := cb i
        have e : vec b i - inv (vec rest a) * vec rest i = p * c := e
        obtain ⟨d, f⟩ : p ∣ vec rest a * inv (vec rest a) - 1 := by
          have := emod_dvd (vec rest a * inv (vec rest a)) p
          rw [hinv] at this
          obtain ⟨q, g⟩ := this
          exact ⟨-q, by rw [Int.mul_neg, ← g]; omega⟩
        refine ⟨-(vec rest a * c) - d * vec rest i, ?_⟩
        show vec rest i - vec rest a * vec b i = _
        have e2 : vec b i = p * c + inv (vec rest a) * vec rest i := by omega
        have f2 : vec rest a * inv (vec rest a) = 1 + p * d := by omega
        rw [e2, Int.mul_add, ← Int.mul_assoc (vec rest a) (inv (vec rest a)), f2, Int.add_mul, Int.one_mul, Int.mul_sub, Int.mul_neg, Int.mul_left_comm p (vec rest a) c, Int.mul_assoc p d]
        omega
      have sub1 : ∀ u ∈ (((B.map fun x => (x.1, lessL p x.2 b (vec x.2 a))) ++ [(a, b)]).map fun x => vec x.2), Sp0 p (vec row :: B.map fun x => vec x.2) u := by
        have hB : ∀ x ∈ B, Sp0 p (vec row :: B.map fun x => vec x.2) (vec x.2) := fun x hx => .of (List.mem_cons_of_mem _ (List.mem_map.mpr ⟨x, hx, rfl⟩))
        have hrest : Sp0 p (vec row :: B.map fun x => vec x.2) (vec rest) := (rs _ hB).mp (.of List.mem_cons_self)
        have hbb : Sp0 p (vec row :: B.map fun x => vec x.2) (vec b) := (hrest.mul _).cg cb
        intro u hu
        obtain ⟨x, hx, rfl⟩ := List.mem_map.mp hu
        rcases List.mem_append.mp hx with hx | hx
        · obtain ⟨y, hy, rfl⟩ := List.mem_map.mp hx
          exact (less_sp (by rw [(h.row y hy).len, rb.len]) hbb).mp (hB y hy)
        · rw [List.mem_singleton.mp hx]; exact hbb
      have sub2 : ∀ u ∈ (vec row :: B.map fun x => vec x.2), Sp0 p (((B.map fun x => (x.1, lessL p x.2 b (vec x.2 a))) ++ [(a, b)]).map fun x => vec x.2) u := by
        have hbb : Sp0 p (((B.map fun x => (x.1, lessL p x.2 b (vec x.2 a))) ++ [(a, b)]).map fun x => vec x.2) (vec b) := .of (List.mem_map.mpr ⟨(a, b), List.mem_append_right _ (List.mem_singleton.mpr rfl), rfl⟩)
        have hB : ∀ x ∈ B, Sp0 p (((B.map fun x => (x.1, lessL p x.2 b (vec x.2 a))) ++ [(a, b)]).map fun x => vec x.2) (vec x.2) := fun y hy =>
          (less_sp (k := vec y.2 a) (by rw [(h.row y hy).len, rb.len]) hbb).mpr (.of (List.mem_map.mpr ⟨(y.1, lessL p y.2 b (vec y.2 a)), List.mem_append_left _ (List.mem_map.mpr ⟨y, hy, rfl⟩), rfl⟩))
        have hrest := (hbb.mul (vec rest a)).cg cr
        intro u hu
        rcases List.mem_cons.mp hu with e | hu
        · rw [e]; exact (rs _ hB).mpr hrest
        · obtain ⟨x, hx, rfl⟩ := List.mem_map.mp hu
          exact hB x hx
      exact ⟨fun k => Sp0.trans sub1 k, fun k => Sp0.trans sub2 k⟩
  · rw [if_neg hlt]
    refine ⟨h, fun v => ⟨fun k => Sp0.trans (fun u hu => .of (List.mem_cons_of_mem _ hu)) k, fun k => Sp0.trans (fun u hu => ?_) k⟩⟩
    rcases List.mem_cons.mp hu with e | hu
    · rw [e]
      refine (rs _ fun x hx => .of (List.mem_map.mpr ⟨x, hx, rfl⟩)).mpr (.zero fun i => ?_)
      have : vec (restL p row B) i = 0 := by
        by_cases hi : i < firstL (restL p row B)
        · exact firstL_low _ i hi
        · exact vec_out (by omega)
      rw [this]
      show p ∣ 0 - 0
      exact ⟨0, by omega⟩
    · exact .of hu
/-- all rows, one behind the other -/
theorem fold_ok {inv : Int → Int} (p2 : 2 ≤ p) (hi : InvOk p inv) : ∀ (rows : List (List Int)) (B : List (Nat × List Int)), RedL p w B → (∀ r ∈ rows, Row p w r) →
    RedL p w (rows.foldl (stepL p inv) B) ∧ ∀ v, Sp0 p ((rows.foldl (stepL p inv) B).map fun x => vec x.2) v ↔ Sp0 p (rows.map vec ++ B.map fun x => vec x.2) v
  | [], B, h, _ => ⟨h, fun _ => Iff.rfl⟩
  | r :: rows, B, h, hr => by
    obtain ⟨h1, e1⟩ := step_ok p2 hi h (hr r List.mem_cons_self)
    obtain ⟨h2, e2⟩ := fold_ok p2 hi rows _ h1 fun q hq => hr q (List.mem_cons_of_mem _ hq)
    refine ⟨h2, fun v => (e2 v).trans ⟨fun k => Sp0.trans (fun u hu => ?_) k, fun k => Sp0.trans (fun u hu => ?_) k⟩⟩
    · rcases List.mem_append.mp hu with hu | hu
      · exact .of (List.mem_append_left _ (List.mem_cons_of_mem _ hu))
      · refine Sp0.trans (fun z hz => ?_) ((e1 u).mp (.of hu))
        rcases List.mem_cons.mp hz with e | hz
        · rw [e]; exact .of (List.mem_append_left _ List.mem_cons_self)
        · exact .of (List.mem_append_right _ hz)
    · rcases List.mem_append.mp hu with hu | hu
      · rcases List.mem_cons.mp hu with e | hu
        · rw [e]
          exact Sp0.trans (fun z hz => .of (List.mem_append_right _ hz)) ((e1 _).mpr (.of List.mem_cons_self))
        · exact .of (List.mem_append_left _ hu)
      · exact Sp0.trans (fun z hz => .of (List.mem_append_right _ hz)) ((e1 u).mpr (.of (List.mem_cons_of_mem _ hu)))
end
/-! ### tuples of rows, as they stand -/
def RowV (H : Hp) (v : V) (r : List Int) : Prop := ∃ c, v = .ref c ∧ H c = some (.tup (r.map .int))
def Rws (H : Hp) (us : List V) (rows : List (List Int)) : Prop := us.length = rows.length ∧ ∀ (i : Nat) (v : V), us[i]? = some v → ∃ r, rows[i]? = some r ∧ RowV H v r
theorem RowV.same {H H' : Hp} {v : V} {x : List Int} (h : RowV H v x) (k : Same H H') : RowV H' v x := by
  obtain ⟨c, e, h1⟩ := h
  exact ⟨c, e, k _ _ h1⟩
theorem Rws.same {H H' : Hp} {us : List V} {rows : List (List Int)} (h : Rws H us rows) (k : Same H H') : Rws H' us rows :=
  ⟨h.1, fun i v e => (h.2 i v e).imp fun _ y => ⟨y.1, y.2.same k⟩⟩
theorem atI_vec {l : List Int} {a : Nat} (h : a < l.length) : atI (l.map V.int) (a : Int) = some (.int (vec l a)) := by
  refine atI_nat ?_
  rw [List.getElem?_map, List.getElem?_eq_getElem h, vec_in h]; rfl
theorem St.tupOut {s c a : Addr} {H : Hp} {xs : List V} (h : St s c H) (e : H a = some (.tup xs)) : a ∉ [s, c] := by
  obtain ⟨_, cs, j, r, h⟩ := h
  intro z
  rcases List.mem_cons.mp z with e1 | z
  · rw [e1, h.hs] at e; cases e
  · rw [List.mem_singleton.mp z, h.hc] at e; cases e
theorem Rws.kp {S : List Addr} {H H' : Hp} {us : List V} {rows : List (List Int)} (h : Rws H us rows) (k : Kp S H H') (o : ∀ a xs, H a = some (.tup xs) → a ∉ S) : Rws H' us rows :=
  ⟨h.1, fun i v e => by
    obtain ⟨r, er, c, e1, hc⟩ := h.2 i v e
    exact ⟨r, er, c, e1, k _ _ hc (o _ _ hc)⟩⟩
theorem Rws.kpSt {s c : Addr} {H H' : Hp} {us : List V} {rows : List (List Int)} (h : Rws H us rows) (k : Kp [s, c] H H') (t : St s c H) : Rws H' us rows := h.kp k fun _ _ e => t.tupOut e
theorem Rws.upd {H : Hp} {us : List V} {rows : List (List Int)} {l : Addr} {xs ys : List V} (h : Rws H us rows) (e : H l = some (.lst xs)) : Rws (upd H l (.lst ys)) us rows :=
  ⟨h.1, fun i v ev => by
    obtain ⟨r, er, c, e1, hc⟩ := h.2 i v ev
    exact ⟨r, er, c, e1, hl_set (fun z => by rw [z, e] at hc; cases hc) hc⟩⟩
theorem Rws.set {H : Hp} {us : List V} {rows : List (List Int)} {i : Nat} {v : V} {r : List Int} (h : Rws H us rows) (hv : RowV H v r) : Rws H (us.set i v) (rows.set i r) :=
  ⟨by rw [List.length_set, List.length_set]; exact h.1, fun j x e => by
    rw [List.getElem?_set] at e
    rw [List.getElem?_set]
    by_cases c : i = j
    · rw [if_pos c] at e ⊢
      split at e
      · rename_i lt
        rw [if_pos (by rw [← h.1]; exact lt)]
        obtain rfl : v = x := Option.some.inj e
        exact ⟨r, rfl, hv⟩
      · cases e
    · rw [if_neg c] at e ⊢
      exact h.2 j x e⟩
theorem Rws.append {H : Hp} {us vs : List V} {rows qs : List (List Int)} (h : Rws H us rows) (k : Rws H vs qs) : Rws H (us ++ vs) (rows ++ qs) :=
  ⟨by rw [List.length_append, List.length_append, h.1, k.1], fun i v e => by
    by_cases lt : i < us.length
    · rw [List.getElem?_append_left lt] at e
      rw [List.getElem?_append_left (by rw [← h.1]; exact lt)]
      exact h.2 i v e
    · rw [List.getElem?_append_right (by omega)] at e
      rw [List.getElem?_append_right (by rw [← h.1]; omega), ← h.1]
      exact k.2 _ v e⟩
theorem Rws.row {H : Hp} {us : List V} {rows : List (List Int)} {i : Nat} {v : V} {r : List Int} (h : Rws H us rows) (e : us[i]? = some v) (f : rows[i]? = some r) : RowV H v r := by
  obtain ⟨q, eq, pv⟩ := h.2 i v e
  rw [f] at eq; cases eq; exact pv
def Lot (H : Hp) (a : Addr) (rows : List (List Int)) : Prop := ∃ us, H a = some (.tup us) ∧ Rws H us rows
theorem Lot.same {H H' : Hp} {a : Addr} {rows : List (List Int)} (h : Lot H a rows) (k : Same H H') : Lot H' a rows := h.imp fun _ z => ⟨k _ _ z.1, z.2.same k⟩
theorem Lot.kpSt {s c : Addr} {H H' : Hp} {a : Addr} {rows : List (List Int)} (h : Lot H a rows) (k : Kp [s, c] H H') (t : St s c H) : Lot H' a rows := h.imp fun _ z => ⟨k _ _ z.1 (t.tupOut z.1), z.2.kpSt k t⟩
theorem RepAll.rws {S : List Addr} {H : Hp} : ∀ {us : List V} {rows : List (List Int)}, RepAll S H us (rows.map rowO) → Rws H us rows
  | us, rows, h => ⟨by rw [h.length, List.length_map], fun i v e => by
    obtain ⟨o, eo, ro⟩ := h.get e
    rw [List.getElem?_map] at eo
    cases hq : rows[i]? with
    | none => rw [hq] at eo; cases eo
    | some ns =>
      rw [hq] at eo; cases eo
      obtain ⟨a, rfl, ha, _⟩ := ro.rowInv
      exact ⟨ns, rfl, a, rfl, ha⟩⟩
theorem Rws.at {H : Hp} {us : List V} {rows : List (List Int)} (h : Rws H us rows) {d : Int} (h0 : 0 ≤ d) (h1 : d < us.length) : ∃ (j : Nat) (a : Addr) (r : List Int), d = j ∧ j < us.length ∧ us[j]? = some (.ref a) ∧ rows[j]? = some r ∧ H a = some (.tup (r.map .int)) := by
  obtain ⟨j, rfl⟩ : ∃ j : Nat, d = j := ⟨d.toNat, by omega⟩
  have lt : j < us.length := by omega
  obtain ⟨r, er, a, e, ha⟩ := h.2 j _ (List.getElem?_eq_getElem lt)
  exact ⟨j, a, r, rfl, lt, by rw [List.getElem?_eq_getElem lt, e], er, ha⟩
/-! ### sorted(xs): pairs of an int and a thing, the ints all unlike -/
def PrI (h : Heap) (v : Value) (i : Int) : Prop := ∃ (b : Addr) (ob : Obj) (tk : Tok) (y : Value) (m : Nat), v = Value.ref b ∧ h.get? b = some ob ∧ ob.cls = Value.type "tuple" ∧ ob.data = Data.seq #[Value.int i tk, y] m
theorem PrI.mono {h g : Heap} {v : Value} {i : Int} (p : PrI h v i) (k : ∀ b o, h.get? b = some o → o.cls = Value.type "tuple" → g.get? b = some o) : PrI g v i := by
  obtain ⟨b, ob, tk, y, m, e, e1, e2, e3⟩ := p
  exact ⟨b, ob, tk, y, m, e, k b ob e1 e2, e2, e3⟩
theorem PrI.heads {h : Heap} {k : Value → Int} : ∀ {vs : List Value}, (∀ v ∈ vs, PrI h v (k v)) → ∃ fs : List Value, PySem.W.KatTups h vs fs ∧ fs.length = vs.length ∧ ∀ f ∈ fs, ∃ i tk, f = Value.int i tk
  | [], _ => ⟨[], trivial, rfl, fun f m => absurd m (by simp)⟩
  | v :: vs, hp => by
    obtain ⟨fs, a1, a2, a3⟩ := PrI.heads (vs := vs) fun u m => hp u (List.mem_cons_of_mem _ m)
    obtain ⟨b, ob, tk, y, m, e, e1, e2, e3⟩ := hp v List.mem_cons_self
    refine ⟨Value.int (k v) tk :: fs, ?_, by simp [a2], fun f z => ?_⟩
    · rw [e]
      rw [e] at e3
      exact PySem.W.KatTups.cons e1 e2 e3 rfl a1
    · rcases List.mem_cons.mp z with q | q
      · exact ⟨_, _, q⟩
      · exact a3 f q
def byI {α : Type} (k : α → Int) (x y : α) : Bool := decide (k x < k y)
theorem byI_swo {α : Type} (k : α → Int) : SrtO.Swo (byI k) := by
  refine ⟨fun x y h => ?_, fun x y z h g => ?_⟩
  · have := of_decide_eq_true h
    exact decide_eq_false (by omega)
  · have := of_decide_eq_false h
    have := of_decide_eq_false g
    exact decide_eq_false (by omega)
section
variable {prog : Program} {w : World} {A : Around} {s : Shared}
theorem PrI.cmp {vs : List Value} {k : Value → Int} (hp : ∀ v ∈ vs, PrI s.heap v (k v)) (inj : ∀ v ∈ vs, ∀ u ∈ vs, k v = k u → v = u) :
    SrtO.Cmp prog w A s (PyProof.Rows.tuples' true) (fun p => p.1 ∈ vs) (SrtO.lt2 (byI k)) := by
  intro p q m1 m2
  have l1 : p.1 ∈ vs := m1
  have l2 : q.1 ∈ vs := m2
  show wpAny (model prog w) A (PyProof.Rows.keyLt' (PyProof.Rows.tuples' true) p.1 q.1) (fun r t => t = s ∧ r = byI k p.1 q.1) (fun _ _ => False) s
  by_cases c : k p.1 = k q.1
  · have ev := inj _ l1 _ l2 c
    have ef : byI k p.1 q.1 = false := decide_eq_false (by omega)
    rw [ef, ← ev]
    obtain ⟨b, ob, tk, y, m, e, e1, e2, e3⟩ := hp _ l1
    rw [e]
    refine PySem.W.kat_lt e1 e3 e1 e3 ?_
    refine PySem.W.kat_cons (SeqAt.EqAt.same _ prog w _ _ (PySem.W.kat_yes ?_))
    exact PySem.W.kat_cons (SeqAt.EqAt.same _ prog w _ _ (PySem.W.kat_yes (PySem.W.kat_nil ⟨rfl, by rfl⟩)))
  · have ef : byI k p.1 q.1 = decide (k p.1 < k q.1) := rfl
    rw [ef]
    generalize he : k p.1 = i at c ⊢
    generalize he' : k q.1 = j at c ⊢
    obtain ⟨b, ob, tk, y, m, e, e1, e2, e3⟩ := hp _ l1
    obtain ⟨b', ob', tk', y', m', e', e1', e2', e3'⟩ := hp _ l2
    rw [he] at e3
    rw [he'] at e3'
    rw [e, e']
    refine PySem.W.kat_lt e1 e3 e1' e3' ?_
    have en : (i == j) = false := by simpa using c
    refine PySem.W.kat_cons (SeqAt.EqAt.int_int i tk j tk' prog w _ _ ?_)
    rw [en]
    exact PySem.W.kat_no (PyProof.Rows.oneLt_int ⟨rfl, rfl⟩)
theorem PrI.sortable {a : Addr} {vs : List Value} {k : Value → Int} (n : 0 < vs.length) (hp : ∀ v ∈ vs, PrI s.heap v (k v)) (inj : ∀ v ∈ vs, ∀ u ∈ vs, k v = k u → v = u)
    (ha : ∀ o, s.heap.get? a = some o → o.cls ≠ Value.type "tuple") : SrtO.SortableO prog w A s a vs (byI k) := by
  intro g kk
  have hg : ∀ v ∈ vs, PrI g v (k v) := fun v m => (hp v m).mono fun b o e c => kk b o (by rintro rfl; exact ha o e c) e
  obtain ⟨fs, a1, a2, a3⟩ := PrI.heads hg
  refine ⟨_, fun Q E z => ?_, PrI.cmp hg inj⟩
  refine PySem.W.kat_kind (T := Value.type "int") a1 (by omega) (fun f m => ?_) (by rfl) z
  obtain ⟨i, tk, rfl⟩ := a3 f m
  exact PySem.W.Looks.now
end
def rSortI (K : PySem.W.Frag) : List V → Hp → VK → Prop := fun vs H Q => ∃ (a : Addr) (xs : List V) (k : V → Int), vs = [V.ref a] ∧ SqL K H a xs ∧ (∀ x ∈ xs, ∃ t y, x = V.ref t ∧ H t = some (.tup [.int (k x), y])) ∧
  (∀ x ∈ xs, ∀ y ∈ xs, k x = k y → x = y) ∧ ∀ ys p, ys.Perm xs → ys.Pairwise (fun x y => k x ≤ k y) → H p = none → Q (.ref p) (upd H p (.lst ys))
theorem cr_sortI {X : Cx} : CallR X (.builtin "sorted") (rSortI X.K) := by
  intro pins s σ H vs us Q I r h
  obtain ⟨a, xs, k, rfl, hs, hx, inj, q⟩ := h
  obtain ⟨its, rv, hl, hz⟩ := I.list hs
  obtain ⟨u, rfl, ru⟩ := vals1 r
  obtain rfl : u = Value.ref a := ru
  obtain ⟨e1, e2⟩ := refs_back rv fun x m => (hx x m).imp fun t z => z.choose_spec.1
  have bk : ∀ v ∈ its, backV v ∈ xs := fun v m => by rw [e1]; exact List.mem_map_of_mem m
  have hp : ∀ v ∈ its, PrI s.heap v (k (backV v)) := fun v m => by
    obtain ⟨t, y, e, ht⟩ := hx _ (bk v m)
    obtain ⟨t', rfl⟩ := e2 v m
    cases e
    obtain ⟨_, its2, r2, o, ho, hc, n, hd⟩ := I.hok _ _ ht
    obtain ⟨u1, u2, rfl, ri, rj⟩ := vals2 r2
    obtain ⟨t1, rfl⟩ := ri
    exact ⟨t, o, t1, u2, n, rfl, ho, hc, hd⟩
  have inj' : ∀ v ∈ its, ∀ u ∈ its, k (backV v) = k (backV u) → v = u := fun v m u m' c => by
    have z := inj _ (bk v m) _ (bk u m') c
    obtain ⟨t, rfl⟩ := e2 v m
    obtain ⟨t', rfl⟩ := e2 u m'
    cases z
    rfl
  refine SrtO.sorted_ord (byI_swo fun v => k (backV v)) hl.isList (by rw [← rv.length]; exact hz) (fun n h₁ b hb kk => ?_) fun out so st => ?_
  · refine PrI.sortable (s := { s with heap := h₁ }) (by omega) (fun v m => (hp v m).mono fun c o e _ => (kk c o e).2) inj' fun o e => ?_
    cases (show some o = some (seqObj "list" its.toArray 0) from e.symm.trans hb)
    intro c
    exact absurd (Value.type.inj c) (by decide)
  · have h3 : ∀ u ∈ out, ∃ a, u = Value.ref a := fun u m => e2 u (st.perm.mem_iff.mp m)
    obtain ⟨n, hn⟩ := PyProof.Rows.sortedAll_at s.heap its out.toArray
    have hb : (out.map backV).Perm xs := by rw [e1]; exact st.perm.map _
    refine ⟨.ref _, upd H _ (.lst (out.map backV)), I.laid (t' := s.toks) (fun b o e => sortedAll_old e) (Nat.le_succ _) ⟨?_, out, n, vals_back h3, hn⟩, rfl, q _ _ hb ?_ (I.hok.fresh (Nat.le_succ _))⟩
    · rw [hb.length_eq]; exact hz
    · refine List.pairwise_map.mpr (so.imp fun {x y} z => ?_)
      have z' : ¬ (k (backV y) < k (backV x)) := of_decide_eq_false z
      omega
theorem cr_sortIK {X : Cx} {K : PySem.W.Frag} (q : X.K = K := by rfl) : CallR X (.builtin "sorted") (rSortI K) := q ▸ cr_sortI
/-! ### l.remove(b): lists of ints, the first that is alike goes -/
theorem vals_int_at : ∀ {ns : List Int} {us : List Value}, Vals (ns.map V.int) us → ∀ (j : Nat) (h : j < us.length), ∃ t, us[j] = Value.int (ns.getD j 0) t
  | [], us, r, j, h => by cases r; exact absurd h (Nat.not_lt_zero _)
  | n :: ns, _, .cons ⟨t, e⟩ r, 0, h => ⟨t, e⟩
  | n :: ns, _, .cons _ r, j + 1, h => vals_int_at r j (Nat.lt_of_succ_lt_succ h)
theorem all_getD {ns ms : List Int} (h : ns.length = ms.length) : ((List.range ns.length).all fun j => ns.getD j 0 == ms.getD j 0) = decide (ns = ms) := by
  rw [Bool.eq_iff_iff, List.all_eq_true, decide_eq_true_eq]
  constructor
  · intro a
    refine List.ext_getElem h fun j h1 h2 => ?_
    have := eq_of_beq (a j (List.mem_range.mpr h1))
    simpa [List.getD, h1, h2] using this
  · rintro rfl j _
    exact beq_self_eq_true _
theorem eqL_at {X : Cx} {pins : List (Addr × Obj)} {σ : L2.St} {H : Hp} {s : Shared} (I : Inv X pins σ H s) {A : Around} (hu : A.units < cLine) {a b : Addr} {ns ms : List Int} (h1 : H a = some (.lst (ns.map V.int))) (h2 : H b = some (.lst (ms.map V.int))) :
    SeqAt.EqAt A s (.ref a) (.ref b) (decide (ns = ms)) := by
  by_cases c : a = b
  · subst c
    have e := h1.symm.trans h2
    have q : ns.map V.int = ms.map V.int := by injection e with e; injection e
    have q2 : ns = ms := List.map_inj_right (fun _ _ z => V.int.inj z) |>.mp q
    rw [decide_eq_true q2]
    exact SeqAt.EqAt.same _
  · refine SeqAt.EqAt.of_refs c ?_
    obtain ⟨z1, i1, n1, r1, l1, e1⟩ := I.lstM h1
    obtain ⟨z2, i2, n2, r2, l2, e2⟩ := I.lstM h2
    rw [List.length_map] at l1 l2
    have p1 : s.heap.IsList a i1.toArray := ⟨_, e1, rfl, _, rfl⟩
    have p2 : s.heap.IsList b i2.toArray := ⟨_, e2, rfl, _, rfl⟩
    by_cases q : ns.length = ms.length
    · have := SeqAt.RcAt.lists (e := fun j => ns.getD j 0 == ms.getD j 0) p1 p2 (by rw [List.size_toArray, List.size_toArray]; omega) hu (fun j g1 g2 => by
        obtain ⟨t1, w1⟩ := vals_int_at r1 j (by simpa using g1)
        obtain ⟨t2, w2⟩ := vals_int_at r2 j (by simpa using g2)
        have w1 : i1.toArray[j] = _ := w1
        have w2 : i2.toArray[j] = _ := w2
        rw [w1, w2]
        exact SeqAt.EqAt.int_int _ _ _ _)
      rwa [List.size_toArray, ← l1, all_getD q] at this
    · rw [decide_eq_false fun w => q (by rw [w])]
      refine SeqAt.RcAt.lists_lengths p1 p2 ?_ hu
      rw [List.size_toArray, List.size_toArray, ← l1, ← l2]
      simpa using q
def rRemL : V → List V → Hp → VK → Prop := fun x vs H Q => ∃ (l b : Addr) (as : List Addr) (f : Addr → List Int) (j : Nat), x = .ref l ∧ vs = [.ref b] ∧ H l = some (.lst (as.map V.ref)) ∧ (∀ a ∈ as, H a = some (.lst ((f a).map V.int))) ∧
  H b = some (.lst ((f b).map V.int)) ∧ (∃ a, as[j]? = some a ∧ f a = f b) ∧ (∀ i a, i < j → as[i]? = some a → f a ≠ f b) ∧ Q .non (upd H l (.lst ((as.eraseIdx j).map V.ref)))
theorem map_eraseIdxV (f : Addr → V) : ∀ (l : List Addr) (j : Nat), (l.map f).eraseIdx j = (l.eraseIdx j).map f
  | [], _ => rfl
  | _ :: _, 0 => rfl
  | n :: r, j + 1 => by
    show f n :: (r.map f).eraseIdx j = f n :: (r.eraseIdx j).map f
    rw [map_eraseIdxV f r j]
theorem mt_remL {X : Cx} (hu : X.A.units + 64 < cLine) : MtM X "list.remove" rRemL := by
  intro pins s σ H x vs v us Q I rx rv h
  obtain ⟨l, b, as, f, j, rfl, rfl, hH, hA, hB, ⟨a0, ej, ea⟩, lo, q⟩ := h
  cases rx
  obtain ⟨u, rfl, ru⟩ := rv.one
  cases ru
  obtain ⟨z, its, n, r, hl, e⟩ := I.lstM hH
  obtain rfl := refs_at r
  rw [List.length_map] at z
  have jl : j < as.length := (List.getElem?_eq_some_iff.mp ej).1
  have jv : as[j] = a0 := (List.getElem?_eq_some_iff.mp ej).2
  let ee : Value → Bool := fun v => match v with | .ref a => decide (f a = f b) | _ => false
  refine call_meets PySem.F.slot_list_remove ⟨_, e, rfl⟩ PySem.F.entry_list_remove (PySem.F.args_list_remove_2 _ _)
    (SeqAt.list_removeAt l _ n _ _ (.ref b) ee j (by simpa using jl) ?_ (fun i g lt => ?_) (by simpa using z)) ⟨e, fun y hy => ?_, ?_⟩
  · have : (as.map Value.ref).toArray[j]'(by simpa using jl) = .ref a0 := by simp [jv]
    rw [this]
    exact decide_eq_true ea
  · have g' : i < as.length := by simpa using g
    have : (as.map Value.ref).toArray[i] = .ref as[i] := by simp
    rw [this]
    exact decide_eq_false (lo i _ lt (List.getElem?_eq_getElem g'))
  · have hy' : y ∈ as.map Value.ref := by simpa using hy
    obtain ⟨a, ha, rfl⟩ := List.mem_map.mp hy'
    exact eqL_at I (by show X.A.units + _ < cLine; omega) (hA a ha) hB
  · have r2 : Vals ((as.eraseIdx j).map V.ref) ((as.map Value.ref).eraseIdx j) := by
      have w := r.eraseIdx j
      rwa [map_eraseIdxV] at w
    refine ⟨.non, _, I.lset (its' := (as.map Value.ref).eraseIdx j) hH e ?_ r2 ?_, rfl, q⟩
    · rw [List.eraseIdxIfInBounds_toArray]
    · rw [List.length_map]
      have := List.length_eraseIdx_le as j
      omega
/-! ### enumerate of a tuple -/
section
open AutoSeq1 (wpAny_loadPart')
theorem enT_new (b : Addr) (ys : Array Value) : Meets (Builtin.«enumerate.__new__» ⟨[Value.type "enumerate", Value.ref b], []⟩) fun _ R t => t.heap.IsTuple b ys ∧
    R (.ok (.ret (.ref (t.heap.objs.size + 1)))) { t with heap := (t.heap.push { cls := Value.type "tuple_iterator", data := Data.fields #[Value.ref b, Value.int 0 0] }).push { cls := Value.type "enumerate", data := Data.fields #[Value.none, Value.bool false, Value.ref t.heap.objs.size, rawInt 0, Value.none, Value.none] } } :=
  .of_wp fun prog w A R t h => by
    obtain ⟨hp, g, d, tk, os⟩ := t
    obtain ⟨hb, h⟩ := h
    have sub := sub_enumerate
    have ez : ∀ o : Obj, (hp.push o).objs.size = hp.objs.size + 1 := fun _ => Heap.size_push ..
    have go : ∀ {A' : Around} {E : Value → Shared → Prop} {Q : Value → Shared → Prop}, Q (.ref hp.objs.size) ⟨hp.push { cls := Value.type "tuple_iterator", data := Data.fields #[Value.ref b, Value.int 0 0] }, g, d, tk, os⟩ → wpAny (model prog w) A' (pyIter (.ref b)) Q E ⟨hp, g, d, tk, os⟩ :=
      fun q => wpAny_pyIter_tuple (show Heap.IsTuple (Shared.heap ⟨hp, g, d, tk, os⟩) b ys from hb) q
    have fin := h
    rw [← ez { cls := Value.type "tuple_iterator", data := Data.fields #[Value.ref b, Value.int 0 0] }] at fin
    wp_walk using go
    refine wpAny_stack_any fun st => wpAny_pure ?_
    split
    · rename_i c _ _ _ _ _
      cases (c == Value.type "enumerate") <;> (wp_walk using go; exact ⟨_, rfl, fin⟩)
    · wp_walk using go
      exact ⟨_, rfl, fin⟩
end
theorem enT_call {prog : Program} {w : World} {A : Around} {E : Value → Shared → Prop} {s : Shared} {b : Addr} {ys : Array Value} {Q : Value → Shared → Prop} (hb : s.heap.IsTuple b ys)
    (q : ∀ g, IsEnum g (s.heap.objs.size + 1) s.heap.objs.size 0 .none → g.IsTupleIter s.heap.objs.size b 0 → (∀ c o, s.heap.get? c = some o → g.get? c = some o) → Q (.ref (s.heap.objs.size + 1)) { s with heap := g }) :
    wpAny (model prog w) A (call (.type "enumerate") [.ref b]) Q E s := by
  refine callType_new F.called_enumerate (by decide) (F.typeCall_enumerate_1 _) (F.newCall_enumerate_1 _) (fun o => F.args_object_init_2 o _) F.entry_enumerate_new (enT_new b ys) ⟨hb, ?_⟩
  have e1 := Heap.get?_push_size (s.heap.push { cls := Value.type "tuple_iterator", data := Data.fields #[Value.ref b, Value.int 0 0] })
    (o := { cls := Value.type "enumerate", data := Data.fields #[Value.none, Value.bool false, Value.ref s.heap.objs.size, rawInt 0, Value.none, Value.none] }) rfl
  rw [show (s.heap.push { cls := Value.type "tuple_iterator", data := Data.fields #[Value.ref b, Value.int 0 0] }).objs.size = s.heap.objs.size + 1 from Heap.size_push ..] at e1
  exact ⟨⟨_, e1, rfl⟩, q _ e1 ⟨_, Heap.get?_push_of_some _ (Heap.get?_push_size _ rfl), rfl, rfl⟩ fun c o z => Heap.get?_push_of_some _ (Heap.get?_push_of_some _ z)⟩
def ItEt (K : PySem.W.Frag) (a : Addr) : It :=
  ⟨fun i H => ∃ (xs : List V) (x : V), SqT K H a xs ∧ xs[i]? = some x, fun i H v H' => ∃ T x, v = .ref T ∧ H T = none ∧ H' = upd H T (.tup [.int (i : Nat), x]) ∧ ∀ xs, SqT K H a xs → xs[i]? = some x, fun i H => ∃ xs : List V, SqT K H a xs ∧ i = xs.length⟩
theorem turn_enT {P : Program} {w : World} {K : PySem.W.Frag} {elts : List Expr} {kk : Nat} {tpos : Pos} (a e it : Addr) :
    Turn P w K (.Tuple elts kk tpos) (ItEt K a) [e, it] e (fun i h => (∃ old, IsEnum h e it ((i : Nat) : Int) old) ∧ h.IsTupleIter it a i ∧ e ≠ it ∧ e ≠ a ∧ a ≠ it) where
  mem := List.mem_cons_self
  obj := fun i h st b hb => by
    obtain ⟨⟨old, q⟩, ⟨o, ho, _, hd⟩, _⟩ := st
    rcases List.mem_cons.mp hb with z | z
    · rw [z]; exact ⟨_, q, fun v y => nomatch y⟩
    · exact ⟨o, by rw [List.mem_singleton.mp z]; exact ho, fun v y => by rw [hd] at y; cases y⟩
  keep := fun i h h' st k => ⟨st.1.imp fun old q => k e (by simp) _ q, st.2.1.at fun o q => k it (by simp) o q, st.2.2⟩
  item := by
    intro X hP hw hK hc i pins s σ H E I hf st hg
    subst hP hw hK
    obtain ⟨⟨old, he⟩, hit, n1, n2, n3⟩ := st
    obtain ⟨xs, x, hq, hx⟩ := hg
    obtain ⟨its, rv, p, hz⟩ := I.tuple hq
    obtain ⟨u, hu, ru⟩ := rv.get hx
    have sz : e < s.heap.objs.size ∧ it < s.heap.objs.size := ⟨Heap.lt_size he, by obtain ⟨_, z, _⟩ := hit; exact Heap.lt_size z⟩
    have lt : i < its.toArray.size := by
      obtain ⟨z, _⟩ := List.getElem?_eq_some_iff.mp hu
      simpa using z
    refine wpAny_pyNext_enum_itemD (Draws.tuple (A := X.A.in1) (I.ok.hd hc) it a n3 its.toArray) he ⟨hit, p⟩ lt n1 (by simp [n1, n2]) fun u' h' tk hP ho hit' hT _ hk => ?_
    obtain rfl : u' = u := by
      have : its.toArray[i]? = some u' := hP
      rw [List.getElem?_toArray, hu] at this
      exact (Option.some.inj this).symm
    refine ⟨_, rfl, wpAny_letOwnedTupleGo_enum (s := { s with heap := h', toks := tk + 1 }) ho fun h2 he' sb => ?_⟩
    have hT2 := (sb.2 _ (Nat.ne_of_gt sz.1)).trans hT
    have old' : ∀ b ob, b ∉ [e, it] → s.heap.get? b = some ob → h2.get? b = some ob := fun b ob hb q => by
      have w1 : b ≠ e := fun z => hb (by simp [z])
      have w2 : b ≠ it := fun z => hb (by simp [z])
      exact (sb.2 b w1).trans (hk b ob w1 w2 q)
    have okn : ObjOk X.prog X.w (upd H s.heap.objs.size (.tup [.int (i : Nat), x])) h2 s.heap.objs.size (.tup [.int (i : Nat), x]) := by
      refine ⟨?_, [.int i tk, u'], .cons ⟨_, rfl⟩ (.cons ru .nil), ⟨_, hT2, rfl, _, rfl⟩⟩
      show 2 ≤ sizeLine
      decide
    refine ⟨.ref s.heap.objs.size, _, I.turnedNew (t' := tk + 1) (ch := [e, it]) old' hf (Nat.le_refl _) okn, rfl, ⟨_, x, rfl, I.hok.fresh (Nat.le_refl _), rfl, fun ys hy => by rw [I.tuple_inj hy hq]; exact hx⟩, ⟨⟨u', ?_⟩, hit'.1.at fun o q => (sb.2 it (Ne.symm n1)).trans q, n1, n2, n3⟩, fun b hb => ?_⟩
    · rw [show ((i + 1 : Nat) : Int) = (i : Int) + 1 by omega]; exact he'
    · have lb : b < s.heap.objs.size := by
        rcases List.mem_cons.mp hb with z | z
        · rw [z]; exact sz.1
        · rw [List.mem_singleton.mp z]; exact sz.2
      rw [upd_ne (Nat.ne_of_lt lb)]
      exact (hf b hb).1
  done := by
    intro X hP hw hK hc i pins s σ H E I hf st hg
    subst hP hw hK
    obtain ⟨⟨old, he⟩, hit, n1, n2, n3⟩ := st
    obtain ⟨xs, hq, rfl⟩ := hg
    obtain ⟨its, rv, p, hz⟩ := I.tuple hq
    obtain ⟨f0, f1, f2, f3, f4, f5⟩ := hf it (by simp)
    have hl : xs.length = its.toArray.size := by rw [List.size_toArray]; exact rv.length
    rw [hl] at hit
    exact wpAny_pyNext_enum_endD (Draws.tuple (A := X.A.in1) (I.ok.hd hc) it a n3 its.toArray) he ⟨hit, p⟩ fun g eb => ⟨rfl, I.turned (t' := s.toks) (fun b o hb e => eb b o hb e) f0 f1 f3 f4 f5⟩
  self := fun A i s Q E st h => by
    obtain ⟨⟨_, q⟩, _⟩ := st
    exact wpAny_pyIter_enum q h
def EnT (K : PySem.W.Frag) (R : It → Hp → Prop) (vs : List V) (H : Hp) : Prop := ∃ a xs, vs = [.ref a] ∧ SqT K H a xs ∧ R (ItEt K a) H
def iEnT (K : PySem.W.Frag) (ta : TA) : TI := fun σ H R => ta σ H (EnT K R)
theorem pi_enT {X : Cx} {e : Expr} {ta : TA} {p pos tpos : Pos} {elts : List Expr} {kk : Nat} (hg : Gl X "enumerate") (hm : X.mg "enumerate" = none) (ha : PA X [e] ta) (hs : starEach [e] X.env = [(false, eval e X.env)] := by rfl) :
    PI X (.Tuple elts kk tpos) (.Call (.Name "enumerate" p) [e] [] pos) (iEnT X.K ta) := by
  refine ⟨fun pins s σ H R I h => ?_⟩
  refine Call_ (ld_blt I hg hm boot_enumerate (PyProof.Rows.callWith_type1 (thn (ha.run pos pins s σ H _ I h) fun us t ⟨vs, H1, J, r1, q1⟩ => ?_) hs rfl))
  obtain ⟨a, xs, rfl, hq, q⟩ := q1
  obtain ⟨u, rfl, ru⟩ := vals1 r1
  obtain rfl : u = Value.ref a := ru
  obtain ⟨its, rv, pt, hz⟩ := J.tuple hq
  have la : a < t.heap.objs.size := by obtain ⟨_, z, _⟩ := pt; exact Heap.lt_size z
  refine enT_call (show t.heap.IsTuple a its.toArray from pt) fun g he hit hk => wpAny_pyIter_enum he ?_
  refine ⟨t.heap.objs.size + 1, [t.heap.objs.size + 1, t.heap.objs.size], _, _, H1, rfl, J.kept (t' := t.toks) hk, turn_enT a (t.heap.objs.size + 1) t.heap.objs.size, ⟨⟨.none, he⟩, hit, Nat.succ_ne_self _, ?_, Nat.ne_of_lt la⟩, fun b hb => ?_, q⟩
  · exact Nat.ne_of_gt (Nat.lt_succ_of_lt la)
  · have le : t.heap.objs.size ≤ b := by
      rcases List.mem_cons.mp hb with z | z
      · rw [z]; exact Nat.le_succ _
      · rw [List.mem_singleton.mp z]; exact Nat.le_refl _
    exact J.fpOk le (J.hok.fresh le)
section
variable {K : PySem.W.Frag}
theorem walk_enT {a : Addr} {xs : List V} : Walk (ItEt K a) xs.length (fun H => SqT K H a xs) (YPair (fun i => some (.int (i : Nat))) (fun i => xs[i]?)) where
  goes := fun i H hi h => ⟨xs, xs[i], h, List.getElem?_eq_getElem hi⟩
  stops := fun H h => ⟨xs, h, rfl⟩
  yields := fun i H x H' _ h y => by
    obtain ⟨T, y1, e1, e2, e3, e4⟩ := y
    exact ⟨T, _, y1, e1, e2, e3, rfl, e4 xs h⟩
theorem r_ient {ta : TA} {σ : L2.St} {H : Hp} {R : It → Hp → Prop} (h : ta σ H (EnT K R)) : iEnT K ta σ H R := h
theorem r_ent {R : It → Hp → Prop} {a : Addr} {xs : List V} {H : Hp} (e : SqT K H a xs) (h : R (ItEt K a) H) : EnT K R [.ref a] H := ⟨a, xs, rfl, e, h⟩
end
local macro_rules | `(tactic| walk_at "st1") => `(tactic| first
  | with_reducible refine r_par ?_
  | with_reducible refine r_parx ?_
  | ((with_reducible refine' r_gtup ?e1 ?e2 ?_); (case e1 => walk_at "sq"); (case e2 => rfl))
  | with_reducible refine r_gcons ?_
  | with_reducible refine r_gnil ?_
  | with_reducible refine r_ient ?_
  | ((with_reducible refine' r_ent ?e1 ?_); (case e1 => walk_at "sq")))
theorem firstL_is : ∀ {ns : List Int} {i : Nat}, i < ns.length → (∀ j, j < i → vec ns j = 0) → vec ns i ≠ 0 → firstL ns = i
  | n :: l, 0, _, _, h => by
    have h : n ≠ 0 := h
    show (if n ≠ 0 then 0 else firstL l + 1) = 0
    rw [if_pos h]
  | n :: l, i + 1, lt, z, h => by
    have h0 : n = 0 := z 0 (Nat.succ_pos _)
    show (if n ≠ 0 then 0 else firstL l + 1) = i + 1
    rw [if_neg (fun q => q h0), firstL_is (Nat.lt_of_succ_lt_succ lt) (fun j hj => z (j + 1) (Nat.succ_lt_succ hj)) h]
theorem firstL_all : ∀ {ns : List Int}, (∀ j, j < ns.length → vec ns j = 0) → firstL ns = ns.length
  | [], _ => rfl
  | n :: l, z => by
    have h0 : n = 0 := z 0 (Nat.succ_pos _)
    show (if n ≠ 0 then 0 else firstL l + 1) = l.length + 1
    rw [if_neg (fun q => q h0), firstL_all fun j hj => z (j + 1) (Nat.succ_lt_succ hj)]
def sp_first_place (_ : PySem.W.Frag) : Sp := fun vs H Q _ => ∃ (a : Addr) (ns : List Int), vs = [.ref a] ∧ H a = some (.tup (ns.map .int)) ∧ ns.length ≤ 1000 ∧ ∀ H', Same H H' → Q (.int (firstL ns)) H'
def sp_times_row (_ : PySem.W.Frag) : Sp := fun vs H Q _ => ∃ (a : Addr) (ns : List Int) (k p : Int), vs = [.ref a, .int k, .int p] ∧ H a = some (.tup (ns.map .int)) ∧ ns.length ≤ 1000 ∧ (2 ≤ p ∧ p ≤ 997) ∧ (∀ x ∈ ns, 0 ≤ x ∧ x < p) ∧ (0 ≤ k ∧ k < p) ∧
  ∀ (c : Addr) (H' : Hp), Same H H' → H' c = some (.tup ((timesL p ns k).map .int)) → Q (.ref c) H'
def sp_less (_ : PySem.W.Frag) : Sp := fun vs H Q _ => ∃ (a b : Addr) (ns ms : List Int) (k p : Int), vs = [.ref a, .ref b, .int k, .int p] ∧ H a = some (.tup (ns.map .int)) ∧ H b = some (.tup (ms.map .int)) ∧ ns.length ≤ 1000 ∧ (2 ≤ p ∧ p ≤ 997) ∧ (∀ x ∈ ms, 0 ≤ x ∧ x < p) ∧ (0 ≤ k ∧ k < p) ∧
  ∀ (c : Addr) (H' : Hp), Same H H' → H' c = some (.tup ((lessL p ns ms k).map .int)) → Q (.ref c) H'
section
variable {P : Program} {w : World} {K : PySem.W.Frag} {mg : Str → Option Value} {base : Heap}
theorem ok_first_place (T : Tx K mg)  {f : Addr} {fd : FuncData} (F : Here K mg "first_place" s_first_place ["row"] f fd) : Cal P w K mg base "first_place" 1 ["row"] (sp_first_place K) s_first_place f fd := by
  refine F.cal sc_first_place (fun vs H Q E h => ?_) (fun cdv A outer s H vs Q E hr h => ?_)
  · obtain ⟨a, ns, rfl, _⟩ := h
    rfl
  · obtain ⟨a, ns, rfl, ha, hlen, q⟩ := h
    refine ⟨_, (pss_cons (ps_for PassesOwn.never rfl (castPI (K := K) (wi := fun K => iEnT K _) (pi_enT (by rfl) T.m_enumerate (pa_cons (pv 0) pa_nil))) (castPG (K := K) (n := 2) (pg_tup rfl (pgs_cons (pg_name (i := 1) sc_first_place.nd rfl (by first | exact .inl rfl | exact .inr rfl)) (pgs_cons (pg_name (i := 2) sc_first_place.nd rfl (by first | exact .inl rfl | exact .inr rfl)) pgs_nil)))) (pss_one (ps_if (pt_cmpR op_ne (pv 2) pe_int (nomark _)) (pss_one (ps_ret (pv 1))) pss_nil)))
      (pss_one (ps_ret (pe_callB (cr_lenK (K := K)) (by rfl) T.m_len (by decide +kernel) (pa_cons (pv 0) pa_nil))))), ?_⟩
    walk_at "st"
    refine lp_by (walk_enT (xs := ns.map V.int)) (fun i σ' H' => ∃ x1 x2, σ' = [some (.ref a), x1, x2] ∧ Same H H' ∧ ∀ j, j < i → vec ns j = 0) ⟨none, none, rfl, Same.refl _, fun j z => absurd z (Nat.not_lt_zero j)⟩ (fun i σ' H' _ p => ?_) (fun i x σ' H2 H3 hi p y => ?_) (fun σ' H2 p => ?_)
    · obtain ⟨_, _, _, sm, _⟩ := p
      exact SqT.of (sm _ _ ha)
    · obtain ⟨x1, x2, rfl, sm, z⟩ := p
      obtain ⟨t, u, v, rfl, nt, rfl, eu, ev⟩ := y
      obtain rfl : u = .int (i : Nat) := by injection eu with eu; exact eu.symm
      obtain ⟨n, en, rfl⟩ := getElem?_map_int ev
      have sm2 : Same H (upd H2 t (.tup [.int (i : Nat), .int n])) := by walk_at "sm"
      have vn : vec ns i = n := by unfold vec; rw [List.getD_eq_getElem?_getD, en]; rfl
      have il : i < ns.length := by rw [List.length_map] at hi; exact hi
      walk_at "st"
      walk_at "if"
      refine r_iteB (fun h0 => ?_) (fun h0 => ?_)
      · walk_at "st"
        have : vec ns i ≠ 0 := by rw [vn]; intro e; rw [e] at h0; simp at h0
        have e := q _ sm2
        rw [firstL_is il z this] at e
        exact e
      · walk_at "st"
        refine ⟨_, _, rfl, sm2, fun j hj => ?_⟩
        rcases Nat.lt_succ_iff_lt_or_eq.mp hj with c | c
        · exact z j c
        · rw [c, vn]
          simpa using h0
    · obtain ⟨x1, x2, rfl, sm, z⟩ := p
      have ha2 := sm _ _ ha
      walk_at "st"
      have := q H2 sm
      rw [firstL_all fun j hj => z j (by rw [List.length_map]; exact hj)] at this
      rw [List.length_map]
      exact this
theorem ok_times_row (T : Tx K mg)  {f : Addr} {fd : FuncData} (F : Here K mg "times_row" s_times_row ["row", "k", "p"] f fd) : Cal P w K mg base "times_row" 1 ["row", "k", "p"] (sp_times_row K) s_times_row f fd := by
  refine F.cal sc_times_row (fun vs H Q E h => ?_) (fun cdv A outer s H vs Q E hr h => ?_)
  · obtain ⟨a, ns, k, p, rfl, _⟩ := h
    rfl
  · obtain ⟨a, ns, k, p, rfl, ha, hlen, hp, hns, hk, q⟩ := h
    refine ⟨_, (pss_one (ps_ret (pe_callTy (cr_tupOfK (K := K)) (by rfl) T.m_tuple (by decide +kernel) (pa_cons (pe_lc rfl sc_times_row.nd (pi_tupK (K := K) (pv 0)) (blkOk_by (own := [("n", 3)]) (N := ["row", "k", "p", "n"]) (sc := (defScope s_times_row)) (by decide +kernel)) (fun _ _ _ _ _ => (pg_name (i := 3) sc_times_row.nd rfl (by first | exact .inl rfl | exact .inr rfl))) (fun _ _ _ _ _ => pts_nil) (fun _ _ _ _ _ => (pe_op op_mod (pe_op op_mul (pv 3) (pv 1)) (pv 2)))) pa_nil)))), ?_⟩
    walk_at "st"
    intro D hD
    refine lc_map (walk_tup (xs := ns.map V.int)) (by rw [List.length_map]; omega) hD (fun i y _ => ∃ m, (timesL p ns k)[i]? = some m ∧ y = .int m) (fun _ _ _ _ h _ => h) (fun _ _ _ _ _ h _ => h) (fun H' k => SqT.of (k _ _ ha)) (fun i H1 x H2 y => by rw [y.1]; exact Same.refl _)
      (fun i x H1 H2 Y No hi sm y hY => ?_) (fun ys H' el sm eD hys => ?_)
    · obtain ⟨rfl, ex⟩ := y
      obtain ⟨m, em, rfl⟩ := getElem?_map_int ex
      have hm := hns m (List.mem_of_getElem? em)
      refine ⟨rfl, ?_⟩
      walk_at "st"
      refine hY _ _ (Same.refl _) ⟨_, ?_, rfl⟩
      unfold timesL
      rw [List.getElem?_map, em]; rfl
    · obtain rfl := list_ext_int (ms := timesL p ns k) (by rw [el, List.length_map]; unfold timesL; rw [List.length_map]) hys
      walk_at "st"
      intro c hc
      exact q c _ (by walk_at "sm") upd_same
theorem ok_less (T : Tx K mg)  {f : Addr} {fd : FuncData} (F : Here K mg "less" s_less ["row", "base", "k", "p"] f fd) : Cal P w K mg base "less" 1 ["row", "base", "k", "p"] (sp_less K) s_less f fd := by
  refine F.cal sc_less (fun vs H Q E h => ?_) (fun cdv A outer s H vs Q E hr h => ?_)
  · obtain ⟨a, b, ns, ms, k, p, rfl, _⟩ := h
    rfl
  · obtain ⟨a, b, ns, ms, k, p, rfl, ha, hb, hlen, hp, hms, hk, q⟩ := h
    refine ⟨_, (pss_cons (ps_if (pt_cmpR op_eq (pv 2) pe_int (nomark _)) (pss_one (ps_ret (pv 0))) pss_nil)
      (pss_one (ps_ret (pe_callTy (cr_tupOfK (K := K)) (by rfl) T.m_tuple (by decide +kernel) (pa_cons (pe_lc rfl sc_less.nd (castPI (K := K) (wi := fun K => iZipA K _) (pi_zipA (by rfl) T.m_zip (pa_cons (pv 0) (pa_cons (pv 1) pa_nil)))) (blkOk_by (own := [("n", 4), ("m", 5)]) (N := ["row", "base", "k", "p", "n", "m"]) (sc := (defScope s_less)) (by decide +kernel)) (fun _ _ _ _ _ => (castPG (K := K) (n := 2) (pg_tup rfl (pgs_cons (pg_name (i := 4) sc_less.nd rfl (by first | exact .inl rfl | exact .inr rfl)) (pgs_cons (pg_name (i := 5) sc_less.nd rfl (by first | exact .inl rfl | exact .inr rfl)) pgs_nil))))) (fun _ _ _ _ _ => pts_nil) (fun _ _ _ _ _ => (pe_op op_mod (pe_op op_sub (pv 4) (pe_op op_mul (pv 2) (pv 5))) (pv 3)))) pa_nil))))), ?_⟩
    walk_at "st"
    walk_at "if"
    refine r_ite (fun h0 => ?_) (fun h0 => ?_)
    · walk_at "st"
      have k0 : k = 0 := by simpa using h0
      refine q a H (Same.refl _) ?_
      unfold lessL
      rw [if_pos k0]; exact ha
    · walk_at "st"
      intro D hD
      have k0 : ¬ k = 0 := by simpa using h0
      have eL : lessL p ns ms k = List.zipWith (fun n m => (n - k * m) % p) ns ms := by unfold lessL; rw [if_neg k0]
      rw [eL] at q
      refine lc_map (walk_zipT (xs := ns.map V.int) (ys := ms.map V.int) rfl) (by rw [List.length_map]; omega) hD (fun i y _ => ∃ m, (List.zipWith (fun n m => (n - k * m) % p) ns ms)[i]? = some m ∧ y = .int m) (fun _ _ _ _ h _ => h) (fun _ _ _ _ _ h _ => h) (fun H' k => ⟨SqT.of (k _ _ ha), SqT.of (k _ _ hb)⟩) (fun i H1 x H2 y => ?_)
        (fun i x H1 H2 Y No hi sm y hY => ?_) (fun ys H' el sm eD hys => ?_)
      · obtain ⟨t, x1, y1, rfl, nt, rfl, _⟩ := y
        exact Same.upd_new nt
      · obtain ⟨t, x1, y1, rfl, nt, rfl, e1, e2⟩ := y
        obtain ⟨m1, em1, rfl⟩ := getElem?_map_int e1
        obtain ⟨m2, em2, rfl⟩ := getElem?_map_int e2
        have hm2 := hms m2 (List.mem_of_getElem? em2)
        refine ⟨t, [.int m1, .int m2], rfl, .inl (.inl upd_same), rfl, _, _, rfl, _, _, rfl, rfl, rfl, ?_⟩
        walk_at "st"
        refine hY _ _ (Same.refl _) ⟨_, ?_, rfl⟩
        rw [List.getElem?_zipWith, em1, em2]
      · obtain rfl := list_ext_int (ms := List.zipWith (fun n m => (n - k * m) % p) ns ms) (by rw [el, List.length_zipWith, List.length_map, List.length_map]) hys
        walk_at "st"
        intro c hc
        exact q c _ (by walk_at "sm") upd_same
end
local macro_rules | `(tactic| walk_at "st1") => `(tactic| first
  | with_reducible refine r_par ?_
  | with_reducible refine r_parx ?_
  | ((with_reducible refine' r_gtup ?e1 ?e2 ?_); (case e1 => walk_at "sq"); (case e2 => rfl))
  | with_reducible refine r_gcons ?_
  | with_reducible refine r_gnil ?_
  | with_reducible refine r_ient ?_
  | ((with_reducible refine' r_ent ?e1 ?_); (case e1 => walk_at "sq")))
def PB (H : Hp) (v : V) (x : Nat × List Int) : Prop := ∃ t c, v = .ref t ∧ H t = some (.tup [.int x.1, .ref c]) ∧ H c = some (.tup (x.2.map .int))
def Bs (H : Hp) (us : List V) (B : List (Nat × List Int)) : Prop := us.length = B.length ∧ ∀ (i : Nat) (v : V), us[i]? = some v → ∃ x, B[i]? = some x ∧ PB H v x
theorem PB.same {H H' : Hp} {v : V} {x : Nat × List Int} (h : PB H v x) (k : Same H H') : PB H' v x := by
  obtain ⟨t, c, e, h1, h2⟩ := h
  exact ⟨t, c, e, k _ _ h1, k _ _ h2⟩
theorem Bs.same {H H' : Hp} {us : List V} {B : List (Nat × List Int)} (h : Bs H us B) (k : Same H H') : Bs H' us B :=
  ⟨h.1, fun i v e => (h.2 i v e).imp fun _ y => ⟨y.1, y.2.same k⟩⟩
section
variable {p : Int} {w : Nat}
theorem restL_app : ∀ (B C : List (Nat × List Int)) (row : List Int), restL p row (B ++ C) = restL p (restL p row B) C
  | [], _, _ => rfl
  | x :: B, C, row => restL_app B C _
theorem restL_row (hp : 0 < p) : ∀ (B : List (Nat × List Int)) (row : List Int), Row p w row → (∀ x ∈ B, Row p w x.2) → Row p w (restL p row B)
  | [], _, r, _ => r
  | x :: B, row, r, h => restL_row hp B _ (r.less (h x List.mem_cons_self) hp) fun y hy => h y (List.mem_cons_of_mem _ hy)
end
def sp_rest_of (_ : PySem.W.Frag) : Sp := fun vs H Q _ => ∃ (a l : Addr) (p : Int) (w : Nat) (ns : List Int) (us : List V) (B : List (Nat × List Int)), vs = [.ref a, .ref l, .int p] ∧ H a = some (.tup (ns.map .int)) ∧ H l = some (.lst us) ∧ Bs H us B ∧
  (2 ≤ p ∧ p ≤ 997) ∧ w ≤ 1000 ∧ Row p w ns ∧ (∀ x ∈ B, Row p w x.2 ∧ x.1 < w) ∧ ∀ (c : Addr) (H' : Hp), Same H H' → H' c = some (.tup ((restL p ns B).map .int)) → Q (.ref c) H'
section
variable {P : Program} {w : World} {K : PySem.W.Frag} {mg : Str → Option Value} {base : Heap}
theorem ok_rest_of (T : Tx K mg) {f_less : Addr} {fd_less : FuncData} (C_less : Cal P w K mg base "less" 1 ["row", "base", "k", "p"] (sp_less K) s_less f_less fd_less) {f : Addr} {fd : FuncData} (F : Here K mg "rest_of" s_rest_of ["row", "bases", "p"] f fd) : Cal P w K mg base "rest_of" 2 ["row", "bases", "p"] (sp_rest_of K) s_rest_of f fd := by
  refine F.cal sc_rest_of (fun vs H Q E h => ?_) (fun cdv A outer s H vs Q E hr h => ?_)
  · obtain ⟨a, l, p, w, ns, us, B, rfl, _⟩ := h
    rfl
  · obtain ⟨a, l, p, w, ns, us, B, rfl, ha, hl, hB, hp, hw, rn, rB, q⟩ := h
    have p0 : 0 < p := by omega
    refine ⟨_, (pss_cons (ps_set (i := 3) sc_rest_of.nd rfl (by first | exact .inl rfl | exact .inr rfl) (pv 0))
      (pss_cons (ps_for PassesOwn.never rfl (pi_listK (K := K) (pv 1)) (castPG (K := K) (n := 2) (pg_tup rfl (pgs_cons (pg_name (i := 4) sc_rest_of.nd rfl (by first | exact .inl rfl | exact .inr rfl)) (pgs_cons (pg_name (i := 5) sc_rest_of.nd rfl (by first | exact .inl rfl | exact .inr rfl)) pgs_nil)))) (pss_one (ps_set (i := 3) sc_rest_of.nd rfl (by first | exact .inl rfl | exact .inr rfl) (pe_call C_less.ok (hr.mono (by decide)) (by rfl) C_less.at_ C_less.kp C_less.b .nil pass0 (pa_cons (pv 3) (pa_cons (pv 5) (pa_cons (pe_ix (ix_tupK (K := K)) (pv 3) (pv 4) (fun _ _ => rfl)) (pa_cons (pv 2) pa_nil))))))))
      (pss_one (ps_ret (pv 3))))), ?_⟩
    walk_at "st"
    refine lp_by (walk_list (xs := us)) (fun i σ' H' => ∃ c x1 x2, σ' = [some (.ref a), some (.ref l), some (.int p), some (.ref c), x1, x2] ∧ Same H H' ∧ H' c = some (.tup ((restL p ns (B.take i)).map .int))) ⟨a, none, none, rfl, Same.refl _, ha⟩ (fun i σ' H' _ p => ?_) (fun i x σ' H2 H3 hi p2 y => ?_) (fun σ' H2 p2 => ?_)
    · obtain ⟨_, _, _, _, sm, _⟩ := p
      exact SqL.of (sm _ _ hl)
    · obtain ⟨c, x1, x2, rfl, sm, ec⟩ := p2
      obtain ⟨rfl, ex⟩ := y
      obtain ⟨b, eb, pb⟩ := hB.2 i x ex
      obtain ⟨t, d, rfl, ht, hd⟩ := pb.same sm
      obtain ⟨rb, lb⟩ := rB b (List.mem_of_getElem? eb)
      have rc : Row p w (restL p ns (B.take i)) := restL_row p0 _ _ rn fun x hx => (rB x (List.mem_of_mem_take hx)).1
      have step : restL p ns (B.take (i + 1)) = lessL p (restL p ns (B.take i)) b.2 (vec (restL p ns (B.take i)) b.1) := by
        rw [List.take_succ, eb, restL_app]; rfl
      generalize hcur : restL p ns (B.take i) = cur at *
      have hv := rc.at p0 b.1
      have hix := atI_vec (l := cur) (a := b.1) (by rw [rc.len]; exact lb)
      walk_at "st"
      refine ⟨c, d, cur, b.2, vec cur b.1, p, rfl, ec, hd, by rw [rc.len]; exact hw, hp, rb.num, hv, fun c2 H4 sm4 e4 => ?_⟩
      walk_at "st"
      refine ⟨c2, _, _, rfl, by walk_at "sm", ?_⟩
      rw [step]; exact e4
    · obtain ⟨c, x1, x2, rfl, sm, ec⟩ := p2
      walk_at "st"
      rw [List.take_of_length_le (Nat.le_of_eq hB.1.symm)] at ec
      exact q c H2 sm ec
end
local macro_rules | `(tactic| walk_at "st1") => `(tactic| first
  | with_reducible refine r_par ?_
  | with_reducible refine r_parx ?_
  | ((with_reducible refine' r_gtup ?e1 ?e2 ?_); (case e1 => walk_at "sq"); (case e2 => rfl))
  | with_reducible refine r_gcons ?_
  | with_reducible refine r_gnil ?_
  | with_reducible refine r_ient ?_
  | ((with_reducible refine' r_ent ?e1 ?_); (case e1 => walk_at "sq")))
def primes5 : List Int := [2, 3, 5, 97, 997]
theorem facts5 : primes5.all (fun q => (List.range q.toNat).all fun n => n == 0 || (Nat.gcd q.toNat n == 1 && n * (n ^ (q.toNat - 2) % q.toNat) % q.toNat == 1)) = true := by decide +kernel
theorem fact5 {q n : Int} (hq : q ∈ primes5) (h : 1 ≤ n ∧ n < q) : Nat.gcd q.toNat n.toNat = 1 ∧ n.toNat * (n.toNat ^ (q.toNat - 2) % q.toNat) % q.toNat = 1 := by
  have h1 := List.all_eq_true.mp (List.all_eq_true.mp facts5 q hq) n.toNat (List.mem_range.mpr (by omega))
  have h2 : (n.toNat == 0) = false := by
    have : n.toNat ≠ 0 := by omega
    simpa using this
  rw [h2, Bool.false_or, Bool.and_eq_true] at h1
  exact ⟨eq_of_beq h1.1, eq_of_beq h1.2⟩
theorem prime5_le {q : Int} (hq : q ∈ primes5) : 2 ≤ q ∧ q ≤ 997 := by
  have := List.all_eq_true.mp (show primes5.all (fun q => decide (2 ≤ q) && decide (q ≤ 997)) = true by decide) q hq
  simpa using this
theorem inv5 {q : Int} (hq : q ∈ primes5) : InvOk q fun n => ((n.toNat ^ (q.toNat - 2) % q.toNat : Nat) : Int) where
  ok := fun n h0 h1 => by
    have e := (fact5 hq ⟨h0, h1⟩).2
    have q2 := prime5_le hq
    have e1 : n = (n.toNat : Int) := by omega
    have e2 : q = (q.toNat : Int) := by omega
    generalize n.toNat ^ (q.toNat - 2) % q.toNat = y at *
    rw [e1, e2]
    have := congrArg (fun k : Nat => (k : Int)) e
    rw [← Int.natCast_mul, ← Int.natCast_emod]
    exact this
/-- any number that does it here, the powers elsewhere -/
theorem inv5_at {q n b : Int} (hq : q ∈ primes5) (h : b * n % q = 1) : ∃ inv, InvOk q inv ∧ inv n = b :=
  ⟨fun m => if m = n then b else ((m.toNat ^ (q.toNat - 2) % q.toNat : Nat) : Int), ⟨fun m h0 h1 => by
    by_cases c : m = n
    · rw [if_pos c, c, Int.mul_comm]; exact h
    · rw [if_neg c]; exact (inv5 hq).ok m h0 h1⟩, if_pos rfl⟩
def rdR (H : Hp) : V → List Int
  | .ref c => match H c with
    | some (.tup xs) => xs.map fun x => match x with | .int n => n | _ => 0
    | _ => []
  | _ => []
def rdP (H : Hp) : V → Nat × List Int
  | .ref t => match H t with
    | some (.tup [.int i, v]) => (i.toNat, rdR H v)
    | _ => (0, [])
  | _ => (0, [])
theorem RowV.rd {H : Hp} {v : V} {r : List Int} (h : RowV H v r) : rdR H v = r := by
  obtain ⟨c, rfl, hc⟩ := h
  unfold rdR
  simp only [hc, List.map_map]
  exact List.map_id _
theorem PB.rd {H : Hp} {v : V} {x : Nat × List Int} (h : PB H v x) : rdP H v = x := by
  obtain ⟨t, c, rfl, ht, hc⟩ := h
  unfold rdP
  simp only [ht]
  rw [RowV.rd ⟨c, rfl, hc⟩]
  rfl
theorem Bs.rd {H : Hp} {us : List V} {B : List (Nat × List Int)} (h : Bs H us B) : B = us.map (rdP H) := by
  refine List.ext_getElem (by rw [List.length_map, h.1]) fun i h1 h2 => ?_
  have h3 : i < us.length := by rw [h.1]; exact h1
  obtain ⟨x, ex, px⟩ := h.2 i _ (List.getElem?_eq_getElem h3)
  rw [List.getElem_map, px.rd]
  rw [List.getElem?_eq_getElem h1] at ex
  exact Option.some.inj ex
theorem Bs.mem {H : Hp} {us : List V} {B : List (Nat × List Int)} (h : Bs H us B) {v : V} (m : v ∈ us) : PB H v (rdP H v) := by
  obtain ⟨i, e⟩ := List.getElem?_of_mem m
  obtain ⟨x, _, px⟩ := h.2 i v e
  rw [px.rd]; exact px
theorem Bs.of {H : Hp} {us : List V} (h : ∀ v ∈ us, PB H v (rdP H v)) : Bs H us (us.map (rdP H)) :=
  ⟨by rw [List.length_map], fun i v e => ⟨_, by rw [List.getElem?_map, e]; rfl, h v (List.mem_of_getElem? e)⟩⟩
theorem Bs.snoc {H : Hp} {us : List V} {B : List (Nat × List Int)} {v : V} {x : Nat × List Int} (h : Bs H us B) (p : PB H v x) : Bs H (us ++ [v]) (B ++ [x]) := by
  refine ⟨by simp [h.1], fun i u e => ?_⟩
  by_cases lt : i < us.length
  · rw [List.getElem?_append_left lt] at e
    rw [List.getElem?_append_left (by rw [← h.1]; exact lt)]
    exact h.2 i u e
  · rw [List.getElem?_append_right (by omega)] at e
    rw [List.getElem?_append_right (by rw [← h.1]; omega), ← h.1]
    cases hk : i - us.length with
    | zero => rw [hk] at e; exact ⟨x, rfl, by rw [← Option.some.inj (show some v = some u from e)]; exact p⟩
    | succ k => rw [hk] at e; simp at e
section
variable {p : Int} {w : Nat}
theorem RedL.perm {B C : List (Nat × List Int)} (h : RedL p w B) (q : C.Perm B) : RedL p w C where
  row := fun x m => h.row x (q.mem_iff.mp m)
  one := fun x m => h.one x (q.mem_iff.mp m)
  low := fun x m => h.low x (q.mem_iff.mp m)
  off := fun x m y n => h.off x (q.mem_iff.mp m) y (q.mem_iff.mp n)
  nd := (q.map _).nodup_iff.mpr h.nd
theorem Sp0.perm {L M : List Vec} (h : ∀ r ∈ L, r ∈ M) {v : Vec} (s : Sp0 p L v) : Sp0 p M v := s.trans fun r m => .of (h r m)
theorem rise_of {B : List (Nat × List Int)} (nd : (B.map (·.1)).Nodup) (le : B.Pairwise (fun x y => x.1 ≤ y.1)) : (B.map (·.1)).Pairwise (· < ·) := by
  have h2 : B.Pairwise (fun x y => x.1 ≠ y.1) := List.pairwise_map.mp nd
  refine List.pairwise_map.mpr ((le.and h2).imp fun {x y} z => ?_)
  have := z.1
  have := z.2
  omega
end
local macro_rules | `(tactic| walk_at "st1") => `(tactic| first
  | with_reducible refine r_par ?_
  | with_reducible refine r_parx ?_
  | ((with_reducible refine' r_gtup ?e1 ?e2 ?_); (case e1 => walk_at "sq"); (case e2 => rfl))
  | with_reducible refine r_gcons ?_
  | with_reducible refine r_gnil ?_
  | with_reducible refine r_ient ?_
  | ((with_reducible refine' r_ent ?e1 ?_); (case e1 => walk_at "sq")))
local macro_rules | `(tactic| walk_at "st1") => `(tactic| first
  | with_reducible refine r_izx ?_
  | with_reducible refine r_isq ?_
  | ((with_reducible refine' r_zxt ?e1 ?e2 ?_); (case e1 => walk_at "sq"); (case e2 => walk_at "sq"))
  | ((with_reducible refine' r_zxm ?e1 ?e2 ?_); (case e1 => walk_at "sq"); (case e2 => walk_at "sq"))
  | ((with_reducible refine' r_sqt ?e1 ?_); (case e1 => walk_at "sq"))
  | ((with_reducible refine' r_sql ?e1 ?_); (case e1 => walk_at "sq")))
/-- what a reduced list is, of some rows -/
structure Rdc (p : Int) (w : Nat) (rows : List (List Int)) (B : List (Nat × List Int)) : Prop where
  red : RedL p w B
  rise : (B.map (·.1)).Pairwise (· < ·)
  sp : ∀ v, Sp0 p (B.map fun x => vec x.2) v ↔ Sp0 p (rows.map vec) v
def sp_reduced (_ : PySem.W.Frag) : Sp := fun vs H Q _ => ∃ (a : Addr) (p : Int) (w : Nat) (us : List V) (rows : List (List Int)), vs = [.ref a, .int p] ∧ (H a = some (.tup us) ∨ H a = some (.lst us)) ∧ Rws H us rows ∧
  p ∈ primes5 ∧ w ≤ 1000 ∧ rows.length ≤ 1000 ∧ (∀ r ∈ rows, Row p w r) ∧ ∀ (c : Addr) (zs : List V) (B : List (Nat × List Int)) (H' : Hp), Same H H' → H c = none → H' c = some (.tup zs) → Rws H' zs (B.map (·.2)) → B.length ≤ rows.length → Rdc p w rows B → Q (.ref c) H'
theorem r_sortI {K : PySem.W.Frag} {a : Addr} {xs : List V} {k : V → Int} {H : Hp} {Q : VK} (h : SqL K H a xs) (h1 : ∀ x ∈ xs, ∃ t y, x = V.ref t ∧ H t = some (.tup [.int (k x), y])) (h2 : ∀ x ∈ xs, ∀ y ∈ xs, k x = k y → x = y)
    (q : ∀ ys p, ys.Perm xs → ys.Pairwise (fun x y => k x ≤ k y) → H p = none → Q (.ref p) (upd H p (.lst ys))) : rSortI K [.ref a] H Q := ⟨a, xs, k, rfl, h, h1, h2, q⟩
theorem r_cat {l b : Addr} {xs zs : List V} {H : Hp} {Q : VK} (h1 : H l = some (.lst xs)) (h2 : H b = some (.lst zs)) (z : xs.length + zs.length ≤ sizeLine) (q : ∀ p, H p = none → Q (.ref p) (upd H p (.lst (xs ++ zs)))) : rCat (.ref l) (.ref b) H Q := ⟨l, b, xs, zs, rfl, rfl, h1, h2, z, q⟩
section
variable {P : Program} {w : World} {K : PySem.W.Frag} {mg : Str → Option Value} {base : Heap}
theorem ok_reduced (T : Tx K mg) {f_rest_of : Addr} {fd_rest_of : FuncData} (C_rest_of : Cal P w K mg base "rest_of" 2 ["row", "bases", "p"] (sp_rest_of K) s_rest_of f_rest_of fd_rest_of) {f_first_place : Addr} {fd_first_place : FuncData} (C_first_place : Cal P w K mg base "first_place" 1 ["row"] (sp_first_place K) s_first_place f_first_place fd_first_place) {f_times_row : Addr} {fd_times_row : FuncData} (C_times_row : Cal P w K mg base "times_row" 1 ["row", "k", "p"] (sp_times_row K) s_times_row f_times_row fd_times_row) {f_inverse : Addr} {fd_inverse : FuncData} (C_inverse : Cal P w K mg base "inverse" 1 ["n", "p"] (sp_inverse K) s_inverse f_inverse fd_inverse) {f_less : Addr} {fd_less : FuncData} (C_less : Cal P w K mg base "less" 1 ["row", "base", "k", "p"] (sp_less K) s_less f_less fd_less) {f : Addr} {fd : FuncData} (F : Here K mg "reduced" s_reduced ["rows", "p"] f fd) : Cal P w K mg base "reduced" 3 ["rows", "p"] (sp_reduced K) s_reduced f fd := by
  refine F.cal sc_reduced (fun vs H Q E h => ?_) (fun cdv A outer s H vs Q E hr h => ?_)
  · obtain ⟨a, p, w, us, rows, rfl, _⟩ := h
    rfl
  · obtain ⟨a, p, w, us, rows, rfl, ha, hR, hp5, hw, hlen, rr, q⟩ := h
    have hp := prime5_le hp5
    have p0 : 0 < p := by omega
    refine ⟨_, (pss_cons (ps_set (i := 2) sc_reduced.nd rfl (by first | exact .inl rfl | exact .inr rfl) (pe_lst pa_nil))
      (pss_cons (ps_for PassesOwn.never rfl (pi_sqK (K := K) (pv 0)) (pg_name (i := 3) sc_reduced.nd rfl (by first | exact .inl rfl | exact .inr rfl)) (pss_cons (ps_set (i := 4) sc_reduced.nd rfl (by first | exact .inl rfl | exact .inr rfl) (pe_call C_rest_of.ok (hr.mono (by decide)) (by rfl) C_rest_of.at_ C_rest_of.kp C_rest_of.b .nil pass0 (pa_cons (pv 3) (pa_cons (pv 2) (pa_cons (pv 1) pa_nil)))))
      (pss_cons (ps_set (i := 5) sc_reduced.nd rfl (by first | exact .inl rfl | exact .inr rfl) (pe_call C_first_place.ok (hr.mono (by decide)) (by rfl) C_first_place.at_ C_first_place.kp C_first_place.b .nil pass0 (pa_cons (pv 4) pa_nil)))
      (pss_one (ps_if (pt_cmpR op_lt (pv 5) (pe_callB (cr_lenK (K := K)) (by rfl) T.m_len (by decide +kernel) (pa_cons (pv 4) pa_nil)) (nomark _)) (pss_cons (ps_set (i := 6) sc_reduced.nd rfl (by first | exact .inl rfl | exact .inr rfl) (pe_call C_times_row.ok (hr.mono (by decide)) (by rfl) C_times_row.at_ C_times_row.kp C_times_row.b .nil pass0 (pa_cons (pv 4) (pa_cons (pe_call C_inverse.ok (hr.mono (by decide)) (by rfl) C_inverse.at_ C_inverse.kp C_inverse.b .nil pass0 (pa_cons (pe_ix (ix_tupK (K := K)) (pv 4) (pv 5) (fun _ _ => rfl)) (pa_cons (pv 1) pa_nil))) (pa_cons (pv 1) pa_nil)))))
      (pss_one (ps_set (i := 2) sc_reduced.nd rfl (by first | exact .inl rfl | exact .inr rfl) (pe_op op_cat (pe_lc rfl sc_reduced.nd (pi_listK (K := K) (pv 2)) (blkOk_by (own := [("place", 7), ("other", 8)]) (N := ["rows", "p", "bases", "row", "rest", "at", "base", "place", "other", "_"]) (sc := (defScope s_reduced)) (by decide +kernel)) (fun _ _ _ _ _ => (castPG (K := K) (n := 2) (pg_tup rfl (pgs_cons (pg_name (i := 7) sc_reduced.nd rfl (by first | exact .inl rfl | exact .inr rfl)) (pgs_cons (pg_name (i := 8) sc_reduced.nd rfl (by first | exact .inl rfl | exact .inr rfl)) pgs_nil))))) (fun _ _ _ _ _ => pts_nil) (fun _ _ _ _ _ => (pe_tup (pa_cons (pv 7) (pa_cons (pe_call C_less.ok (hr.mono (by decide)) (by rfl) C_less.at_ C_less.kp C_less.b .nil pass0 (pa_cons (pv 8) (pa_cons (pv 6) (pa_cons (pe_ix (ix_tupK (K := K)) (pv 8) (pv 5) (fun _ _ => rfl)) (pa_cons (pv 1) pa_nil))))) pa_nil))))) (pe_lst (pa_cons (pe_tup (pa_cons (pv 5) (pa_cons (pv 6) pa_nil))) pa_nil)))))) pss_nil)))))
      (pss_one (ps_ret (pe_callTy (cr_tupOfK (K := K)) (by rfl) T.m_tuple (by decide +kernel) (pa_cons (pe_lc rfl sc_reduced.nd (pi_listK (K := K) (pe_callB (cr_sortIK (K := K)) (by rfl) T.m_sorted (by decide +kernel) (pa_cons (pv 2) pa_nil))) (blkOk_by (own := [("_", 9), ("row", 3)]) (N := ["rows", "p", "bases", "row", "rest", "at", "base", "place", "other", "_"]) (sc := (defScope s_reduced)) (by decide +kernel)) (fun _ _ _ _ _ => (castPG (K := K) (n := 2) (pg_tup rfl (pgs_cons (pg_name (i := 9) sc_reduced.nd rfl (by first | exact .inl rfl | exact .inr rfl)) (pgs_cons (pg_name (i := 3) sc_reduced.nd rfl (by first | exact .inl rfl | exact .inr rfl)) pgs_nil))))) (fun _ _ _ _ _ => pts_nil) (fun _ _ _ _ _ => (pv 3))) pa_nil)))))), ?_⟩
    obtain ⟨J, G, wk, hG, hR0⟩ : ∃ (J : It) (G : Hp → Prop), Walk J us.length G (YAt us) ∧ (∀ H', Same H H' → G H') ∧ ∀ (R : It → Hp → Prop) H', Same H H' → R J H' → SqR K R (.ref a) H' := by
      rcases ha with ha | ha
      · exact ⟨Itt K a, _, walk_tup (xs := us), fun H' k => SqT.of (k _ _ ha), fun R H' k r => r_sqt (SqT.of (k _ _ ha)) r⟩
      · exact ⟨Itl K a, _, walk_list (xs := us), fun H' k => SqL.of (k _ _ ha), fun R H' k r => r_sql (SqL.of (k _ _ ha)) r⟩
    walk_at "st"
    intro l0 hl0
    walk_at "st"
    refine hR0 _ _ (Same.upd_new hl0) ?_
    refine lp_by wk (fun i σ' H' => ∃ l x3 x4 x5 x6 x7 x8 x9, σ' = [some (.ref a), some (.int p), some (.ref l), x3, x4, x5, x6, x7, x8, x9] ∧ Same H H' ∧ ∃ bs B, H' l = some (.lst bs) ∧ Bs H' bs B ∧ B.length ≤ i ∧ RedL p w B ∧ ∀ v, Sp0 p (B.map fun x => vec x.2) v ↔ Sp0 p ((rows.take i).map vec) v)
      ⟨l0, _, _, _, _, _, _, _, rfl, Same.upd_new hl0, [], [], upd_same, ⟨rfl, fun i v e => by simp at e⟩, Nat.le_refl _, ⟨fun _ z => (by cases z), fun _ z => (by cases z), fun _ z => (by cases z), fun _ z => (by cases z), List.nodup_nil⟩, fun _ => Iff.rfl⟩ (fun i σ' H' _ p => ?_) (fun i x σ' H2 H3 hi p2 y => ?_) (fun σ' H2 p2 => ?_)
    · obtain ⟨_, _, _, _, _, _, _, _, _, sm, _⟩ := p
      exact hG _ sm
    · obtain ⟨l, x3, x4, x5, x6, x7, x8, x9, rfl, sm, bs, B, hl, hB, lB, rB, sB⟩ := p2
      obtain ⟨rfl, ex⟩ := y
      obtain ⟨r, er, pr⟩ := hR.2 i x ex
      obtain ⟨d, rfl, hd⟩ := pr.same sm
      have rw := rr r (List.mem_of_getElem? er)
      have li : i < rows.length := by rw [← hR.1]; exact hi
      have etake : rows.take (i + 1) = rows.take i ++ [r] := by rw [List.take_succ, er]; rfl
      walk_at "st"
      refine ⟨d, l, p, w, r, bs, B, rfl, hd, hl, hB, hp, hw, rw, fun x hx => ⟨rB.row x hx, (rB.one x hx).1⟩, fun c H4 sm4 e4 => ?_⟩
      have rrest := restL_row (p := p) p0 B r rw rB.row
      walk_at "st"
      refine ⟨c, _, rfl, e4, by rw [rrest.len]; exact hw, fun H5 sm5 => ?_⟩
      have e5 := sm5 _ _ e4
      walk_at "st"
      walk_at "if"
      rw [List.length_map]
      have spn : ∀ (C : List (Nat × List Int)), (∀ v, Sp0 p (C.map fun x => vec x.2) v ↔ Sp0 p (vec r :: B.map fun x => vec x.2) v) → ∀ v, Sp0 p (C.map fun x => vec x.2) v ↔ Sp0 p ((rows.take (i + 1)).map vec) v := fun C hC v => by
        rw [etake, List.map_append]
        refine (hC v).trans ⟨fun k => Sp0.trans (fun u hu => ?_) k, fun k => Sp0.trans (fun u hu => ?_) k⟩
        · rcases List.mem_cons.mp hu with e | hu
          · rw [e]; exact .of (List.mem_append_right _ (List.mem_singleton.mpr rfl))
          · exact Sp0.perm (fun z hz => List.mem_append_left _ hz) ((sB u).mp (.of hu))
        · rcases List.mem_append.mp hu with hu | hu
          · exact Sp0.perm (fun z hz => List.mem_cons_of_mem _ hz) ((sB u).mpr (.of hu))
          · rw [List.mem_singleton.mp hu]; exact .of List.mem_cons_self
      refine r_ite (fun h1 => ?_) (fun h1 => ?_)
      · have hlt : firstL (restL p r B) < (restL p r B).length := by omega
        have na := firstL_at _ hlt
        have bnd := rrest.at p0 (firstL (restL p r B))
        have hix := atI_vec hlt
        have hn : 1 ≤ vec (restL p r B) (firstL (restL p r B)) ∧ vec (restL p r B) (firstL (restL p r B)) < p := by omega
        have law : firstL (restL p r B) < w := by rw [← rrest.len]; exact hlt
        walk_at "st"
        refine ⟨_, p, rfl, ⟨hn.1, hn.2, hp.2⟩, (fact5 hp5 hn).1, fun b H6 sm6 hb eb => ?_⟩
        have e6 := sm6 _ _ e5
        walk_at "st"
        refine ⟨c, _, b, p, rfl, e6, by rw [rrest.len]; exact hw, hp, rrest.num, by omega, fun f H7 sm7 e7 => ?_⟩
        obtain ⟨inv, iok, einv⟩ := inv5_at hp5 eb
        have stp := step_ok hp.1 iok rB rw
        have est : stepL p inv B r = (B.map fun x => (x.1, lessL p x.2 (timesL p (restL p r B) b) (vec x.2 (firstL (restL p r B))))) ++ [(firstL (restL p r B), timesL p (restL p r B) b)] := by
          unfold stepL
          simp only []
          rw [if_pos hlt, einv]
        rw [est] at stp
        have rbase : Row p w (timesL p (restL p r B) b) := rrest.times p0
        have s27 : Same H3 H7 := by walk_at "sm"
        have hl7 := s27 _ _ hl
        have hB7 := hB.same s27
        have s07 : Same H H7 := by walk_at "sm"
        have hbs : bs.length ≤ 1000 := by rw [hB.1]; omega
        generalize hat : firstL (restL p r B) = at0 at *
        generalize hbase : timesL p (restL p r B) b = tb at *
        clear hix e4 e5 e6 sm4 sm5 sm6 sm7
        walk_at "st"
        intro D hD
        refine lc_map (walk_list (xs := bs)) (by omega) hD (fun i y H' => ∃ x, (B.map fun x => (x.1, lessL p x.2 tb (vec x.2 at0)))[i]? = some x ∧ PB H' y x) (fun _ _ _ _ h k => h.imp fun _ z => ⟨z.1, z.2.same k⟩) (fun i v H' acc acc' h eD => ?_) (fun H' k => SqL.of (k _ _ hl7)) (fun i H1 x H2 y => by rw [y.1]; exact Same.refl _)
          (fun j x H1 H2 Y No hj sm y hY => ?_) (fun ys H' el sm eD hys => ?_)
        · obtain ⟨x, ex, t, c, rfl, ht, hc⟩ := h
          exact ⟨x, ex, t, c, rfl, hl_set (fun z => by rw [z, eD] at ht; cases ht) ht, hl_set (fun z => by rw [z, eD] at hc; cases hc) hc⟩
        · obtain ⟨rfl, ex⟩ := y
          obtain ⟨x, ebx, pbx⟩ := hB7.2 j _ ex
          obtain ⟨t, g, rfl, ht, hg⟩ := pbx.same sm
          have rx := rB.row x (List.mem_of_getElem? ebx)
          have hv := rx.at p0 at0
          have hix := atI_vec (l := x.2) (a := at0) (by rw [rx.len]; exact law)
          have e7' := sm _ _ e7
          refine ⟨t, [.int x.1, .ref g], rfl, .inl (.inl ht), rfl, _, _, rfl, _, _, rfl, rfl, rfl, ?_⟩
          walk_at "st"
          refine ⟨g, f, x.2, tb, vec x.2 at0, p, rfl, hg, e7', by rw [rx.len]; exact hw, hp, rbase.num, hv, fun c2 H4 sm4 e4 => ?_⟩
          walk_at "st"
          intro t2 ht2
          refine hY _ _ (by walk_at "sm") ⟨(x.1, lessL p x.2 tb (vec x.2 at0)), by rw [List.getElem?_map, ebx]; rfl, t2, c2, rfl, upd_same, hl_new e4 ht2⟩
        · have hys2 : Bs H' ys (B.map fun x => (x.1, lessL p x.2 tb (vec x.2 at0))) := ⟨by rw [el, hB.1, List.length_map], hys⟩
          have e7' := sm _ _ e7
          walk_at "st"
          intro t1 ht1
          walk_at "st"
          intro l1 hl1
          walk_at "st"
          have z1 : ys.length + 1 ≤ sizeLine := by rw [el]; exact Nat.le_trans (show bs.length + 1 ≤ 1001 by omega) (by decide)
          refine r_cat (hl_new (hl_new eD ht1) hl1) upd_same z1 fun l2 hl2 => ?_
          walk_at "st"
          have s8 : Same H' (upd (upd (upd H' t1 (.tup [.int (at0 : Nat), .ref f])) l1 (.lst [.ref t1])) l2 (.lst (ys ++ [.ref t1]))) := by walk_at "sm"
          refine ⟨l2, _, _, _, _, _, _, _, rfl, by walk_at "sm", _, _, upd_same, (hys2.same s8).snoc (x := (at0, tb)) ⟨t1, f, rfl, hl_new (hl_new upd_same hl1) hl2, s8 _ _ e7'⟩, by simp; omega, stp.1, spn _ stp.2⟩
      · walk_at "st"
        have stp := step_ok hp.1 (inv5 hp5) rB rw
        have est : stepL p (fun n => ((n.toNat ^ (p.toNat - 2) % p.toNat : Nat) : Int)) B r = B := by
          unfold stepL
          simp only []
          rw [if_neg (by omega)]
        rw [est] at stp
        have s25 : Same H3 H5 := by walk_at "sm"
        exact ⟨l, _, _, _, _, _, _, _, rfl, by walk_at "sm", bs, B, s25 _ _ hl, hB.same s25, by omega, rB, spn B stp.2⟩
    · obtain ⟨l, x3, x4, x5, x6, x7, x8, x9, rfl, sm, bs, B, hl, hB, lB, rB, sB⟩ := p2
      rw [List.take_of_length_le (Nat.le_of_eq hR.1.symm)] at sB
      have lB2 : B.length ≤ rows.length := by rw [← hR.1]; exact lB
      have hbs : bs.length ≤ 1000 := by rw [hB.1]; omega
      have key : ∀ v ∈ bs, ∃ (j : Nat) (x : Nat × List Int), bs[j]? = some v ∧ B[j]? = some x ∧ rdP H2 v = x := fun v m => by
        obtain ⟨j, e⟩ := List.getElem?_of_mem m
        obtain ⟨x, e2, px⟩ := hB.2 j v e
        exact ⟨j, x, e, e2, px.rd⟩
      walk_at "st"
      refine r_sortI (k := fun v => ((rdP H2 v).1 : Int)) (SqL.of hl) (fun x m => ?_) (fun x m y n e => ?_) (fun ys l2 pm so hl2 => ?_)
      · obtain ⟨t, c, e, ht, _⟩ := hB.mem m
        exact ⟨t, .ref c, e, ht⟩
      · obtain ⟨j, u, e1, e2, e3⟩ := key x m
        obtain ⟨j', u', e1', e2', e3'⟩ := key y n
        rw [e3, e3'] at e
        have e : u.1 = u'.1 := by omega
        have : u = u' := key_inj rB.nd (List.mem_of_getElem? e2) (List.mem_of_getElem? e2') e
        subst this
        have : j = j' := by
          have nd := nodup_of_keys rB.nd
          have l1 := (List.getElem?_eq_some_iff.mp e2).1
          exact (List.getElem?_inj l1 nd).mp (e2.trans e2'.symm)
        rw [this, e1'] at e1
        exact (Option.some.inj e1).symm
      · have hC : Bs H2 ys (ys.map (rdP H2)) := Bs.of fun v m => hB.mem (pm.mem_iff.mp m)
        have pmB : (ys.map (rdP H2)).Perm B := by rw [hB.rd]; exact pm.map _
        have rC := rB.perm pmB
        have hC2 : Rdc p w rows (ys.map (rdP H2)) := ⟨rC, rise_of rC.nd (List.pairwise_map.mpr (so.imp fun {x y} z => by omega)), fun v => Iff.trans ⟨Sp0.perm fun z hz => (pmB.map _).mem_iff.mp hz, Sp0.perm fun z hz => (pmB.map _).mem_iff.mpr hz⟩ (sB v)⟩
        have lC : (ys.map (rdP H2)).length ≤ rows.length := by rw [pmB.length_eq]; exact lB2
        have lys : ys.length ≤ 1000 := by rw [pm.length_eq]; exact hbs
        have s2 : Same H2 (upd H2 l2 (.lst ys)) := Same.upd_new hl2
        have hC' := hC.same s2
        walk_at "st"
        intro D hD
        refine lc_map (walk_list (xs := ys)) (by omega) hD (fun i y H' => ∃ x, (ys.map (rdP H2))[i]? = some x ∧ RowV H' y x.2) (fun _ _ _ _ h k => h.imp fun _ z => ⟨z.1, z.2.same k⟩) (fun i v H' acc acc' h eD => ?_) (fun H' k => SqL.of (k _ _ upd_same)) (fun i H1 x H2 y => by rw [y.1]; exact Same.refl _)
          (fun j x H1 H3 Y No hj sm3 y hY => ?_) (fun zs H' el sm3 eD hzs => ?_)
        · obtain ⟨x, ex, c, rfl, hc⟩ := h
          exact ⟨x, ex, c, rfl, hl_set (fun z => by rw [z, eD] at hc; cases hc) hc⟩
        · obtain ⟨rfl, ex⟩ := y
          obtain ⟨x, ebx, pbx⟩ := hC'.2 j _ ex
          obtain ⟨t, g, rfl, ht, hg⟩ := pbx.same sm3
          refine ⟨t, [.int x.1, .ref g], rfl, .inl (.inl ht), rfl, _, _, rfl, _, _, rfl, rfl, rfl, ?_⟩
          walk_at "st"
          exact hY _ _ (Same.refl _) ⟨x, ebx, g, rfl, hg⟩
        · walk_at "st"
          intro c hc
          have s9 : Same H H' := by walk_at "sm"
          have s10 : Same H (upd H' c (.tup zs)) := by walk_at "sm"
          have hz : Rws H' zs ((ys.map (rdP H2)).map (·.2)) := ⟨by rw [el, List.length_map, List.length_map], fun i v e => by
            obtain ⟨x, e1, e2⟩ := hzs i v e
            exact ⟨x.2, by rw [List.getElem?_map, e1]; rfl, e2⟩⟩
          exact q c zs _ _ s10 (s9.free hc) upd_same (hz.same (Same.upd_new hc)) lC hC2
end
/-! ### == and != of tuples of rows; comprehensions within comprehensions -/
theorem lookup_relabel2 {env : Env} : ∀ {names : List (Str × NameKind)} {x : Str}, (names.lookup x = some .cell ∨ names.lookup x = some .free) →
    ((names.map fun (n, k) => if (k == NameKind.free && env.scope.kind == .function && env.kindOf n == some .cell) then (n, NameKind.cell) else (n, k)).lookup x = some .cell ∨
    (names.map fun (n, k) => if (k == NameKind.free && env.scope.kind == .function && env.kindOf n == some .cell) then (n, NameKind.cell) else (n, k)).lookup x = some .free)
  | [], _, h => by simp at h
  | (n, k) :: r, x, h => by
    have ih := @lookup_relabel2 env r x
    by_cases hc : (k == NameKind.free && env.scope.kind == .function && env.kindOf n == some .cell) = true
    · rw [List.map_cons]
      simp only [hc, ↓reduceIte]
      cases hx : x == n with
      | true => exact .inl (by simp only [List.lookup_cons, hx])
      | false =>
        simp only [List.lookup_cons, hx] at h ⊢
        exact ih h
    · rw [List.map_cons]
      simp only [hc, ↓reduceIte, Bool.false_eq_true]
      cases hx : x == n with
      | true =>
        simp only [List.lookup_cons, hx] at h ⊢
        exact h
      | false =>
        simp only [List.lookup_cons, hx] at h ⊢
        exact ih h
theorem blkOk_in {N : List Str} {sc scope : Scope} {env : Env} {own : List (Str × Nat)} (h : blkC N sc scope own = true) : BlkOk N (relabel sc env) scope own := by
  have b := blkOk_by h
  exact ⟨b.kind, b.uniq, b.ix, fun y m e => lookup_relabel2 (b.free y m e), b.own⟩
def rwD (rows : List (List Int)) : PyData := .tuple (rows.map fun r => .tuple (r.map .int))
theorem eqvAll_map {α : Type} [DecidableEq α] {g : α → PyData} (h : ∀ x y, PyData.eqv (g x) (g y) = decide (x = y)) : ∀ a b : List α, PyData.eqvAll (a.map g) (b.map g) = decide (a = b)
  | [], [] => by simp [PyData.eqvAll]
  | [], y :: b => by simp [PyData.eqvAll]
  | x :: a, [] => by simp [PyData.eqvAll]
  | x :: a, y :: b => by
    rw [List.map_cons, List.map_cons, PyData.eqvAll, h, eqvAll_map h a b]
    simp [List.cons.injEq]
theorem eqv_rows (a b : List (List Int)) : PyData.eqv (rwD a) (rwD b) = decide (a = b) := by
  unfold rwD
  rw [PyData.eqv]
  refine eqvAll_map (fun x y => ?_) a b
  rw [PyData.eqv]
  refine eqvAll_map (fun i j => ?_) x y
  rw [PyData.eqv]
  by_cases c : i = j <;> simp [c]
theorem canLay_all {ds : List PyData} (h : ∀ d ∈ ds, d.canLay0 = true) : PyData.canLayAll0 ds = true := by
  induction ds with
  | nil => rw [PyData.canLayAll0]
  | cons d ds ih => rw [PyData.canLayAll0, h d List.mem_cons_self, ih fun e m => h e (List.mem_cons_of_mem _ m)]; rfl
theorem depth_all {ds : List PyData} {n : Nat} (h : ∀ d ∈ ds, d.depth ≤ n) : PyData.depthAll ds ≤ n := by
  induction ds with
  | nil => rw [PyData.depthAll]; exact Nat.zero_le _
  | cons d ds ih => rw [PyData.depthAll]; exact Nat.max_le.mpr ⟨h d List.mem_cons_self, ih fun e m => h e (List.mem_cons_of_mem _ m)⟩
theorem shaped_rows (a : List (List Int)) : SeqAt.shaped (rwD a) = true := by
  unfold SeqAt.shaped rwD
  rw [PyData.canLay0, PyData.depth]
  rw [canLay_all fun d m => ?_]
  · rw [Bool.true_and]
    refine decide_eq_true ?_
    have : PyData.depthAll (a.map fun r => PyData.tuple (r.map .int)) ≤ 1 := depth_all fun d m => by
      obtain ⟨r, _, rfl⟩ := List.mem_map.mp m
      rw [PyData.depth]
      have : PyData.depthAll (r.map .int) ≤ 0 := depth_all fun d m => by
        obtain ⟨i, _, rfl⟩ := List.mem_map.mp m
        rw [PyData.depth]; exact Nat.le_refl _
      omega
    omega
  · obtain ⟨r, _, rfl⟩ := List.mem_map.mp m
    rw [PyData.canLay0]
    refine canLay_all fun d m => ?_
    obtain ⟨i, _, rfl⟩ := List.mem_map.mp m
    rw [PyData.canLay0]
theorem DpAll.ints {K : PySem.W.Frag} {H : Hp} : ∀ r : List Int, DpAll K H (r.map V.int) (r.map PyData.int)
  | [] => .nil
  | i :: r => .cons (.int i) (DpAll.ints r)
theorem DpAll.rows {K : PySem.W.Frag} {H : Hp} : ∀ {us : List V} {rows : List (List Int)}, Rws H us rows → DpAll K H us (rows.map fun r => PyData.tuple (r.map .int))
  | [], [], _ => .nil
  | [], r :: rows, h => by have := h.1; simp at this
  | u :: us, [], h => by have := h.1; simp at this
  | u :: us, r :: rows, h => by
    obtain ⟨q, e, c, rfl, hc⟩ := h.2 0 u rfl
    obtain rfl : r = q := Option.some.inj e
    refine .cons (.tup (SqT.of hc) (DpAll.ints r)) (DpAll.rows ⟨by have := h.1; simp at this; exact this, fun i v e => h.2 (i + 1) v (by simpa using e)⟩)
theorem Dp.rows {K : PySem.W.Frag} {H : Hp} {a : Addr} {us : List V} {rows : List (List Int)} (h : H a = some (.tup us)) (r : Rws H us rows) : Dp K H (.ref a) (rwD rows) := .tup (SqT.of h) (DpAll.rows r)
theorem op_eqDK {X : Cx} {K : PySem.W.Frag} (hu : X.A.units + 64 < cLine) (q : X.K = K := by rfl) : OpR X (compareOp .Eq) (rEqD K) := q ▸ op_eqD hu
theorem op_neDK {X : Cx} {K : PySem.W.Frag} (hu : X.A.units + 64 < cLine) (q : X.K = K := by rfl) : OpR X (compareOp .NotEq) (rNeD K) := q ▸ op_neD hu
theorem r_eqR {K : PySem.W.Frag} {a b : Addr} {us vs : List V} {A B : List (List Int)} {H : Hp} {Q : VK} (h1 : H a = some (.tup us)) (r1 : Rws H us A) (h2 : H b = some (.tup vs)) (r2 : Rws H vs B) (q : Q (.bl (decide (A = B))) H) : rEqD K (.ref a) (.ref b) H Q :=
  ⟨_, _, Dp.rows h1 r1, Dp.rows h2 r2, shaped_rows _, shaped_rows _, by rw [eqv_rows]; exact q⟩
theorem r_neR {K : PySem.W.Frag} {a b : Addr} {us vs : List V} {A B : List (List Int)} {H : Hp} {Q : VK} (h1 : H a = some (.tup us)) (r1 : Rws H us A) (h2 : H b = some (.tup vs)) (r2 : Rws H vs B) (q : Q (.bl (!decide (A = B))) H) : rNeD K (.ref a) (.ref b) H Q :=
  ⟨_, _, Dp.rows h1 r1, Dp.rows h2 r2, shaped_rows _, shaped_rows _, by rw [eqv_rows]; exact q⟩
section
variable {p : Int} {w : Nat}
theorem Rdc.tells {rows : List (List Int)} {B : List (Nat × List Int)} (h : Rdc p w rows B) (p2 : 2 ≤ p) {ns : List Int} (r : Row p w ns) : firstL (restL p ns B) = (restL p ns B).length ↔ Sp0 p (rows.map vec) (vec ns) := by
  have hp : 0 < p := by omega
  have pwB : B.Pairwise (fun x y => vec y.2 x.1 = 0) := by
    have nd : B.Pairwise (fun x y => x.1 ≠ y.1) := List.pairwise_map.mp h.red.nd
    exact List.Pairwise.imp_of_mem (fun {x y} hx hy ne => h.red.off y hy x hx fun e => ne e.symm) nd
  obtain ⟨rr, _, r0, rs⟩ := rest_ok hp B ns r (fun x hx => ⟨h.red.row x hx, (h.red.one x hx).2⟩) pwB [] fun _ z => (by cases z)
  have rsB := rs (B.map fun x => vec x.2) fun x hx => .of (List.mem_map.mpr ⟨x, hx, rfl⟩)
  constructor
  · intro e
    refine (h.sp _).mp (rsB.mpr (.zero fun i => ?_))
    have : vec (restL p ns B) i = 0 := by
      by_cases lt : i < (restL p ns B).length
      · exact firstL_low _ i (by rw [e]; exact lt)
      · exact vec_out (by omega)
    rw [this]
    exact ⟨0, by show (0 : Int) - 0 = p * 0; omega⟩
  · intro s
    have s2 := rsB.mp ((h.sp _).mpr s)
    have tl := h.red.red.told (p := p) (v := vec (restL p ns B)) (by rw [vecs_rows]; exact s2)
    refine firstL_all fun j hj => ?_
    have d := tl j
    rw [proj_off (vecs B) (fun y hy => by
      obtain ⟨x, hx, rfl⟩ := List.mem_map.mp hy
      exact r0 x hx) j] at d
    exact cg_eq (rr.at hp j) (by omega) d
theorem Rdc.place {rows : List (List Int)} {B : List (Nat × List Int)} (h : Rdc p w rows B) {x : Nat × List Int} (m : x ∈ B) : firstL x.2 = x.1 := by
  have r := h.red.row x m
  have o := h.red.one x m
  exact firstL_is (by rw [r.len]; exact o.1) (fun j hj => h.red.low x m j hj) (by rw [o.2]; decide)
end
/-! ### sums: products, rows led back, by what is told of them together -/
def smI (n : Nat) (f : Nat → Int) : Int := ((List.range n).map f).sum
theorem smI_zero (f : Nat → Int) : smI 0 f = 0 := rfl
theorem smI_succ (n : Nat) (f : Nat → Int) : smI (n + 1) f = smI n f + f n := by
  unfold smI; rw [List.range_succ, List.map_append, List.sum_append]; simp
theorem smI_front (n : Nat) (f : Nat → Int) : smI (n + 1) f = f 0 + smI n fun i => f (i + 1) := by
  induction n with
  | zero => rw [smI_succ, smI_zero, smI_zero]; omega
  | succ n ih => rw [smI_succ, ih, smI_succ]; omega
theorem smI_congr {n : Nat} {f g : Nat → Int} (h : ∀ i, i < n → f i = g i) : smI n f = smI n g := by
  unfold smI; rw [List.map_congr_left fun i m => h i (List.mem_range.mp m)]
theorem smI_add (n : Nat) (f g : Nat → Int) : smI n (fun i => f i + g i) = smI n f + smI n g := by
  induction n with
  | zero => rfl
  | succ n ih => rw [smI_succ, smI_succ, smI_succ, ih]; omega
theorem smI_mul (n : Nat) (f : Nat → Int) (c : Int) : smI n (fun i => f i * c) = smI n f * c := by
  induction n with
  | zero => rw [smI_zero, smI_zero, Int.zero_mul]
  | succ n ih => rw [smI_succ, smI_succ, ih, Int.add_mul]
theorem smI_nil (n : Nat) : smI n (fun _ => 0) = 0 := by
  induction n with
  | zero => rfl
  | succ n ih => rw [smI_succ, ih]; rfl
theorem smI_swap (n m : Nat) (f : Nat → Nat → Int) : smI n (fun i => smI m fun j => f i j) = smI m fun j => smI n fun i => f i j := by
  induction n with
  | zero => rw [smI_zero]; exact (smI_nil m).symm
  | succ n ih =>
    rw [smI_succ, ih, ← smI_add]
    exact smI_congr fun j _ => (smI_succ n _).symm
/-! ### products by places; nulls, and what is null to all of these -/
def dotV (w : Nat) (u v : Vec) : Int := smI w fun i => u i * v i
structure Nul (p : Int) (w : Nat) (L : List Vec) (v : Vec) : Prop where
  out : ∀ i, w ≤ i → p ∣ v i
  nul : ∀ r ∈ L, p ∣ dotV w r v
def nulV (B : List (Nat × List Int)) (f : Nat) : Vec := fun i => (if i = f then 1 else 0) - (B.map fun y => vec y.2 f * (if i = y.1 then 1 else 0)).sum
def free (w : Nat) (B : List (Nat × List Int)) : List Nat := (List.range w).filter fun f => decide (f ∉ B.map (·.1))
section
variable {p : Int} {w : Nat}
theorem dotV_comm (u v : Vec) : dotV w u v = dotV w v u := smI_congr fun i _ => Int.mul_comm _ _
theorem dotV_add (u v x : Vec) (c : Int) : dotV w (fun i => u i + c * v i) x = dotV w u x + c * dotV w v x := by
  unfold dotV
  rw [Int.mul_comm c, ← smI_mul, ← smI_add]
  exact smI_congr fun i _ => by
    show (u i + c * v i) * x i = u i * x i + v i * x i * c
    rw [Int.add_mul, Int.mul_assoc, Int.mul_comm c]
theorem dotV_zero (x : Vec) : dotV w (fun _ => 0) x = 0 := by
  unfold dotV
  rw [smI_congr (g := fun _ => 0) fun i _ => Int.zero_mul _]; exact smI_nil w
theorem dotV_cg {u v : Vec} (h : Cg p u v) (x : Vec) : p ∣ dotV w u x - dotV w v x := by
  have e : dotV w u x - dotV w v x = dotV w (fun i => u i + (-1) * v i) x := by rw [dotV_add]; omega
  rw [e]
  unfold dotV smI
  refine sum_dvd fun y hy => ?_
  obtain ⟨i, _, rfl⟩ := List.mem_map.mp hy
  refine Int.dvd_mul_of_dvd_left ?_
  have e2 : u i + -1 * v i = u i - v i := by omega
  show p ∣ u i + -1 * v i
  rw [e2]; exact h i
theorem sum_nil {α : Type} (f : α → Int) : ∀ l : List α, (∀ x ∈ l, f x = 0) → (l.map f).sum = 0
  | [], _ => rfl
  | x :: l, h => by rw [List.map_cons, List.sum_cons, h x List.mem_cons_self, sum_nil f l fun y m => h y (List.mem_cons_of_mem _ m)]; rfl
theorem dvd_dot {u v : Vec} (h : Cg p u v) {x : Vec} (k : p ∣ dotV w v x) : p ∣ dotV w u x := by
  have := Int.dvd_add (dotV_cg (w := w) h x) k
  rwa [Int.sub_add_cancel] at this
theorem sp_dot {L : List Vec} {v u : Vec} (h : ∀ r ∈ L, p ∣ dotV w r v) (k : Sp0 p L u) : p ∣ dotV w u v := by
  induction k with
  | zero e =>
    refine dvd_dot e ?_
    rw [dotV_zero]; exact Int.dvd_zero p
  | add m _ e ih =>
    refine dvd_dot e ?_
    rw [dotV_add]
    exact Int.dvd_add ih (Int.dvd_mul_of_dvd_right (h _ m))
/-- what is null to some rows is null to what follows from them -/
theorem Nul.span {L : List Vec} {v u : Vec} (h : Nul p w L v) (k : Sp0 p L u) : p ∣ dotV w u v := sp_dot h.nul k
theorem Nul.mono {L M : List Vec} {v : Vec} (h : Nul p w L v) (k : ∀ r ∈ M, Sp0 p L r) : Nul p w M v := ⟨h.out, fun r m => h.span (k r m)⟩
theorem Nul.eqv {L M : List Vec} (h : ∀ v, Sp0 p L v ↔ Sp0 p M v) (v : Vec) : Nul p w L v ↔ Nul p w M v :=
  ⟨fun k => k.mono fun r m => (h r).mpr (.of m), fun k => k.mono fun r m => (h r).mp (.of m)⟩
theorem nul_app {L M : List Vec} (v : Vec) : Nul p w (L ++ M) v ↔ Nul p w L v ∧ Nul p w M v :=
  ⟨fun h => ⟨⟨h.out, fun r m => h.nul r (List.mem_append_left _ m)⟩, ⟨h.out, fun r m => h.nul r (List.mem_append_right _ m)⟩⟩, fun ⟨h, k⟩ => ⟨h.out, fun r m => (List.mem_append.mp m).elim (h.nul r) (k.nul r)⟩⟩
/-- what follows from nulls is null -/
theorem Nul.of_sp {N L : List Vec} {v : Vec} (h : ∀ n ∈ N, Nul p w L n) (k : Sp0 p N v) : Nul p w L v := by
  refine ⟨fun i hi => ?_, fun r m => ?_⟩
  · induction k with
    | @zero v e =>
      have := e i
      rwa [Int.sub_zero] at this
    | @add u v n c m _ e ih =>
      have h0 : p ∣ c * n i := Int.dvd_mul_of_dvd_right ((h n m).out i hi)
      have h1 := Int.dvd_add (e i) (Int.dvd_add ih h0)
      have h1 : p ∣ v i - (u i + c * n i) + (u i + c * n i) := h1
      rwa [Int.sub_add_cancel] at h1
  · rw [dotV_comm]
    exact sp_dot (fun n mn => by rw [dotV_comm]; exact (h n mn).nul r m) k
theorem dot_unit (r : Vec) {a : Nat} (h : a < w) : (smI w fun i => r i * (if i = a then 1 else 0)) = r a := by
  induction w with
  | zero => omega
  | succ n ih =>
    rw [smI_succ]
    by_cases c : n = a
    · subst c
      rw [if_pos rfl, Int.mul_one, smI_congr (g := fun _ => 0) fun i hi => by rw [if_neg (by omega), Int.mul_zero], smI_nil, Int.zero_add]
    · rw [if_neg c, Int.mul_zero, Int.add_zero, ih (by omega)]
theorem dot_nul (r : Vec) {f : Nat} (hf : f < w) : ∀ B : List (Nat × List Int), (∀ y ∈ B, y.1 < w) → dotV w r (nulV B f) = r f - (B.map fun y => vec y.2 f * r y.1).sum
  | [], _ => by
    unfold dotV
    rw [smI_congr (g := fun i => r i * (if i = f then 1 else 0)) fun i _ => by unfold nulV; simp, dot_unit r hf]; simp
  | y :: B, h => by
    have ih := dot_nul r hf B fun z m => h z (List.mem_cons_of_mem _ m)
    have e : dotV w r (nulV (y :: B) f) = dotV w r (nulV B f) + smI w (fun i => r i * (if i = y.1 then 1 else 0)) * -(vec y.2 f) := by
      unfold dotV
      rw [← smI_mul, ← smI_add]
      refine smI_congr fun i _ => ?_
      unfold nulV
      rw [List.map_cons, List.sum_cons]
      generalize (B.map fun y => vec y.2 f * (if i = y.1 then 1 else 0)).sum = S
      generalize (if i = f then (1 : Int) else 0) = a
      generalize (if i = y.1 then (1 : Int) else 0) = b
      rw [Int.mul_sub, Int.mul_sub, Int.mul_add, Int.mul_neg, Int.mul_comm (vec y.2 f) b, Int.mul_assoc]
      omega
    rw [e, ih, dot_unit r (h y List.mem_cons_self), List.map_cons, List.sum_cons, Int.mul_neg, Int.mul_comm (r y.1)]
    omega
theorem RedL.low_w {B : List (Nat × List Int)} (h : RedL p w B) : ∀ y ∈ B, y.1 < w := fun y m => (h.one y m).1
theorem RedL.nul_row {B : List (Nat × List Int)} (h : RedL p w B) {x : Nat × List Int} (m : x ∈ B) {f : Nat} (hf : f < w) : dotV w (vec x.2) (nulV B f) = 0 := by
  rw [dot_nul _ hf B h.low_w]
  have rd := h.red
  have mx : (x.1, vec x.2) ∈ vecs B := List.mem_map.mpr ⟨x, m, rfl⟩
  have := proj_row rd.nd mx (rd.one _ mx) (fun y hy ne => rd.off _ mx y hy ne) f
  have e : proj (vecs B) (vec x.2) f = (B.map fun y => vec y.2 f * vec x.2 y.1).sum := by
    unfold proj vecs
    rw [List.map_map]
    congr 1
    exact List.map_congr_left fun y _ => Int.mul_comm _ _
  rw [← e, this]
  show vec x.2 f - vec x.2 f = 0
  omega
theorem proj_key {R : List (Nat × Vec)} (h : Red0 R) (v : Vec) {x : Nat × Vec} (m : x ∈ R) : proj R v x.1 = v x.1 := by
  classical
  have gen : ∀ S : List (Nat × Vec), S.Nodup → (∀ y ∈ S, y ∈ R) → proj S v x.1 = if x ∈ S then v x.1 else 0 := fun S => by
    induction S with
    | nil => intro _ _; simp [proj]
    | cons y S ih =>
      intro nd sub
      have nd2 := List.nodup_cons.mp nd
      rw [proj_cons, ih nd2.2 fun z hz => sub z (List.mem_cons_of_mem _ hz)]
      by_cases c : x = y
      · subst c
        rw [if_neg nd2.1, if_pos List.mem_cons_self, h.one x m]; omega
      · rw [h.off y (sub y List.mem_cons_self) x m fun e => c e.symm]
        by_cases d : x ∈ S
        · rw [if_pos d, if_pos (List.mem_cons_of_mem _ d)]; omega
        · rw [if_neg d, if_neg fun e => (List.mem_cons.mp e).elim c d]; omega
  rw [gen R h.nd fun y hy => hy, if_pos m]
theorem proj_sp {R : List (Nat × Vec)} {L : List Vec} (v : Vec) (h : ∀ x ∈ R, Sp0 p L x.2) : Sp0 p L (proj R v) := by
  induction R with
  | nil => exact .zero fun i => by show p ∣ 0 - 0; exact Int.dvd_zero p
  | cons x R ih =>
    have := (ih fun y hy => h y (List.mem_cons_of_mem _ hy)).plus (h x List.mem_cons_self) (v x.1)
    refine this.cg fun i => ?_
    rw [proj_cons]
    show p ∣ v x.1 * x.2 i + proj R v i - (proj R v i + v x.1 * x.2 i)
    rw [Int.add_comm, Int.sub_self]; exact Int.dvd_zero p
theorem mem_free {B : List (Nat × List Int)} {f : Nat} : f ∈ free w B ↔ f < w ∧ f ∉ B.map (·.1) := by
  unfold free
  rw [List.mem_filter, List.mem_range, decide_eq_true_iff]
/-- what is null to the nulls follows from the rows -/
theorem RedL.back {B : List (Nat × List Int)} (h : RedL p w B) {v : Vec} (k : Nul p w ((free w B).map (nulV B)) v) : Sp0 p (B.map fun x => vec x.2) v := by
  have rd := h.red
  refine (proj_sp (p := p) (R := vecs B) (L := B.map fun x => vec x.2) v fun x hx => ?_).cg fun i => ?_
  · obtain ⟨y, hy, rfl⟩ := List.mem_map.mp hx
    exact .of (List.mem_map.mpr ⟨y, hy, rfl⟩)
  · by_cases hi : i < w
    · by_cases hk : i ∈ B.map (·.1)
      · obtain ⟨x, hx, rfl⟩ := List.mem_map.mp hk
        have := proj_key rd v (x := (x.1, vec x.2)) (List.mem_map.mpr ⟨x, hx, rfl⟩)
        show p ∣ v x.1 - proj (vecs B) v x.1
        rw [this, Int.sub_self]; exact Int.dvd_zero p
      · have := k.nul _ (List.mem_map.mpr ⟨i, mem_free.mpr ⟨hi, hk⟩, rfl⟩)
        rw [dotV_comm, dot_nul _ hi B h.low_w] at this
        have e : proj (vecs B) v i = (B.map fun y => vec y.2 i * v y.1).sum := by
          unfold proj vecs
          rw [List.map_map]
          congr 1
          exact List.map_congr_left fun y _ => Int.mul_comm _ _
        rw [e]; exact this
    · have e : proj (vecs B) v i = 0 := by
        unfold proj vecs
        rw [List.map_map]
        exact sum_nil _ B fun y hy => by
          show v y.1 * vec y.2 i = 0
          rw [vec_out (by rw [(h.row y hy).len]; omega), Int.mul_zero]
      rw [e, Int.sub_zero]; exact k.out i (by omega)
theorem filter_sum (c : Nat → Bool) (g : Nat → Int) : ∀ n : Nat, (((List.range n).filter c).map g).sum = smI n fun i => if c i = true then g i else 0
  | 0 => rfl
  | n + 1 => by
    rw [List.range_succ, List.filter_append, List.map_append, List.sum_append, filter_sum c g n, smI_succ]
    congr 1
    by_cases h : c n = true
    · rw [List.filter_cons_of_pos h, if_pos h]; simp
    · rw [List.filter_cons_of_neg h, if_neg h]; rfl
/-- a sum by all places is that by the free ones and one more -/
theorem free_sum {B : List (Nat × List Int)} {a : Nat} (g : Nat → Int) (ha : a < w) (na : a ∈ B.map (·.1)) (z : ∀ i, i ∈ B.map (·.1) → i ≠ a → g i = 0) : smI w g = ((free w B).map g).sum + g a := by
  unfold free
  rw [filter_sum]
  have e := dot_unit (w := w) g ha
  rw [← e, ← smI_add]
  refine smI_congr fun i _ => ?_
  by_cases h : i ∈ B.map (·.1)
  · rw [if_neg (by simpa using h)]
    by_cases c : i = a
    · rw [if_pos c]; omega
    · rw [if_neg c, z i h c]; omega
  · rw [if_pos (by simpa using h), if_neg (fun e : i = a => h (by rw [e]; exact na))]; omega
theorem nulV_key {B : List (Nat × List Int)} (h : RedL p w B) {x : Nat × List Int} (m : x ∈ B) {f : Nat} (nf : f ∉ B.map (·.1)) : nulV B f x.1 = -(vec x.2 f) := by
  have gen : ∀ S : List (Nat × List Int), (S.map (·.1)).Nodup → (∀ y ∈ S, y ∈ B) → (S.map fun y => vec y.2 f * (if x.1 = y.1 then 1 else 0)).sum = if x.1 ∈ S.map (·.1) then vec x.2 f else 0 := fun S => by
    induction S with
    | nil => intro _ _; simp
    | cons y S ih =>
      intro nd sub
      rw [List.map_cons] at nd
      have nd2 := List.nodup_cons.mp nd
      rw [List.map_cons, List.sum_cons, ih nd2.2 fun z hz => sub z (List.mem_cons_of_mem _ hz), List.map_cons]
      by_cases c : x.1 = y.1
      · have : x = y := key_inj h.nd m (sub y List.mem_cons_self) c
        subst this
        rw [if_pos rfl, if_neg nd2.1, if_pos List.mem_cons_self]; omega
      · rw [if_neg c]
        by_cases d : x.1 ∈ S.map (·.1)
        · rw [if_pos d, if_pos (List.mem_cons_of_mem _ d)]; omega
        · rw [if_neg d, if_neg fun e => (List.mem_cons.mp e).elim c d]; omega
  unfold nulV
  rw [gen B h.nd fun y hy => hy, if_pos (List.mem_map.mpr ⟨x, m, rfl⟩), if_neg (fun e : x.1 = f => nf (by rw [← e]; exact List.mem_map.mpr ⟨x, m, rfl⟩))]
  omega
theorem nulV_free {B : List (Nat × List Int)} {f i : Nat} (ni : i ∉ B.map (·.1)) : nulV B f i = if i = f then 1 else 0 := by
  unfold nulV
  rw [sum_nil _ B fun y hy => by rw [if_neg (fun e : i = y.1 => ni (by rw [e]; exact List.mem_map.mpr ⟨y, hy, rfl⟩)), Int.mul_zero], Int.sub_zero]
theorem lin_sp {N : Nat → Vec} {L : List Vec} (v : Nat → Int) : ∀ fs : List Nat, (∀ f ∈ fs, Sp0 p L (N f)) → Sp0 p L (fun i => (fs.map fun f => v f * N f i).sum)
  | [], _ => .zero fun i => by show p ∣ 0 - 0; exact Int.dvd_zero p
  | f :: fs, h => by
    have := (lin_sp v fs fun y hy => h y (List.mem_cons_of_mem _ hy)).plus (h f List.mem_cons_self) (v f)
    refine this.cg fun i => ?_
    rw [List.map_cons, List.sum_cons]
    show p ∣ v f * N f i + _ - (_ + v f * N f i)
    rw [Int.add_comm, Int.sub_self]; exact Int.dvd_zero p
theorem free_nodup (B : List (Nat × List Int)) : (free w B).Nodup := List.Nodup.sublist List.filter_sublist List.nodup_range
theorem unit_sum {fs : List Nat} (nd : fs.Nodup) (v : Nat → Int) (i : Nat) : (fs.map fun f => v f * (if i = f then 1 else 0)).sum = if i ∈ fs then v i else 0 := by
  induction fs with
  | nil => simp
  | cons f fs ih =>
    have nd2 := List.nodup_cons.mp nd
    rw [List.map_cons, List.sum_cons, ih nd2.2]
    by_cases c : i = f
    · subst c
      rw [if_pos rfl, if_neg nd2.1, if_pos List.mem_cons_self]; omega
    · rw [if_neg c]
      by_cases d : i ∈ fs
      · rw [if_pos d, if_pos (List.mem_cons_of_mem _ d)]; omega
      · rw [if_neg d, if_neg fun e => (List.mem_cons.mp e).elim c d]; omega
/-- the nulls are just what is null -/
theorem RedL.nuls {B : List (Nat × List Int)} (h : RedL p w B) (v : Vec) : Sp0 p ((free w B).map (nulV B)) v ↔ Nul p w (B.map fun x => vec x.2) v := by
  constructor
  · intro k
    refine Nul.of_sp (fun n m => ?_) k
    obtain ⟨f, mf, rfl⟩ := List.mem_map.mp m
    have hf := mem_free.mp mf
    refine ⟨fun i hi => ?_, fun r mr => ?_⟩
    · rw [nulV_free fun e => by
        obtain ⟨y, hy, rfl⟩ := List.mem_map.mp e
        have := h.low_w y hy
        omega, if_neg (by omega)]
      exact Int.dvd_zero p
    · obtain ⟨x, hx, rfl⟩ := List.mem_map.mp mr
      rw [h.nul_row hx hf.1]; exact Int.dvd_zero p
  · intro k
    refine (lin_sp v (free w B) fun f mf => .of (List.mem_map.mpr ⟨f, mf, rfl⟩)).cg fun i => ?_
    show p ∣ v i - ((free w B).map fun f => v f * nulV B f i).sum
    by_cases hk : i ∈ B.map (·.1)
    · obtain ⟨x, hx, rfl⟩ := List.mem_map.mp hk
      have e : ((free w B).map fun f => v f * nulV B f x.1) = (free w B).map fun f => -(vec x.2 f * v f) := List.map_congr_left fun f mf => by
        rw [nulV_key h hx (mem_free.mp mf).2, Int.mul_neg, Int.mul_comm]
      have e2 : ((free w B).map fun f => -(vec x.2 f * v f)).sum = -((free w B).map fun f => vec x.2 f * v f).sum := by
        induction free w B with
        | nil => rfl
        | cons f fs ih => rw [List.map_cons, List.sum_cons, ih, List.map_cons, List.sum_cons]; omega
      have d := k.nul _ (List.mem_map.mpr ⟨x, hx, rfl⟩)
      unfold dotV at d
      rw [free_sum (B := B) (a := x.1) (fun i => vec x.2 i * v i) (h.one x hx).1 hk (fun i mi ne => by
        obtain ⟨y, hy, rfl⟩ := List.mem_map.mp mi
        rw [h.off x hx y hy fun e => ne e.symm, Int.zero_mul]), (h.one x hx).2, Int.one_mul] at d
      rw [e, e2]
      have e3 : v x.1 - -((free w B).map fun f => vec x.2 f * v f).sum = ((free w B).map fun f => vec x.2 f * v f).sum + v x.1 := by omega
      rw [e3]; exact d
    · have e : ((free w B).map fun f => v f * nulV B f i) = (free w B).map fun f => v f * (if i = f then 1 else 0) := List.map_congr_left fun f _ => by rw [nulV_free hk]
      rw [e, unit_sum (free_nodup B)]
      by_cases hi : i < w
      · rw [if_pos (mem_free.mpr ⟨hi, hk⟩), Int.sub_self]; exact Int.dvd_zero p
      · rw [if_neg fun m => hi (mem_free.mp m).1, Int.sub_zero]; exact k.out i (by omega)
/-- THE OTHER WAY: where M are the nulls of some rows, what is null to M follows from the rows -/
theorem RedL.dual {B : List (Nat × List Int)} (h : RedL p w B) {M : List Vec} (k : ∀ v, Sp0 p M v ↔ Nul p w (B.map fun x => vec x.2) v) (v : Vec) : Sp0 p (B.map fun x => vec x.2) v ↔ Nul p w M v := by
  constructor
  · intro s
    refine ⟨fun i hi => ?_, fun r m => ?_⟩
    · have e := h.red.told (p := p) (v := v) (by rw [vecs_rows]; exact s) i
      have z : proj (vecs B) v i = 0 := by
        unfold proj vecs
        rw [List.map_map]
        exact sum_nil _ B fun y hy => by
          show v y.1 * vec y.2 i = 0
          rw [vec_out (by rw [(h.row y hy).len]; omega), Int.mul_zero]
      rwa [z, Int.sub_zero] at e
    · rw [dotV_comm]
      exact ((k r).mp (.of m)).span s
  · intro n
    refine h.back (n.mono fun r m => ?_)
    exact (k r).mpr ((h.nuls r).mp (.of m))
end
/-! ### the span stays: a row's multiple added to another, rows in another order, multiples told besides -/
section
variable {p : Int} {w : Nat}
theorem mix_cg {l m : List Int} {k : Int} (r : Row p w l) (s : Row p w m) (hp : 0 < p) : Cg p (vec (addL p l (timesL p m k))) (fun i => vec l i + k * vec m i) := fun i => by
  obtain ⟨d, f⟩ := add_cg (p := p) (l := l) (m := timesL p m k) (by rw [r.len, (s.times hp).len]) i
  obtain ⟨g, h⟩ := times_cg (p := p) (l := m) (n := k) i
  have f : vec (addL p l (timesL p m k)) i - (vec l i + vec (timesL p m k) i) = p * d := f
  have h : vec (timesL p m k) i - k * vec m i = p * g := h
  refine ⟨d + g, ?_⟩
  show vec (addL p l (timesL p m k)) i - (vec l i + k * vec m i) = _
  rw [Int.mul_add, ← f, ← h]
  omega
theorem span_set {rows : List (List Int)} (hp : 0 < p) (hr : ∀ r ∈ rows, Row p w r) {i j : Nat} {a b : List Int} {k : Int} (ei : rows[i]? = some a) (ej : rows[j]? = some b) (ne : i ≠ j) (v : Vec) :
    Sp0 p ((rows.set i (addL p a (timesL p b k))).map vec) v ↔ Sp0 p (rows.map vec) v := by
  have ra := hr a (List.mem_of_getElem? ei)
  have rb := hr b (List.mem_of_getElem? ej)
  have il := (List.getElem?_eq_some_iff.mp ei).1
  have q := mix_cg (k := k) ra rb hp
  constructor
  · refine fun s => s.trans fun u m => ?_
    obtain ⟨r, hr2, rfl⟩ := List.mem_map.mp m
    rcases List.mem_or_eq_of_mem_set hr2 with h | h
    · exact .of (List.mem_map_of_mem h)
    · rw [h]
      exact ((Sp0.of (List.mem_map_of_mem (List.mem_of_getElem? ei))).plus (.of (List.mem_map_of_mem (List.mem_of_getElem? ej))) k).cg q
  · refine fun s => s.trans fun u m => ?_
    obtain ⟨r, hr2, rfl⟩ := List.mem_map.mp m
    obtain ⟨t, et⟩ := List.getElem?_of_mem hr2
    have hb : Sp0 p ((rows.set i (addL p a (timesL p b k))).map vec) (vec b) :=
      .of (List.mem_map_of_mem (List.mem_of_getElem? (show (rows.set i (addL p a (timesL p b k)))[j]? = some b by rw [List.getElem?_set_ne ne]; exact ej)))
    have hn : Sp0 p ((rows.set i (addL p a (timesL p b k))).map vec) (vec (addL p a (timesL p b k))) :=
      .of (List.mem_map_of_mem (List.mem_of_getElem? (show (rows.set i (addL p a (timesL p b k)))[i]? = some _ by rw [List.getElem?_set_self il])))
    by_cases c : t = i
    · subst c
      obtain rfl : a = r := Option.some.inj (ei.symm.trans et)
      refine (hn.plus hb (-k)).cg fun x => ?_
      obtain ⟨d, f⟩ := q x
      have f : vec (addL p a (timesL p b k)) x - (vec a x + k * vec b x) = p * d := f
      refine ⟨-d, ?_⟩
      show vec a x - (vec (addL p a (timesL p b k)) x + -k * vec b x) = _
      rw [Int.mul_neg, ← f, Int.neg_mul]
      omega
    · exact .of (List.mem_map_of_mem (List.mem_of_getElem? (show (rows.set i (addL p a (timesL p b k)))[t]? = some r by rw [List.getElem?_set_ne (fun z => c z.symm)]; exact et)))
theorem span_perm {L M : List (List Int)} (h : L.Perm M) (v : Vec) : Sp0 p (L.map vec) v ↔ Sp0 p (M.map vec) v :=
  ⟨fun s => s.trans fun _ m => .of ((h.map vec).mem_iff.mp m), fun s => s.trans fun _ m => .of ((h.map vec).mem_iff.mpr m)⟩
theorem span_more {L M : List (List Int)} (h : ∀ m ∈ M, Sp0 p (L.map vec) (vec m)) (v : Vec) : Sp0 p ((L ++ M).map vec) v ↔ Sp0 p (L.map vec) v := by
  rw [List.map_append]
  refine ⟨fun s => s.trans fun u m => ?_, fun s => s.trans fun u m => .of (List.mem_append_left _ m)⟩
  rcases List.mem_append.mp m with m | m
  · exact .of m
  · obtain ⟨r, hr, rfl⟩ := List.mem_map.mp m
    exact h r hr
end
section
variable {p : Int} {w : Nat}
theorem rise_len : ∀ {l : List Nat} {a w : Nat}, l.Pairwise (· < ·) → (∀ x ∈ l, a ≤ x ∧ x < w) → a + l.length ≤ max a w
  | [], a, w, _, _ => by simp; omega
  | x :: l, a, w, h, k => by
    have h2 := List.pairwise_cons.mp h
    have kx := k x List.mem_cons_self
    have := rise_len (a := x + 1) (w := w) h2.2 fun y m => ⟨h2.1 y m, (k y (List.mem_cons_of_mem _ m)).2⟩
    rw [List.length_cons]
    omega
theorem Rdc.len {rows : List (List Int)} {B : List (Nat × List Int)} (h : Rdc p w rows B) : B.length ≤ w := by
  have := rise_len (a := 0) (w := w) h.rise fun x m => by
    obtain ⟨y, hy, rfl⟩ := List.mem_map.mp m
    exact ⟨Nat.zero_le _, (h.red.one y hy).1⟩
  rw [List.length_map] at this
  omega
theorem Rdc.same {rows rows' : List (List Int)} {B C : List (Nat × List Int)} (h : Rdc p w rows B) (k : Rdc p w rows' C) (p2 : 2 ≤ p) (e : ∀ v, Sp0 p (rows.map vec) v ↔ Sp0 p (rows'.map vec) v) : B = C :=
  h.red.same k.red p2 h.rise k.rise (fun x m => (k.sp _).mpr ((e _).mp ((h.sp _).mp (.of (List.mem_map.mpr ⟨x, m, rfl⟩))))) (fun x m => (h.sp _).mpr ((e _).mpr ((k.sp _).mp (.of (List.mem_map.mpr ⟨x, m, rfl⟩)))))
theorem map_snd_vec (B : List (Nat × List Int)) : (B.map (·.2)).map vec = B.map fun x => vec x.2 := by rw [List.map_map]; rfl
/-- with one row more it is the same just where that row follows -/
theorem Rdc.more {rows : List (List Int)} {B C : List (Nat × List Int)} {l : List Int} (h : Rdc p w rows B) (k : Rdc p w (rows ++ [l]) C) (p2 : 2 ≤ p) : C.map (·.2) = B.map (·.2) ↔ Sp0 p (rows.map vec) (vec l) := by
  constructor
  · intro e
    refine (h.sp _).mp ?_
    rw [← map_snd_vec, ← e, map_snd_vec]
    refine (k.sp _).mpr (.of ?_)
    rw [List.map_append]
    exact List.mem_append_right _ (List.mem_singleton.mpr rfl)
  · intro s
    rw [k.same h p2 fun v => span_more (M := [l]) (fun m hm => by rw [List.mem_singleton.mp hm]; exact s) v]
theorem nil_span {v : Vec} (h : Sp0 p [] v) (i : Nat) : p ∣ v i := by
  cases h with
  | zero h =>
    have := h i
    rwa [Int.sub_zero] at this
  | add m => cases m
theorem Rdc.rows {rows : List (List Int)} {B : List (Nat × List Int)} (h : Rdc p w rows B) : ∀ r ∈ B.map (·.2), Row p w r := fun r m => by
  obtain ⟨x, hx, rfl⟩ := List.mem_map.mp m
  exact h.red.row x hx
end
local macro_rules | `(tactic| walk_at "st1") => `(tactic| first
  | with_reducible refine r_par ?_
  | with_reducible refine r_parx ?_
  | ((with_reducible refine' r_gtup ?e1 ?e2 ?_); (case e1 => walk_at "sq"); (case e2 => rfl))
  | with_reducible refine r_gcons ?_
  | with_reducible refine r_gnil ?_
  | with_reducible refine r_ient ?_
  | ((with_reducible refine' r_ent ?e1 ?_); (case e1 => walk_at "sq")))
local macro_rules | `(tactic| walk_at "st1") => `(tactic| first
  | with_reducible refine r_izx ?_
  | with_reducible refine r_isq ?_
  | ((with_reducible refine' r_zxt ?e1 ?e2 ?_); (case e1 => walk_at "sq"); (case e2 => walk_at "sq"))
  | ((with_reducible refine' r_zxm ?e1 ?e2 ?_); (case e1 => walk_at "sq"); (case e2 => walk_at "sq"))
  | ((with_reducible refine' r_sqt ?e1 ?_); (case e1 => walk_at "sq"))
  | ((with_reducible refine' r_sql ?e1 ?_); (case e1 => walk_at "sq")))
local macro_rules | `(tactic| walk_at "st1") => `(tactic| first
  | with_reducible refine' r_nt ?_
  | with_reducible refine' r_nf ?_
  | with_reducible refine r_un ?_
  | with_reducible refine r_u ?_)
def rowAt (B : List (Nat × List Int)) (i : Nat) : Option (List Int) := (B.find? fun x => decide (x.1 = i)).map (·.2)
theorem rowAt_in {B : List (Nat × List Int)} (nd : (B.map (·.1)).Nodup) {x : Nat × List Int} (m : x ∈ B) : rowAt B x.1 = some x.2 := by
  unfold rowAt
  cases g : B.find? fun y => decide (y.1 = x.1) with
  | none =>
    have h0 := List.find?_eq_none.mp g x m
    exact absurd (show decide (x.1 = x.1) = true from decide_eq_true rfl) (by simpa using h0)
  | some y =>
    have h1 := List.mem_of_find?_eq_some g
    have h2 := List.find?_some g
    have h3 : y.1 = x.1 := of_decide_eq_true h2
    rw [key_inj nd h1 m h3]; rfl
theorem rowAt_out {B : List (Nat × List Int)} {i : Nat} (h : i ∉ B.map (·.1)) : rowAt B i = none := by
  unfold rowAt
  rw [List.find?_eq_none.mpr fun y m => by
    have : ¬ y.1 = i := fun e => h (by rw [← e]; exact List.mem_map.mpr ⟨y, m, rfl⟩)
    simpa using this]; rfl
def negL (p : Int) (B : List (Nat × List Int)) (f i : Nat) : Int := match rowAt B i with
  | some r => -(vec r f) % p
  | none => 0
def nulL (p : Int) (w : Nat) (B : List (Nat × List Int)) (f : Nat) : List Int := ((List.range w).map (negL p B f)).set f 1
section
variable {p : Int} {w : Nat}
theorem nulL_row (hp : 2 ≤ p) (B : List (Nat × List Int)) (f : Nat) : Row p w (nulL p w B f) := by
  refine ⟨by unfold nulL; rw [List.length_set, List.length_map, List.length_range], fun x m => ?_⟩
  rcases List.mem_or_eq_of_mem_set m with m | m
  · obtain ⟨i, _, rfl⟩ := List.mem_map.mp m
    unfold negL
    split
    · exact ⟨Int.emod_nonneg _ (by omega), Int.emod_lt_of_pos _ (by omega)⟩
    · omega
  · rw [m]; omega
theorem nulL_cg {B : List (Nat × List Int)} (h : RedL p w B) {f : Nat} (mf : f ∈ free w B) : Cg p (vec (nulL p w B f)) (nulV B f) := fun i => by
  have hf := mem_free.mp mf
  have len : (nulL p w B f).length = w := by unfold nulL; rw [List.length_set, List.length_map, List.length_range]
  by_cases hi : i < w
  · rw [vec_in (by rw [len]; exact hi)]
    unfold nulL
    rw [List.getElem_set]
    by_cases c : f = i
    · subst c
      rw [if_pos rfl, nulV_free hf.2, if_pos rfl, Int.sub_self]; exact Int.dvd_zero p
    · rw [if_neg c, List.getElem_map, List.getElem_range]
      unfold negL
      by_cases hk : i ∈ B.map (·.1)
      · obtain ⟨x, hx, rfl⟩ := List.mem_map.mp hk
        rw [rowAt_in h.nd hx, nulV_key h hx hf.2]
        exact emod_dvd _ p
      · rw [rowAt_out hk, nulV_free hk, if_neg fun e => c e.symm]
        show p ∣ 0 - 0
        exact Int.dvd_zero p
  · rw [vec_out (by rw [len]; omega), nulV_free fun e => by
      obtain ⟨y, hy, rfl⟩ := List.mem_map.mp e
      exact hi (h.low_w y hy), if_neg (by omega)]
    show p ∣ 0 - 0
    exact Int.dvd_zero p
theorem sp_cgs {α : Type} {a b : α → Vec} {fs : List α} (h : ∀ f ∈ fs, Cg p (a f) (b f)) {v : Vec} (k : Sp0 p (fs.map a) v) : Sp0 p (fs.map b) v :=
  Sp0.trans (fun r m => by
    obtain ⟨f, mf, rfl⟩ := List.mem_map.mp m
    exact (Sp0.of (List.mem_map.mpr ⟨f, mf, rfl⟩)).cg (h f mf)) k
theorem nulls_sp {rows : List (List Int)} {B : List (Nat × List Int)} (h : Rdc p w rows B) (v : Vec) : Sp0 p (((free w B).map (nulL p w B)).map vec) v ↔ Nul p w (rows.map vec) v := by
  rw [List.map_map]
  refine Iff.trans ⟨sp_cgs fun f m => nulL_cg h.red m, sp_cgs fun f m => (nulL_cg h.red m).symm⟩ ((h.red.nuls v).trans (Nul.eqv h.sp v))
end
/-- a dict from places to rows -/
def BD (H : Hp) (d : Addr) (B : List (Nat × List Int)) : Prop := ∃ kvs : List (Key × V), H d = some (.dK kvs) ∧ kvs.length = B.length ∧ ∀ (i : Nat) (e : Key × V), kvs[i]? = some e → ∃ x, B[i]? = some x ∧ e.1 = Sum.inl ((x.1 : Nat) : Int) ∧ RowV H e.2 x.2
theorem BD.same {H H' : Hp} {d : Addr} {B : List (Nat × List Int)} (h : BD H d B) (k : Same H H') : BD H' d B := by
  obtain ⟨kvs, h1, h2, h3⟩ := h
  exact ⟨kvs, k _ _ h1, h2, fun i e he => (h3 i e he).imp fun _ z => ⟨z.1, z.2.1, z.2.2.same k⟩⟩
theorem kvs_at {H : Hp} {a : Nat} : ∀ {kvs : List (Key × V)} {B : List (Nat × List Int)}, kvs.length = B.length → (∀ (i : Nat) (e : Key × V), kvs[i]? = some e → ∃ x, B[i]? = some x ∧ e.1 = Sum.inl ((x.1 : Nat) : Int) ∧ RowV H e.2 x.2) →
    match rowAt B a with
    | none => valV kvs (Sum.inl (a : Int)) = none
    | some r => ∃ v, valV kvs (Sum.inl (a : Int)) = some v ∧ RowV H v r
  | [], [], _, _ => rfl
  | [], _ :: _, e, _ => by simp at e
  | _ :: _, [], e, _ => by simp at e
  | e :: kvs, x :: B, l, k => by
    obtain ⟨y, ey, e1, e2⟩ := k 0 e rfl
    obtain rfl : x = y := Option.some.inj ey
    have ih := kvs_at (H := H) (a := a) (kvs := kvs) (B := B) (by simpa using l) fun i e he => k (i + 1) e (by simpa using he)
    by_cases c : x.1 = a
    · have h1 : valV (e :: kvs) (Sum.inl (a : Int)) = some e.2 := valV_pos (by rw [e1, c])
      have h2 : rowAt (x :: B) a = some x.2 := by
        unfold rowAt
        rw [List.find?_cons_of_pos (by simpa using c)]; rfl
      rw [h2]
      exact ⟨e.2, h1, e2⟩
    · have h1 : valV (e :: kvs) (Sum.inl (a : Int)) = valV kvs (Sum.inl (a : Int)) := valV_neg (by
        rw [e1]
        intro g
        have := Sum.inl.inj g
        omega)
      have h2 : rowAt (x :: B) a = rowAt B a := by
        unfold rowAt
        rw [List.find?_cons_of_neg (by simpa using c)]
      rw [h1, h2]
      exact ih
section
variable {K : PySem.W.Frag} {σ : L2.St} {H : Hp} {Q : VK}
def DIx (Q : VK) (y x : V) (H2 : Hp) : Prop := ∃ a o, x = .ref a ∧ DGet H2 a y o ∧ Q (.bl o.isSome) H2
def DNx (Q : VK) (y x : V) (H2 : Hp) : Prop := ∃ a o, x = .ref a ∧ DGet H2 a y o ∧ Q (.bl (!o.isSome)) H2
def DG1 (Q : VK) (x y : V) (H2 : Hp) : Prop := ∃ a v, x = .ref a ∧ DGet H2 a y (some v) ∧ Q v H2
theorem r_din {ty td : TE} (h : ty σ H fun y H1 => td σ H1 fun x H2 => DIx Q y x H2) : tDIn ty td σ H Q := h
theorem r_dnin {ty td : TE} (h : ty σ H fun y H1 => td σ H1 fun x H2 => DNx Q y x H2) : tDNotIn ty td σ H Q := h
theorem r_dget {td ty : TE} (h : td σ H fun x H1 => ty σ H1 fun y H2 => DG1 Q x y H2) : tDGet td ty σ H Q := h
theorem r_diB {d : Addr} {B : List (Nat × List Int)} {a : Nat} (h : BD H d B) (q : Q (.bl (rowAt B a).isSome) H) : DIx Q (.int a) (.ref d) H := by
  obtain ⟨kvs, e, l, k⟩ := h
  have := kvs_at (a := a) l k
  refine ⟨d, valV kvs (Sum.inl (a : Int)), rfl, DGet.k (k := Sum.inl (a : Int)) e, ?_⟩
  cases g : rowAt B a with
  | none =>
    rw [g] at this q
    have this : valV kvs (Sum.inl (a : Int)) = none := this
    rw [this]; exact q
  | some r =>
    rw [g] at this q
    obtain ⟨v, ev, _⟩ := this
    rw [ev]; exact q
theorem r_dnB {d : Addr} {B : List (Nat × List Int)} {a : Nat} (h : BD H d B) (q : Q (.bl (!(rowAt B a).isSome)) H) : DNx Q (.int a) (.ref d) H := by
  obtain ⟨kvs, e, l, k⟩ := h
  have := kvs_at (a := a) l k
  refine ⟨d, valV kvs (Sum.inl (a : Int)), rfl, DGet.k (k := Sum.inl (a : Int)) e, ?_⟩
  cases g : rowAt B a with
  | none =>
    rw [g] at this q
    have this : valV kvs (Sum.inl (a : Int)) = none := this
    rw [this]; exact q
  | some r =>
    rw [g] at this q
    obtain ⟨v, ev, _⟩ := this
    rw [ev]; exact q
theorem r_dgB {d : Addr} {B : List (Nat × List Int)} {a : Nat} {r : List Int} (h : BD H d B) (g : rowAt B a = some r) (q : ∀ c, H c = some (.tup (r.map .int)) → Q (.ref c) H) : DG1 Q (.ref d) (.int a) H := by
  obtain ⟨kvs, e, l, k⟩ := h
  have := kvs_at (a := a) l k
  rw [g] at this
  obtain ⟨v, ev, c, rfl, hc⟩ := this
  exact ⟨d, .ref c, rfl, by rw [← ev]; exact DGet.k (k := Sum.inl (a : Int)) e, q c hc⟩
def Dc (J : It) (g : TG) (tt : TT) (tk tv : TE) (vs : List Nat) (σ : L2.St) (D : Addr) (Q : VK) (H1 : Hp) : Prop := ∃ W : Nat → Nat → Hp → Prop, (∃ m, W 0 m (upd H1 D (.dK []))) ∧ ∀ i m H, W i m H →
  (J.stop i H ∧ Q (.ref D) H) ∨ (J.go i H ∧ ∃ Nx : Hp → Prop, (∀ H', Nx H' → ∃ m', m' < m ∧ W (i + 1) m' H') ∧ ∀ x H', J.yld i H x H' → g x (wipe σ vs) H' fun σ2 H2 => wipe σ2 vs = wipe σ vs ∧ tt σ2 H2 fun b H3 =>
    if b = true then tk σ2 H3 fun y H4 => tv σ2 H4 fun z H5 => ∃ kvs k, y = kV k ∧ H5 D = some (.dK kvs) ∧ kvs.length < sizeLine ∧ Nx (upd H5 D (.dK (putK kvs k z))) else Nx H3)
theorem r_dc {wi : TI} {g : TG} {tt : TT} {tk tv : TE} {vs : List Nat} (h : wi σ H fun J H1 => ∀ D, H1 D = none → Dc J g tt tk tv vs σ D Q H1) : tDc wi g tt tk tv vs σ H Q := h
end
local macro_rules | `(tactic| walk_at "st1") => `(tactic| first
  | with_reducible refine r_din ?_
  | with_reducible refine r_dnin ?_
  | with_reducible refine r_dget ?_
  | with_reducible refine r_dc ?_)
/-- reduced rows from which all that is null to some follows -/
structure NulOf (p : Int) (w : Nat) (rows : List (List Int)) (C : List (Nat × List Int)) : Prop where
  red : RedL p w C
  rise : (C.map (·.1)).Pairwise (· < ·)
  sp : ∀ v, Sp0 p (C.map fun x => vec x.2) v ↔ Nul p w (rows.map vec) v
def sp_nulls_of (_ : PySem.W.Frag) : Sp := fun vs H Q _ => ∃ (a : Addr) (p : Int) (w : Nat) (us : List V) (rows : List (List Int)), vs = [.ref a, .int w, .int p] ∧ H a = some (.tup us) ∧ Rws H us rows ∧
  p ∈ primes5 ∧ w ≤ 1000 ∧ rows.length ≤ 1000 ∧ (∀ r ∈ rows, Row p w r) ∧ ∀ (c : Addr) (zs : List V) (C : List (Nat × List Int)) (H' : Hp), Same H H' → H' c = some (.tup zs) → Rws H' zs (C.map (·.2)) → C.length ≤ w → NulOf p w rows C → Q (.ref c) H'
section
variable {P : Program} {w : World} {K : PySem.W.Frag} {mg : Str → Option Value} {base : Heap}
theorem ok_nulls_of (T : Tx K mg) {f_reduced : Addr} {fd_reduced : FuncData} (C_reduced : Cal P w K mg base "reduced" 3 ["rows", "p"] (sp_reduced K) s_reduced f_reduced fd_reduced) {f_first_place : Addr} {fd_first_place : FuncData} (C_first_place : Cal P w K mg base "first_place" 1 ["row"] (sp_first_place K) s_first_place f_first_place fd_first_place) {f : Addr} {fd : FuncData} (F : Here K mg "nulls_of" s_nulls_of ["rows", "width", "p"] f fd) : Cal P w K mg base "nulls_of" 4 ["rows", "width", "p"] (sp_nulls_of K) s_nulls_of f fd := by
  refine F.cal sc_nulls_of (fun vs H Q E h => ?_) (fun cdv A outer s H vs Q E hr h => ?_)
  · obtain ⟨a, p, w, us, rows, rfl, _⟩ := h
    rfl
  · obtain ⟨a, p, w, us, rows, rfl, ha, hR, hp5, hw, hlen, rr, q⟩ := h
    have hp := prime5_le hp5
    refine ⟨_, (pss_cons (ps_set (i := 3) sc_nulls_of.nd rfl (by first | exact .inl rfl | exact .inr rfl) (pe_dc rfl sc_nulls_of.nd (pi_tupK (K := K) (pe_call C_reduced.ok (hr.mono (by decide)) (by rfl) C_reduced.at_ C_reduced.kp C_reduced.b .nil pass0 (pa_cons (pv 0) (pa_cons (pv 2) pa_nil)))) (blkOk_by (own := [("base", 4)]) (N := ["rows", "width", "p", "bases", "base", "nulls", "free", "null", "at"]) (sc := (defScope s_nulls_of)) (by decide +kernel)) (fun _ _ _ _ _ => (pg_name (i := 4) sc_nulls_of.nd rfl (by first | exact .inl rfl | exact .inr rfl))) (fun _ _ _ _ _ => pts_nil) (fun _ _ _ _ _ => (pe_call C_first_place.ok (hr.mono (by decide)) (by rfl) C_first_place.at_ C_first_place.kp C_first_place.b .nil pass0 (pa_cons (pv 4) pa_nil))) (fun _ _ _ _ _ => (pv 4))))
      (pss_cons (ps_set (i := 5) sc_nulls_of.nd rfl (by first | exact .inl rfl | exact .inr rfl) (pe_lst pa_nil))
      (pss_cons (ps_for PassesOwn.never rfl (pi_range1 (by rfl) T.m_range (pa_cons (pv 1) pa_nil)) (pg_name (i := 6) sc_nulls_of.nd rfl (by first | exact .inl rfl | exact .inr rfl)) (pss_one (ps_if (pt_cmp (pc_dnotin (hu_of hr) (pv 6) (pv 3))) (pss_cons (ps_setLc (i := 7) rfl sc_nulls_of.nd rfl rfl (sw_true rfl rfl rfl (by decide +kernel)) (pi_range1 (by rfl) T.m_range (pa_cons (pv 1) pa_nil)) (blkOk_by (own := [("at", 8)]) (N := ["rows", "width", "p", "bases", "base", "nulls", "free", "null", "at"]) (sc := (defScope s_nulls_of)) (by decide +kernel)) (fun _ _ _ _ _ => (pg_name (i := 8) sc_nulls_of.nd rfl (by first | exact .inl rfl | exact .inr rfl))) (fun _ _ _ _ _ => pts_nil) (fun _ _ _ _ _ => (pe_ifExp (pt_cmp (pc_din (hu_of hr) (pv 8) (pv 3))) (pe_op op_mod (pe_un un_neg (pe_ix (ix_tupK (K := K)) (pe_dget (hu_of hr) (pv 3) (pv 8) (fun _ _ => rfl)) (pv 6) (fun _ _ => rfl))) (pv 2)) pe_int)))
      (pss_cons (ps_asg pe_int (pg_sub (pv 7) (pv 6) set_list))
      (pss_one (ps_expr (castBM (K := K) (pe_bm PySem.F.plainAttrs_list PySem.F.slot_list_append PySem.F.type_list_append mt_append (pv 5) (pa_cons (pe_callTy (cr_tupOfK (K := K)) (by rfl) T.m_tuple (by decide +kernel) (pa_cons (pv 7) pa_nil)) pa_nil))))))) pss_nil)))
      (pss_one (ps_ret (pe_call C_reduced.ok (hr.mono (by decide)) (by rfl) C_reduced.at_ C_reduced.kp C_reduced.b .nil pass0 (pa_cons (pv 5) (pa_cons (pv 2) pa_nil)))))))), ?_⟩
    walk_at "st"
    refine ⟨a, p, w, us, rows, rfl, .inl ha, hR, hp5, hw, hlen, rr, fun c zs B H1 sm1 nc ec hz lB hB => ?_⟩
    have lz : zs.length ≤ 1000 := by rw [hz.1, List.length_map]; omega
    walk_at "st"
    intro D hD
    refine dc_tup (K := K) (a := c) (xs := zs) (fun i H' => Same H1 H' ∧ ∃ kvs : List (Key × V), H' D = some (.dK kvs) ∧ kvs.length = i ∧ ∀ (j : Nat) (e : Key × V), kvs[j]? = some e → ∃ x, B[j]? = some x ∧ e.1 = Sum.inl ((x.1 : Nat) : Int) ∧ RowV H' e.2 x.2)
      ⟨Same.upd_new hD, [], upd_same, rfl, fun j e he => by simp at he⟩ (fun i H' _ g => SqT.of (g.1 _ _ ec)) (fun i x H2 ex g => ?_) (fun H2 g => ?_)
    · obtain ⟨sm, kvs, eD, lk, hk⟩ := g
      obtain ⟨r, er, pr⟩ := hz.2 i x ex
      rw [List.getElem?_map] at er
      cases eB : B[i]? with
      | none => rw [eB] at er; cases er
      | some y =>
        rw [eB] at er
        obtain rfl : y.2 = r := Option.some.inj er
        obtain ⟨g, rfl, hg⟩ := pr.same sm
        have my := List.mem_of_getElem? eB
        have ry := hB.red.row y my
        refine ⟨rfl, ?_⟩
        walk_at "st"
        refine ⟨g, y.2, rfl, hg, by rw [ry.len]; exact hw, fun H3 sm3 => ?_⟩
        rw [hB.place my]
        have fresh : valV kvs (Sum.inl ((y.1 : Nat) : Int)) = none := by
          unfold valV
          rw [List.find?_eq_none.mpr fun e m => by
            obtain ⟨j, ej⟩ := List.getElem?_of_mem m
            obtain ⟨z, ez, e1, _⟩ := hk j e ej
            have jl : j < i := by rw [← lk]; exact (List.getElem?_eq_some_iff.mp ej).1
            have : ¬ e.1 = Sum.inl ((y.1 : Nat) : Int) := fun h => by
              rw [e1] at h
              have h1 : z.1 = y.1 := by have := Sum.inl.inj h; omega
              have h2 : z = y := key_inj hB.red.nd (List.mem_of_getElem? ez) my h1
              subst h2
              have nd := nodup_of_keys hB.red.nd
              obtain ⟨h3, h4⟩ := List.getElem?_eq_some_iff.mp ez
              obtain ⟨h5, h6⟩ := List.getElem?_eq_some_iff.mp eB
              exact List.pairwise_iff_getElem.mp nd j i h3 h5 jl (h4.trans h6.symm)
            simpa using this]; rfl
        walk_at "st"
        refine ⟨kvs, Sum.inl ((y.1 : Nat) : Int), rfl, sm3 _ _ eD, by rw [lk]; exact Nat.lt_of_lt_of_le (show i < 1001 by have := (List.getElem?_eq_some_iff.mp eB).1; omega) (by decide), ?_⟩
        rw [putK_new _ fresh]
        refine ⟨fun b o e => hl_set (ne_of_none e hD) (sm3 _ _ (sm _ _ e)), _, upd_same, by rw [List.length_append, lk]; rfl, fun j e he => ?_⟩
        have tup : ∀ {v : V} {r : List Int}, RowV H2 v r → RowV (upd H3 D (.dK (kvs ++ [(Sum.inl ((y.1 : Nat) : Int), V.ref g)]))) v r := fun ⟨c2, e2, h2⟩ => ⟨c2, e2, hl_set (fun z => by rw [z, eD] at h2; cases h2) (sm3 _ _ h2)⟩
        by_cases lt : j < kvs.length
        · rw [List.getElem?_append_left lt] at he
          obtain ⟨x, h1, h2, h3⟩ := hk j e he
          exact ⟨x, h1, h2, tup h3⟩
        · rw [List.getElem?_append_right (by omega)] at he
          cases hj : j - kvs.length with
          | zero =>
            rw [hj] at he
            obtain rfl := Option.some.inj he
            have : j = i := by omega
            subst this
            exact ⟨y, eB, rfl, tup ⟨g, rfl, hg⟩⟩
          | succ m => rw [hj] at he; simp at he
    · obtain ⟨sm2, kvs, eD, lk, hk⟩ := g
      have bd : BD H2 D B := ⟨kvs, eD, by rw [lk, hz.1, List.length_map], hk⟩
      walk_at "st"
      intro ln hln
      walk_at "st"
      refine lp_by (walk_range (lo := 0) (n := Int.toNat ((w : Nat) : Int))) (fun i σ' H' => ∃ x6 x7, σ' = [some (.ref a), some (.int w), some (.int p), some (.ref D), none, some (.ref ln), x6, x7, none] ∧ Same H2 H' ∧ ∃ vs, H' ln = some (.lst vs) ∧ Rws H' vs ((free i B).map (nulL p w B)))
        ⟨none, none, rfl, Same.upd_new hln, [], upd_same, rfl, fun i v e => by simp at e⟩ (fun _ _ _ _ _ => trivial) (fun i x σ' H3 H3' hi g y => ?_) (fun σ' H3 g => ?_)
      · obtain ⟨x6, x7, rfl, sm3, vs, eln, hvs⟩ := g
        obtain ⟨rfl, ex⟩ := y
        obtain rfl : x = V.int (i : Int) := by rw [ex]; show V.int (0 + (i : Int)) = _; rw [Int.zero_add]
        replace hi : i < w := by simpa using hi
        have bd3 := bd.same sm3
        have lv : vs.length ≤ i := by
          rw [hvs.1, List.length_map]
          have := List.length_filter_le (fun f => decide (f ∉ B.map (·.1))) (List.range i)
          rw [List.length_range] at this
          exact this
        have fr : free (i + 1) B = free i B ++ if (rowAt B i).isSome = true then [] else [i] := by
          unfold free
          rw [List.range_succ, List.filter_append]
          congr 1
          by_cases hk : i ∈ B.map (·.1)
          · obtain ⟨x, hx, e⟩ := List.mem_map.mp hk
            rw [← e, rowAt_in hB.red.nd hx, e, List.filter_cons_of_neg (by simpa using hk)]; rfl
          · rw [rowAt_out hk, List.filter_cons_of_pos (by simpa using hk)]; rfl
        walk_at "st"
        walk_at "if"
        refine r_dnB bd3 ?_
        walk_at "st"
        cases gi : rowAt B i with
        | some r =>
          rw [show (!(some r).isSome) = false from rfl]
          walk_at "st"
          refine ⟨_, _, rfl, sm3, vs, eln, ?_⟩
          rw [fr, gi]
          simpa using hvs
        | none =>
          rw [show (!(none : Option (List Int)).isSome) = true from rfl]
          walk_at "st"
          intro D2 hD2
          refine lc_map (walk_range (lo := 0) (n := Int.toNat ((w : Nat) : Int))) (by omega) hD2 (fun j y _ => y = V.int (negL p B i j)) (fun _ _ _ _ h _ => h) (fun _ _ _ _ _ h _ => h) (fun _ _ => trivial) (fun i H1 x H2 y => by rw [y.1]; exact Same.refl _)
            (fun j x H4 H5 Y No hj sm4 y hY => ?_) (fun ys H4 el4 sm4 eD4 hys => ?_)
          · obtain ⟨rfl, ex⟩ := y
            obtain rfl : x = V.int (j : Int) := by rw [ex]; show V.int (0 + (j : Int)) = _; rw [Int.zero_add]
            have bd4 := bd3.same sm4
            refine ⟨rfl, ?_⟩
            walk_at "st"
            refine r_diB bd4 ?_
            walk_at "st"
            cases gj : rowAt B j with
            | none =>
              rw [show (none : Option (List Int)).isSome = false from rfl]
              walk_at "st"
              refine hY _ _ (Same.refl _) ?_
              unfold negL; rw [gj]
            | some r =>
              rw [show (some r).isSome = true from rfl]
              walk_at "st"
              refine r_dgB bd4 gj fun c hc => ?_
              have lr : r.length = w := by
                have : (j, r) ∈ B.map (fun x => (x.1, x.2)) := by
                  unfold rowAt at gj
                  cases gf : B.find? fun x => decide (x.1 = j) with
                  | none => rw [gf] at gj; cases gj
                  | some x =>
                    rw [gf] at gj
                    have e1 : x.1 = j := of_decide_eq_true (by have := List.find?_some gf; exact this)
                    obtain rfl : x.2 = r := Option.some.inj gj
                    exact List.mem_map.mpr ⟨x, List.mem_of_find?_eq_some gf, by rw [← e1]⟩
                obtain ⟨x, hx, e⟩ := List.mem_map.mp this
                have := (hB.red.row x hx).len
                have e2 : x.2 = r := congrArg Prod.snd e
                rw [← e2]; exact this
              have hix := atI_vec (l := r) (a := i) (by rw [lr]; exact hi)
              walk_at "st"
              refine hY _ _ (Same.refl _) ?_
              unfold negL; rw [gj]
          · have eys : ys = ((List.range w).map (negL p B i)).map V.int := by
              apply List.ext_getElem?
              intro j
              cases e2 : ys[j]? with
              | none =>
                rw [List.getElem?_eq_none_iff] at e2
                rw [List.getElem?_eq_none_iff.mpr (by simp; omega)]
              | some y =>
                have := hys j y e2
                have jl : j < w := by have := (List.getElem?_eq_some_iff.mp e2).1; omega
                rw [List.getElem?_map, List.getElem?_map, List.getElem?_range jl, this]; rfl
            have lys : ys.length = w := by rw [el4]; omega
            have hix : ixN ys.length (i : Int) = some i := by
              unfold ixN
              rw [if_pos (by omega), if_pos (by omega)]; rfl
            have eln4 := sm4 _ _ eln
            have nlD : ln ≠ D2 := ne_of_none eln hD2
            walk_at "st"
            intro c hc
            have S5 : Same H3' (upd (upd H4 D2 (.lst (ys.set i (.int 1)))) c (.tup (ys.set i (.int 1)))) := fun b o e => hl_new (hl_set (ne_of_none e hD2) (sm4 _ _ e)) hc
            have eln5 := S5 _ _ eln
            have hvs5 := hvs.same S5
            have ec5 : upd (upd H4 D2 (.lst (ys.set i (.int 1)))) c (.tup (ys.set i (.int 1))) c = some (.tup (ys.set i (.int 1))) := upd_same
            generalize upd (upd H4 D2 (.lst (ys.set i (.int 1)))) c (.tup (ys.set i (.int 1))) = H6 at *
            walk_at "st"
            refine ⟨_, _, rfl, fun b o e => hl_set (ne_of_none e hln) (S5 _ _ (sm3 _ _ e)), _, upd_same, ?_⟩
            rw [fr, gi]
            have e3 : ((free i B ++ if (none : Option (List Int)).isSome = true then [] else [i]).map (nulL p w B)) = (free i B).map (nulL p w B) ++ [nulL p w B i] := by simp
            rw [e3]
            refine ((hvs5.append ?_).upd eln5)
            refine ⟨rfl, fun j v e => ?_⟩
            cases j with
            | zero =>
              obtain rfl := Option.some.inj e
              refine ⟨_, rfl, c, rfl, ?_⟩
              rw [ec5, eys]
              unfold nulL
              rw [List.map_set]
            | succ j => simp at e
      · obtain ⟨x6, x7, rfl, sm3, vs, eln, hvs⟩ := g
        have ew : Int.toNat ((w : Nat) : Int) = w := by omega
        rw [ew] at hvs
        have lf : (free w B).length ≤ w := by
          have := List.length_filter_le (fun f => decide (f ∉ B.map (·.1))) (List.range w)
          rw [List.length_range] at this
          exact this
        walk_at "st"
        refine ⟨ln, p, w, vs, _, rfl, .inr eln, hvs, hp5, hw, by rw [List.length_map]; omega, fun r m => ?_, fun c2 zs2 C H4 sm4 nc4 ec4 hz4 lC hC => ?_⟩
        · obtain ⟨f, _, rfl⟩ := List.mem_map.mp m
          exact nulL_row hp.1 B f
        · refine q c2 zs2 C H4 (((sm1.trans sm2).trans sm3).trans sm4) ec4 hz4 hC.len ⟨hC.red, hC.rise, fun v => (hC.sp v).trans (nulls_sp hB v)⟩
end
/-! ### columns put otherwise; rows without some columns -/
section
variable {p : Int} {w : Nat}
theorem red_any {inv : Int → Int} (p2 : 2 ≤ p) (hi : InvOk p inv) {rows : List (List Int)} (hr : ∀ r ∈ rows, Row p w r) : ∃ B, RedL p w B ∧ ∀ v, Sp0 p (B.map fun x => vec x.2) v ↔ Sp0 p (rows.map vec) v := by
  obtain ⟨h1, h2⟩ := fold_ok p2 hi rows [] ⟨fun _ z => (by cases z), fun _ z => (by cases z), fun _ z => (by cases z), fun _ z => (by cases z), List.nodup_nil⟩ hr
  refine ⟨_, h1, fun v => ?_⟩
  rw [h2 v]
  simp
/-- the other way, of any rows -/
theorem dual {inv : Int → Int} (p2 : 2 ≤ p) (hi : InvOk p inv) {rows : List (List Int)} (hr : ∀ r ∈ rows, Row p w r) {M : List Vec} (k : ∀ v, Sp0 p M v ↔ Nul p w (rows.map vec) v) (v : Vec) : Sp0 p (rows.map vec) v ↔ Nul p w M v := by
  obtain ⟨B, hB, sB⟩ := red_any p2 hi hr
  rw [← sB v]
  exact hB.dual (fun u => (k u).trans (Nul.eqv sB u).symm) v
/-- one and the same where the same follows -/
theorem red_same {B C : List (Nat × List Int)} (hB : RedL p w B) (hC : RedL p w C) (p2 : 2 ≤ p) (rB : (B.map (·.1)).Pairwise (· < ·)) (rC : (C.map (·.1)).Pairwise (· < ·)) (e : ∀ v, Sp0 p (B.map fun x => vec x.2) v ↔ Sp0 p (C.map fun x => vec x.2) v) : B = C :=
  hB.same hC p2 rB rC (fun x m => (e _).mp (.of (List.mem_map.mpr ⟨x, m, rfl⟩))) (fun x m => (e _).mpr (.of (List.mem_map.mpr ⟨x, m, rfl⟩)))
theorem sp_out {rows : List (List Int)} (hr : ∀ r ∈ rows, Row p w r) {v : Vec} (k : Sp0 p (rows.map vec) v) : ∀ i, w ≤ i → p ∣ v i := fun i hi => by
  induction k with
  | @zero v e => have := e i; rwa [Int.sub_zero] at this
  | @add u v r c m _ e ih =>
    obtain ⟨l, hl, rfl⟩ := List.mem_map.mp m
    have h1 : p ∣ v i - (u i + c * vec l i) := e i
    rw [vec_out (by rw [(hr l hl).len]; exact hi), Int.mul_zero, Int.add_zero] at h1
    have := Int.dvd_add h1 ih
    rwa [Int.sub_add_cancel] at this
theorem perm_sum {a b : List Int} (h : a.Perm b) : a.sum = b.sum := by
  induction h with
  | nil => rfl
  | cons x _ ih => rw [List.sum_cons, List.sum_cons, ih]
  | swap x y l => rw [List.sum_cons, List.sum_cons, List.sum_cons, List.sum_cons]; omega
  | trans _ _ ih1 ih2 => exact ih1.trans ih2
def orderV (o : List Nat) (v : Vec) : Vec := fun j => match o[j]? with
  | some i => v i
  | none => 0
def backV (o : List Nat) (u : Vec) : Vec := fun i => if i ∈ o then u (o.idxOf i) else 0
def shiftV (m : Nat) (y : Vec) : Vec := fun j => if j < m then 0 else y (j - m)
def turnL (o : List Nat) (r : List Int) : List Int := o.map (vec r)
structure Ord (w : Nat) (o : List Nat) : Prop where
  nd : o.Nodup
  len : o.length = w
  mem : ∀ i, i ∈ o ↔ i < w
theorem vec_turn (o : List Nat) (r : List Int) : vec (turnL o r) = orderV o (vec r) := by
  funext j
  unfold orderV turnL
  by_cases h : j < o.length
  · rw [vec_in (by rw [List.length_map]; exact h), List.getElem_map, List.getElem?_eq_getElem h]
  · rw [vec_out (by rw [List.length_map]; omega), List.getElem?_eq_none (by omega)]
theorem lin_map {f : Vec → Vec} (hz : ∀ i, f (fun _ => 0) i = 0) (hl : ∀ u v c, f (fun i => u i + c * v i) = fun i => f u i + c * f v i) (hc : ∀ u v, Cg p u v → Cg p (f u) (f v)) {L : List Vec} {v : Vec} (k : Sp0 p L v) : Sp0 p (L.map f) (f v) := by
  induction k with
  | zero e => exact .zero ((hc _ _ e).trans fun i => by rw [hz i]; show p ∣ 0 - 0; exact Int.dvd_zero p)
  | add m _ e ih => exact .add (List.mem_map.mpr ⟨_, m, rfl⟩) ih (by rw [← hl]; exact hc _ _ e)
theorem perm_lin (o : List Nat) {L : List Vec} {v : Vec} (k : Sp0 p L v) : Sp0 p (L.map (orderV o)) (orderV o v) := by
  refine lin_map (f := orderV o) (fun i => ?_) (fun u v c => ?_) (fun u v h i => ?_) k
  · unfold orderV; split <;> rfl
  · funext i; unfold orderV; split
    · rfl
    · omega
  · unfold orderV; split
    · exact h _
    · exact Int.dvd_zero p
theorem back_lin (o : List Nat) {L : List Vec} {v : Vec} (k : Sp0 p L v) : Sp0 p (L.map (backV o)) (backV o v) := by
  refine lin_map (f := backV o) (fun i => ?_) (fun u v c => ?_) (fun u v h i => ?_) k
  · unfold backV; split <;> rfl
  · funext i; unfold backV; split
    · rfl
    · omega
  · unfold backV; split
    · exact h _
    · exact Int.dvd_zero p
theorem shift_lin (m : Nat) {L : List Vec} {v : Vec} (k : Sp0 p L v) : Sp0 p (L.map (shiftV m)) (shiftV m v) := by
  refine lin_map (f := shiftV m) (fun i => ?_) (fun u v c => ?_) (fun u v h i => ?_) k
  · unfold shiftV; split <;> rfl
  · funext i; unfold shiftV; split
    · omega
    · rfl
  · unfold shiftV; split
    · exact Int.dvd_zero p
    · exact h _
theorem back_perm {o : List Nat} (h : Ord w o) {v : Vec} (hv : ∀ i, w ≤ i → p ∣ v i) : Cg p (backV o (orderV o v)) v := fun i => by
  unfold backV
  by_cases hi : i ∈ o
  · rw [if_pos hi]
    unfold orderV
    have hl := List.idxOf_lt_length_of_mem hi
    rw [List.getElem?_eq_getElem hl, List.getElem_idxOf hl, Int.sub_self]
    exact Int.dvd_zero p
  · rw [if_neg hi]
    have := hv i (Nat.le_of_not_lt fun e => hi ((h.mem i).mpr e))
    rw [Int.zero_sub]
    exact Int.dvd_neg.mpr this
theorem perm_back {o : List Nat} (h : Ord w o) {u : Vec} (hu : ∀ i, w ≤ i → p ∣ u i) : Cg p (orderV o (backV o u)) u := fun j => by
  unfold orderV
  by_cases hj : j < o.length
  · rw [List.getElem?_eq_getElem hj]
    show p ∣ backV o u o[j] - u j
    unfold backV
    rw [if_pos (List.getElem_mem hj), List.Nodup.idxOf_getElem h.nd j hj, Int.sub_self]
    exact Int.dvd_zero p
  · rw [List.getElem?_eq_none (by omega)]
    show p ∣ 0 - u j
    rw [Int.zero_sub]
    exact Int.dvd_neg.mpr (hu j (by rw [h.len] at hj; omega))
theorem turn_row {o : List Nat} (h : Ord w o) (hp : 0 < p) {r : List Int} (hr : Row p w r) : Row p w (turnL o r) := ⟨by unfold turnL; rw [List.length_map, h.len], fun x m => by
  obtain ⟨i, _, rfl⟩ := List.mem_map.mp m
  exact hr.at hp i⟩
/-- what follows from turned rows -/
theorem turn_sp {o : List Nat} (h : Ord w o) {rows : List (List Int)} (hr : ∀ r ∈ rows, Row p w r) {u : Vec} (hu : ∀ i, w ≤ i → p ∣ u i) : Sp0 p ((rows.map (turnL o)).map vec) u ↔ Sp0 p (rows.map vec) (backV o u) := by
  have e : (rows.map (turnL o)).map vec = (rows.map vec).map (orderV o) := by
    rw [List.map_map, List.map_map]
    exact List.map_congr_left fun r _ => vec_turn o r
  rw [e]
  constructor
  · intro k
    refine Sp0.trans (fun v m => ?_) (back_lin o k)
    obtain ⟨q, hq, rfl⟩ := List.mem_map.mp m
    obtain ⟨s, hs, rfl⟩ := List.mem_map.mp hq
    obtain ⟨r, hr2, rfl⟩ := List.mem_map.mp hs
    refine (Sp0.of (List.mem_map.mpr ⟨r, hr2, rfl⟩)).cg (back_perm h fun i hi => ?_)
    rw [vec_out (by rw [(hr r hr2).len]; exact hi)]; exact Int.dvd_zero p
  · intro k
    exact (perm_lin o k).cg (perm_back h hu).symm
/-- the reduced rows that have noughts in the first columns, without these -/
def cutB (m : Nat) (B : List (Nat × List Int)) : List (Nat × List Int) := (B.filter fun x => decide (m ≤ x.1)).map fun x => (x.1 - m, x.2.drop m)
theorem vec_drop (m : Nat) (l : List Int) (j : Nat) : vec (l.drop m) j = vec l (m + j) := by
  unfold vec; rw [List.getD_eq_getElem?_getD, List.getD_eq_getElem?_getD, List.getElem?_drop]
theorem cut_red {m : Nat} (hm : m ≤ w) {B : List (Nat × List Int)} (h : RedL p w B) : RedL p (w - m) (cutB m B) := by
  have mem : ∀ x ∈ cutB m B, ∃ y ∈ B, m ≤ y.1 ∧ x = (y.1 - m, y.2.drop m) := fun x hx => by
    obtain ⟨y, hy, rfl⟩ := List.mem_map.mp hx
    have := List.mem_filter.mp hy
    exact ⟨y, this.1, of_decide_eq_true this.2, rfl⟩
  refine ⟨fun x hx => ?_, fun x hx => ?_, fun x hx i hi => ?_, fun x hx y hy ne => ?_, ?_⟩
  · obtain ⟨y, hy, _, rfl⟩ := mem x hx
    have r := h.row y hy
    exact ⟨by rw [List.length_drop, r.len], fun z mz => r.num z (List.mem_of_mem_drop mz)⟩
  · obtain ⟨y, hy, my, rfl⟩ := mem x hx
    have o := h.one y hy
    refine ⟨by show y.1 - m < w - m; omega, ?_⟩
    show vec (y.2.drop m) (y.1 - m) = 1
    rw [vec_drop, show m + (y.1 - m) = y.1 by omega]; exact o.2
  · obtain ⟨y, hy, my, rfl⟩ := mem x hx
    have hi : i < y.1 - m := hi
    show vec (y.2.drop m) i = 0
    rw [vec_drop]; exact h.low y hy _ (by omega)
  · obtain ⟨a, ha, ma, rfl⟩ := mem x hx
    obtain ⟨b, hb, mb, rfl⟩ := mem y hy
    have ne : a.1 - m ≠ b.1 - m := ne
    show vec (a.2.drop m) (b.1 - m) = 0
    rw [vec_drop, show m + (b.1 - m) = b.1 by omega]
    exact h.off a ha b hb fun e => ne (by rw [e])
  · unfold cutB
    rw [List.map_map]
    have sub : (B.filter fun x => decide (m ≤ x.1)).Sublist B := List.filter_sublist
    have nd : ((B.filter fun x => decide (m ≤ x.1)).map (·.1)).Nodup := h.nd.sublist (sub.map _)
    refine List.pairwise_map.mpr (List.Pairwise.imp_of_mem (fun {x y} hx hy ne => ?_) (List.pairwise_map.mp nd))
    have h1 : m ≤ x.1 := of_decide_eq_true (List.mem_filter.mp hx).2
    have h2 : m ≤ y.1 := of_decide_eq_true (List.mem_filter.mp hy).2
    show x.1 - m ≠ y.1 - m
    omega
theorem cut_rise {m : Nat} {B : List (Nat × List Int)} (h : (B.map (·.1)).Pairwise (· < ·)) : ((cutB m B).map (·.1)).Pairwise (· < ·) := by
  unfold cutB
  rw [List.map_map]
  have sub : (B.filter fun x => decide (m ≤ x.1)).Sublist B := List.filter_sublist
  have nd : ((B.filter fun x => decide (m ≤ x.1)).map (·.1)).Pairwise (· < ·) := h.sublist (sub.map _)
  refine List.pairwise_map.mpr (List.Pairwise.imp_of_mem (fun {x y} hx hy ne => ?_) (List.pairwise_map.mp nd))
  have h1 : m ≤ x.1 := of_decide_eq_true (List.mem_filter.mp hx).2
  have h2 : m ≤ y.1 := of_decide_eq_true (List.mem_filter.mp hy).2
  show x.1 - m < y.1 - m
  omega
theorem cut_sp {m : Nat} {B : List (Nat × List Int)} (h : RedL p w B) (y : Vec) : Sp0 p ((cutB m B).map fun x => vec x.2) y ↔ Sp0 p (B.map fun x => vec x.2) (shiftV m y) := by
  constructor
  · intro k
    refine Sp0.trans (fun v mv => ?_) (shift_lin m k)
    obtain ⟨u, hu, rfl⟩ := List.mem_map.mp mv
    obtain ⟨x, hx, rfl⟩ := List.mem_map.mp hu
    obtain ⟨z, hz, rfl⟩ := List.mem_map.mp hx
    have hz2 := List.mem_filter.mp hz
    have mz : m ≤ z.1 := of_decide_eq_true hz2.2
    have e : shiftV m (vec (z.2.drop m)) = vec z.2 := by
      funext j
      unfold shiftV
      by_cases c : j < m
      · rw [if_pos c, h.low z hz2.1 j (by omega)]
      · rw [if_neg c, vec_drop, show m + (j - m) = j by omega]
    rw [e]; exact .of (List.mem_map.mpr ⟨z, hz2.1, rfl⟩)
  · intro k
    have t := h.red.told (p := p) (v := shiftV m y) (by rw [vecs_rows]; exact k)
    have e : ∀ S : List (Nat × List Int), (∀ x ∈ S, x ∈ B) → ∀ j, proj (vecs S) (shiftV m y) (m + j) = ((cutB m S).map fun x => y x.1 * vec x.2 j).sum := fun S => by
      induction S with
      | nil => intro _ j; rfl
      | cons x S ih =>
        intro sub j
        have ih := ih (fun z hz => sub z (List.mem_cons_of_mem _ hz)) j
        show proj ((x.1, vec x.2) :: vecs S) (shiftV m y) (m + j) = _
        rw [proj_cons, ih]
        unfold cutB
        by_cases c : m ≤ x.1
        · rw [List.filter_cons_of_pos (by simpa using c), List.map_cons, List.map_cons, List.sum_cons]
          show shiftV m y x.1 * vec x.2 (m + j) + _ = y (x.1 - m) * vec (x.2.drop m) j + _
          rw [vec_drop]
          unfold shiftV
          rw [if_neg (by omega)]
        · rw [List.filter_cons_of_neg (by simpa using c)]
          show shiftV m y x.1 * vec x.2 (m + j) + _ = _
          unfold shiftV
          rw [if_pos (by omega), Int.zero_mul, Int.zero_add]
    have lin : Sp0 p ((cutB m B).map fun x => vec x.2) (fun j => ((cutB m B).map fun x => y x.1 * vec x.2 j).sum) := by
      have gen : ∀ S : List (Nat × List Int), (∀ x ∈ S, x ∈ cutB m B) → Sp0 p ((cutB m B).map fun x => vec x.2) (fun j => (S.map fun x => y x.1 * vec x.2 j).sum) := fun S => by
        induction S with
        | nil => intro _; exact .zero fun i => by show p ∣ 0 - 0; exact Int.dvd_zero p
        | cons x S ih =>
          intro sub
          have := (ih fun z hz => sub z (List.mem_cons_of_mem _ hz)).plus (.of (List.mem_map.mpr ⟨x, sub x List.mem_cons_self, rfl⟩)) (y x.1)
          refine this.cg fun i => ?_
          rw [List.map_cons, List.sum_cons]
          show p ∣ y x.1 * vec x.2 i + _ - (_ + y x.1 * vec x.2 i)
          rw [Int.add_comm, Int.sub_self]; exact Int.dvd_zero p
      exact gen _ fun x m => m
    refine lin.cg fun j => ?_
    have tj := t (m + j)
    rw [e B (fun x m => m) j] at tj
    have e2 : shiftV m y (m + j) = y j := by
      unfold shiftV
      rw [if_neg (by omega), show m + j - m = j by omega]
    rw [e2] at tj
    exact tj
/-! products with rows that are led back among the columns -/
theorem dot_back {o : List Nat} (h : Ord w o) (u v : Vec) : dotV w v (backV o u) = dotV w (orderV o v) u := by
  have h1 : dotV w v (backV o u) = (o.map fun i => v i * backV o u i).sum := by
    unfold dotV smI
    have pm : (List.range w).Perm o := (List.perm_ext_iff_of_nodup List.nodup_range h.nd).mpr fun i => by rw [List.mem_range, h.mem]
    exact perm_sum (pm.map _)
  have h2 : dotV w (orderV o v) u = ((List.range w).map fun j => orderV o v j * u j).sum := rfl
  rw [h1, h2]
  congr 1
  apply List.ext_getElem
  · rw [List.length_map, List.length_map, List.length_range, h.len]
  · intro j a b
    rw [List.getElem_map, List.getElem_map, List.getElem_range]
    have hj : j < o.length := by rw [List.length_map] at a; exact a
    unfold orderV backV
    rw [if_pos (List.getElem_mem hj), List.Nodup.idxOf_getElem h.nd j hj, List.getElem?_eq_getElem hj]
theorem smI_shift (m : Nat) : ∀ (n : Nat) (f : Nat → Int), (∀ i, i < m → f i = 0) → smI (m + n) f = smI n fun j => f (m + j)
  | 0, f, h => by
    rw [Nat.add_zero, smI_zero, smI_congr (g := fun _ => 0) h, smI_nil]
  | n + 1, f, h => by
    rw [show m + (n + 1) = m + n + 1 by omega, smI_succ, smI_succ, smI_shift m n f h]
theorem dot_shift {m : Nat} (hm : m ≤ w) (u y : Vec) : dotV w u (shiftV m y) = dotV (w - m) (fun j => u (m + j)) y := by
  unfold dotV
  have := smI_shift m (w - m) (fun i => u i * shiftV m y i) fun i hi => by
    unfold shiftV; rw [if_pos hi, Int.mul_zero]
  rw [show m + (w - m) = w by omega] at this
  rw [this]
  refine smI_congr fun j _ => ?_
  unfold shiftV
  rw [if_neg (by omega), show m + j - m = j by omega]
theorem ord_of {S R : List Nat} (ndS : S.Nodup) (hS : ∀ i ∈ S, i < w) (hR : R = (List.range w).filter fun i => decide (i ∉ S)) : Ord w (S ++ R) := by
  subst hR
  have nd : (S ++ (List.range w).filter fun i => decide (i ∉ S)).Nodup := List.nodup_append.mpr ⟨ndS, List.nodup_range.sublist List.filter_sublist, fun a ha b hb e => by
    have := of_decide_eq_true (List.mem_filter.mp hb).2
    exact this (e ▸ ha)⟩
  have mem : ∀ i, i ∈ S ++ (List.range w).filter (fun i => decide (i ∉ S)) ↔ i < w := fun i => by
    rw [List.mem_append, List.mem_filter, List.mem_range, decide_eq_true_iff]
    constructor
    · rintro (h | h)
      · exact hS i h
      · exact h.1
    · intro h
      by_cases c : i ∈ S
      · exact .inl c
      · exact .inr ⟨h, c⟩
  refine ⟨nd, ?_, mem⟩
  have pm : (S ++ (List.range w).filter fun i => decide (i ∉ S)).Perm (List.range w) := (List.perm_ext_iff_of_nodup nd List.nodup_range).mpr fun i => by rw [mem, List.mem_range]
  rw [pm.length_eq, List.length_range]
end
/-! ### how many rows: as many that hang on none of each other as others from which they follow at the most -/
section
variable {p : Int} {w : Nat}
def cmb (n : Nat) (x : Nat → Int) (A : Nat → Vec) : Vec := fun i => smI n fun j => x j * A j i
def Ind (p : Int) (n : Nat) (A : Nat → Vec) : Prop := ∀ x : Nat → Int, (∀ i, p ∣ cmb n x A i) → ∀ j, j < n → p ∣ x j
def rowsV (L : List Vec) : Nat → Vec := fun j => L.getD j fun _ => 0
theorem smI_dvd {n : Nat} {f : Nat → Int} (h : ∀ j, j < n → p ∣ f j) : p ∣ smI n f := by
  unfold smI
  refine sum_dvd fun x m => ?_
  obtain ⟨j, hj, rfl⟩ := List.mem_map.mp m
  exact h j (List.mem_range.mp hj)
theorem smI_sub (n : Nat) (f g : Nat → Int) : smI n (fun i => f i - g i) = smI n f - smI n g := by
  have h := smI_add n (fun i => f i - g i) g
  have e : smI n (fun i => f i - g i + g i) = smI n f := smI_congr fun i _ => by omega
  omega
theorem sp_cmb {L : List Vec} {v : Vec} (h : Sp0 p L v) : ∃ x : Nat → Int, Cg p v (cmb L.length x (rowsV L)) := by
  induction h with
  | @zero v e =>
    refine ⟨fun _ => 0, fun i => ?_⟩
    have z : cmb L.length (fun _ => 0) (rowsV L) i = 0 := by
      unfold cmb
      rw [smI_congr (g := fun _ => 0) fun j _ => Int.zero_mul _, smI_nil]
    rw [z]; exact e i
  | @add u v r c m _ e ih =>
    obtain ⟨x, hx⟩ := ih
    obtain ⟨j, hj, ej⟩ := List.getElem_of_mem m
    refine ⟨fun k => x k + (if k = j then c else 0), fun i => ?_⟩
    have rj : rowsV L j = r := by unfold rowsV; rw [List.getD_eq_getElem?_getD, List.getElem?_eq_getElem hj, ej]; rfl
    have z : cmb L.length (fun k => x k + (if k = j then c else 0)) (rowsV L) i = cmb L.length x (rowsV L) i + c * r i := by
      unfold cmb
      have h1 := dot_unit (w := L.length) (fun k => c * rowsV L k i) hj
      rw [rj] at h1
      rw [← h1, ← smI_add]
      exact smI_congr fun k _ => by
        by_cases hk : k = j
        · show (x k + if k = j then c else 0) * _ = _
          rw [if_pos hk, if_pos hk, Int.add_mul, Int.mul_one]
        · show (x k + if k = j then c else 0) * _ = _
          rw [if_neg hk, if_neg hk, Int.mul_zero, Int.add_zero, Int.add_zero]
    rw [z]
    have h1 := Int.dvd_add (e i) (hx i)
    have e3 : v i - (u i + c * r i) + (u i - cmb L.length x (rowsV L) i) = v i - (cmb L.length x (rowsV L) i + c * r i) := by omega
    rwa [e3] at h1
theorem step_len (inv : Int → Int) (B : List (Nat × List Int)) (row : List Int) : (stepL p inv B row).length ≤ B.length + 1 := by
  unfold stepL
  dsimp only
  split
  · rw [List.length_append, List.length_map]; exact Nat.le_refl _
  · omega
theorem fold_len (inv : Int → Int) : ∀ (rows : List (List Int)) (B : List (Nat × List Int)), (rows.foldl (stepL p inv) B).length ≤ B.length + rows.length
  | [], B => Nat.le_refl _
  | r :: rows, B => by
    rw [List.foldl_cons, List.length_cons]
    have := fold_len inv rows (stepL p inv B r)
    have := step_len (p := p) inv B r
    omega
theorem erase_len {l : List Nat} {a : Nat} (h : a ∈ l) : (l.erase a).length + 1 = l.length := by
  have := List.length_erase_of_mem h
  have := List.length_pos_of_mem h
  omega
theorem sub_len : ∀ {l m : List Nat}, l.Nodup → (∀ a ∈ l, a ∈ m) → l.length ≤ m.length
  | [], m, _, _ => Nat.zero_le _
  | a :: l, m, nd, h => by
    have nd2 := List.nodup_cons.mp nd
    have ih := sub_len (m := m.erase a) nd2.2 fun b mb => (List.mem_erase_of_ne fun e => by subst e; exact nd2.1 mb).mpr (h b (List.mem_cons_of_mem _ mb))
    have := erase_len (h a List.mem_cons_self)
    rw [List.length_cons]
    omega
theorem free_one {B : List (Nat × List Int)} (h : B.length < w) : ∃ f, f ∈ free w B := by
  refine Classical.byContradiction fun no => ?_
  have := sub_len (l := List.range w) (m := B.map (·.1)) List.nodup_range fun a m => Classical.byContradiction fun z => no ⟨a, mem_free.mpr ⟨List.mem_range.mp m, z⟩⟩
  rw [List.length_range, List.length_map] at this
  omega
/-- fewer rows than columns: a null that is not nought -/
theorem some_null {inv : Int → Int} (p2 : 2 ≤ p) (hi : InvOk p inv) {rows : List (List Int)} (hr : ∀ r ∈ rows, Row p w r) (l : rows.length < w) : ∃ x : Vec, Nul p w (rows.map vec) x ∧ ∃ f, f < w ∧ x f = 1 := by
  obtain ⟨h1, h2⟩ := fold_ok p2 hi rows [] ⟨fun _ z => (by cases z), fun _ z => (by cases z), fun _ z => (by cases z), fun _ z => (by cases z), List.nodup_nil⟩ hr
  have hl := fold_len (p := p) inv rows []
  obtain ⟨f, mf⟩ := free_one (w := w) (B := rows.foldl (stepL p inv) []) (by have : ([] : List (Nat × List Int)).length = 0 := rfl; omega)
  refine ⟨nulV (rows.foldl (stepL p inv) []) f, ?_, f, (mem_free.mp mf).1, ?_⟩
  · exact (Nul.eqv (fun v => by rw [h2 v]; simp) _).mp ((h1.nuls _).mp (.of (List.mem_map_of_mem mf)))
  · rw [nulV_free (mem_free.mp mf).2, if_pos rfl]
/-- rows of which none hangs on the others are no more than rows from which they all follow -/
theorem steinitz {inv : Int → Int} (p2 : 2 ≤ p) (hi : InvOk p inv) {n m : Nat} {A E : Nat → Vec} (hA : ∀ j, j < n → ∃ x : Nat → Int, Cg p (A j) (cmb m x E)) (ind : Ind p n A) : n ≤ m := by
  refine Classical.byContradiction fun no => ?_
  have hp : 0 < p := by omega
  obtain ⟨C, hC⟩ : ∃ C : Nat → Nat → Int, ∀ j, j < n → Cg p (A j) (cmb m (C j) E) := by
    refine ⟨fun j => if h : j < n then (hA j h).choose else fun _ => 0, fun j h => ?_⟩
    show Cg p (A j) (cmb m (if h : j < n then (hA j h).choose else fun _ => 0) E)
    rw [dif_pos h]
    exact (hA j h).choose_spec
  have hrow : ∀ r ∈ (List.range m).map (fun k => (List.range n).map fun j => C j k % p), Row p n r := fun r mr => by
    obtain ⟨k, _, rfl⟩ := List.mem_map.mp mr
    refine ⟨by rw [List.length_map, List.length_range], fun x mx => ?_⟩
    obtain ⟨j, _, rfl⟩ := List.mem_map.mp mx
    exact ⟨Int.emod_nonneg _ (by omega), Int.emod_lt_of_pos _ hp⟩
  obtain ⟨x, nx, f, hf, xf⟩ := some_null p2 hi hrow (by rw [List.length_map, List.length_range]; omega)
  have col : ∀ k, k < m → p ∣ smI n fun j => x j * C j k := fun k hk => by
    have h1 := nx.nul _ (List.mem_map_of_mem (f := vec) (List.mem_map_of_mem (f := fun k => (List.range n).map fun j => C j k % p) (List.mem_range.mpr hk)))
    unfold dotV at h1
    have h2 : p ∣ smI n fun j => x j * C j k - vec ((List.range n).map fun j => C j k % p) j * x j := smI_dvd fun j hj => by
      have e : vec ((List.range n).map fun j => C j k % p) j = C j k % p := by
        rw [vec_in (by rw [List.length_map, List.length_range]; exact hj)]
        simp
      rw [e, Int.mul_comm (x j), ← Int.sub_mul]
      have := emod_dvd (C j k) p
      have := Int.dvd_neg.mpr this
      rw [Int.neg_sub] at this
      exact Int.dvd_mul_of_dvd_left this
    rw [smI_sub] at h2
    have := Int.dvd_add h2 h1
    rwa [Int.sub_add_cancel] at this
  have zero : ∀ i, p ∣ cmb n x A i := fun i => by
    have h1 : p ∣ cmb n x A i - smI n fun j => x j * cmb m (C j) E i := by
      unfold cmb
      rw [← smI_sub]
      refine smI_dvd fun j hj => ?_
      rw [← Int.mul_sub]
      exact Int.dvd_mul_of_dvd_right (hC j hj i)
    have h2 : (smI n fun j => x j * cmb m (C j) E i) = smI m fun k => (smI n fun j => x j * C j k) * E k i := by
      unfold cmb
      rw [smI_congr (g := fun j => smI m fun k => x j * C j k * E k i) fun j _ => by
        rw [Int.mul_comm, ← smI_mul]
        exact smI_congr fun k _ => by rw [Int.mul_comm (x j), Int.mul_assoc, Int.mul_assoc, Int.mul_comm (x j)], smI_swap]
      exact smI_congr fun k _ => by rw [smI_mul]
    have h3 : p ∣ smI n fun j => x j * cmb m (C j) E i := by
      rw [h2]
      exact smI_dvd fun k hk => Int.dvd_mul_of_dvd_left (col k hk)
    have := Int.dvd_add h1 h3
    rwa [Int.sub_add_cancel] at this
  have := ind x zero f hf
  rw [xf] at this
  have := Int.le_of_dvd (by decide) this
  omega
end
section
variable {p : Int} {w : Nat}
theorem smI_split (b : Nat) (f : Nat → Int) : ∀ c, smI (b + c) f = smI b f + smI c fun j => f (b + j)
  | 0 => by rw [smI_zero, Int.add_zero]; rfl
  | c + 1 => by
    rw [← Nat.add_assoc, smI_succ, smI_succ, smI_split b f c]; omega
theorem cmb_congr {n : Nat} {x y : Nat → Int} {A E : Nat → Vec} (hx : ∀ j, j < n → x j = y j) (hA : ∀ j, j < n → A j = E j) : cmb n x A = cmb n y E := by
  funext i
  exact smI_congr fun j hj => by rw [hx j hj, hA j hj]
theorem cmb_split (b c : Nat) (x : Nat → Int) (A : Nat → Vec) : cmb (b + c) x A = fun i => cmb b x A i + cmb c (fun j => x (b + j)) (fun j => A (b + j)) i := by
  funext i
  exact smI_split b _ c
theorem cmb_cg {n : Nat} {x y : Nat → Int} {A E : Nat → Vec} (hx : ∀ j, j < n → p ∣ x j - y j) (hA : ∀ j, j < n → Cg p (A j) (E j)) : Cg p (cmb n x A) (cmb n y E) := fun i => by
  unfold cmb
  rw [← smI_sub]
  refine smI_dvd fun j hj => ?_
  have e : x j * A j i - y j * E j i = (x j - y j) * A j i + y j * (A j i - E j i) := by rw [Int.sub_mul, Int.mul_sub]; omega
  rw [e]
  exact Int.dvd_add (Int.dvd_mul_of_dvd_left (hx j hj)) (Int.dvd_mul_of_dvd_right (hA j hj i))
theorem cmb_zero {n : Nat} {x : Nat → Int} {A : Nat → Vec} (hx : ∀ j, j < n → p ∣ x j) (i : Nat) : p ∣ cmb n x A i := smI_dvd fun j hj => Int.dvd_mul_of_dvd_left (hx j hj)
/-- a combination of combinations -/
theorem cmb_cmb (b n : Nat) (x : Nat → Int) (Y : Nat → Nat → Int) (A : Nat → Vec) : cmb b x (fun k => cmb n (Y k) A) = cmb n (fun j => smI b fun k => x k * Y k j) A := by
  funext i
  unfold cmb
  rw [smI_congr (g := fun k => smI n fun j => x k * Y k j * A j i) fun k _ => by
    rw [Int.mul_comm, ← smI_mul]
    exact smI_congr fun j _ => by rw [Int.mul_comm (x k), Int.mul_assoc, Int.mul_assoc, Int.mul_comm (x k)], smI_swap]
  exact smI_congr fun j _ => by rw [smI_mul]
theorem cmb_unit {n j : Nat} (h : j < n) (A : Nat → Vec) : cmb n (fun k => if k = j then 1 else 0) A = A j := by
  funext i
  unfold cmb
  rw [smI_congr (g := fun k => A k i * (if k = j then 1 else 0)) fun k _ => Int.mul_comm _ _]
  exact dot_unit (fun k => A k i) h
theorem cmb_minus (n : Nat) (x y : Nat → Int) (A : Nat → Vec) (i : Nat) : cmb n (fun j => x j - y j) A i = cmb n x A i - cmb n y A i := by
  unfold cmb
  rw [← smI_sub]
  exact smI_congr fun j _ => Int.sub_mul _ _ _
theorem pick {n : Nat} {R : Nat → (Nat → Int) → Prop} (h : ∀ j, j < n → ∃ y, R j y) : ∃ Y : Nat → Nat → Int, ∀ j, j < n → R j (Y j) := by
  refine ⟨fun j => if h1 : j < n then (h j h1).choose else fun _ => 0, fun j h1 => ?_⟩
  show R j (if h1 : j < n then (h j h1).choose else fun _ => 0)
  rw [dif_pos h1]
  exact (h j h1).choose_spec
/-- what is told by a map and what it takes to nought are as many as all -/
theorem rank_null {inv : Int → Int} (p2 : 2 ≤ p) (hi : InvOk p inv) {n b c : Nat} {A S T : Nat → Vec} {f : Vec → Vec} (lin : ∀ n x A, f (cmb n x A) = cmb n x fun j => f (A j)) (fcg : ∀ u v, Cg p u v → Cg p (f u) (f v))
    (iA : Ind p n A) (iS : Ind p b S) (iT : Ind p c T) (im : ∀ j, j < n → ∃ y : Nat → Int, Cg p (f (A j)) (cmb b y S)) (sur : ∀ j, j < b → ∃ y : Nat → Int, Cg p (f (cmb n y A)) (S j))
    (k1 : ∀ j, j < c → (∀ i, p ∣ f (T j) i) ∧ ∃ y : Nat → Int, Cg p (T j) (cmb n y A)) (k2 : ∀ y : Nat → Int, (∀ i, p ∣ f (cmb n y A) i) → ∃ z : Nat → Int, Cg p (cmb n y A) (cmb c z T)) : n = b + c := by
  obtain ⟨Y, hY⟩ := pick sur
  let E : Nat → Vec := fun j => if j < b then cmb n (Y j) A else T (j - b)
  have E1 : ∀ j, j < b → E j = cmb n (Y j) A := fun j h => if_pos h
  have E2 : ∀ j, E (b + j) = T j := fun j => by
    show (if b + j < b then _ else T (b + j - b)) = _
    rw [if_neg (by omega), Nat.add_sub_cancel_left]
  have sE : ∀ x : Nat → Int, cmb (b + c) x E = fun i => cmb b x (fun k => cmb n (Y k) A) i + cmb c (fun j => x (b + j)) T i := fun x => by
    rw [cmb_split, cmb_congr (x := x) (y := x) (fun _ _ => rfl) E1, cmb_congr (n := c) (x := fun j => x (b + j)) (y := fun j => x (b + j)) (fun _ _ => rfl) fun j _ => E2 j]
  have up : b + c ≤ n := by
    refine steinitz (A := E) (E := A) p2 hi (fun j hj => ?_) fun x hx => ?_
    · by_cases h : j < b
      · exact ⟨Y j, by rw [E1 j h]; exact Cg.refl _⟩
      · obtain ⟨k, rfl⟩ : ∃ k, j = b + k := ⟨j - b, by omega⟩
        rw [E2]
        exact (k1 k (by omega)).2
    · have s1 : ∀ j, j < b → p ∣ x j := by
        refine iS x fun i => ?_
        have h0 : Cg p (cmb (b + c) x E) (fun _ => 0) := fun i => by rw [Int.sub_zero]; exact hx i
        have h1 := fcg _ _ h0
        rw [lin, cmb_split] at h1
        have h2 : Cg p (cmb b x fun j => f (E j)) (cmb b x S) := cmb_cg (fun j _ => by rw [Int.sub_self]; exact Int.dvd_zero p) fun j hj => by rw [E1 j hj]; exact hY j hj
        have h3 : p ∣ cmb c (fun j => x (b + j)) (fun j => f (E (b + j))) i := smI_dvd fun j hj => Int.dvd_mul_of_dvd_right (by show p ∣ f (E (b + j)) i; rw [E2]; exact (k1 j hj).1 i)
        have hz : p ∣ f (fun _ => 0) i := by
          have e := lin 0 (fun _ => 0) fun _ _ => 0
          have e2 : cmb 0 (fun _ => 0) (fun _ _ => 0) = fun _ => (0 : Int) := rfl
          rw [e2] at e
          rw [e]; exact Int.dvd_zero p
        have a1 := h1 i
        have a2 := h2 i
        have a3 := Int.dvd_sub (Int.dvd_sub (Int.dvd_add a1 hz) h3) a2
        have e : (cmb b x (fun j => f (E j)) i + cmb c (fun j => x (b + j)) (fun j => f (E (b + j))) i - f (fun _ => 0) i + f (fun _ => 0) i - cmb c (fun j => x (b + j)) (fun j => f (E (b + j))) i - (cmb b x (fun j => f (E j)) i - cmb b x S i)) = cmb b x S i := by omega
        rwa [e] at a3
      have s2 : ∀ j, j < c → p ∣ x (b + j) := by
        refine iT (fun j => x (b + j)) fun i => ?_
        have h1 := hx i
        rw [sE] at h1
        have h2 := cmb_zero (A := fun k => cmb n (Y k) A) s1 i
        have h3 : p ∣ cmb b x (fun k => cmb n (Y k) A) i + cmb c (fun j => x (b + j)) T i - cmb b x (fun k => cmb n (Y k) A) i := Int.dvd_sub h1 h2
        rwa [Int.add_comm, Int.add_sub_cancel] at h3
      intro j hj
      by_cases h : j < b
      · exact s1 j h
      · obtain ⟨k, rfl⟩ : ∃ k, j = b + k := ⟨j - b, by omega⟩
        exact s2 k (by omega)
  have down : n ≤ b + c := by
    refine steinitz (A := A) (E := E) p2 hi (fun j hj => ?_) iA
    obtain ⟨y, hy⟩ := im j hj
    have ev : cmb n (fun k => (if k = j then 1 else 0) - smI b fun l => y l * Y l k) A = fun i => A j i - cmb b y (fun l => cmb n (Y l) A) i := by
      funext i
      rw [cmb_minus n (fun k => if k = j then 1 else 0) (fun k => smI b fun l => y l * Y l k) A i, cmb_unit hj, cmb_cmb]
    obtain ⟨z, hz⟩ := k2 (fun k => (if k = j then 1 else 0) - smI b fun l => y l * Y l k) fun i => by
      have e : f (cmb n (fun k => (if k = j then 1 else 0) - smI b fun l => y l * Y l k) A) i = f (A j) i - cmb b y (fun l => f (cmb n (Y l) A)) i := by
        rw [lin, cmb_minus n (fun k => if k = j then 1 else 0) (fun k => smI b fun l => y l * Y l k) (fun k => f (A k)) i, cmb_unit (A := fun k => f (A k)) hj, ← cmb_cmb b n y Y fun k => f (A k)]
        rw [cmb_congr (n := b) (x := y) (y := y) (A := fun l => f (cmb n (Y l) A)) (E := fun l => cmb n (Y l) fun k => f (A k)) (fun _ _ => rfl) fun l _ => lin n (Y l) A]
      rw [e]
      have a1 := hy i
      have a2 : Cg p (cmb b y fun l => f (cmb n (Y l) A)) (cmb b y S) := cmb_cg (fun l _ => by rw [Int.sub_self]; exact Int.dvd_zero p) hY
      have := Int.dvd_sub a1 (a2 i)
      have e2 : f (A j) i - cmb b y S i - (cmb b y (fun l => f (cmb n (Y l) A)) i - cmb b y S i) = f (A j) i - cmb b y (fun l => f (cmb n (Y l) A)) i := by omega
      rwa [e2] at this
    refine ⟨fun k => if k < b then y k else z (k - b), fun i => ?_⟩
    rw [sE, cmb_congr (n := b) (y := y) (E := fun k => cmb n (Y k) A) (fun k hk => if_pos hk) fun _ _ => rfl, cmb_congr (n := c) (y := z) (E := T) (fun k _ => by rw [if_neg (by omega), Nat.add_sub_cancel_left]) fun _ _ => rfl]
    have h1 := hz i
    rw [ev] at h1
    have e : A j i - (cmb b y (fun k => cmb n (Y k) A) i + cmb c z T i) = A j i - cmb b y (fun l => cmb n (Y l) A) i - cmb c z T i := by omega
    rw [e]
    exact h1
  omega
theorem ind_red {B : List (Nat × List Int)} (h : RedL p w B) : Ind p B.length (rowsV (B.map fun x => vec x.2)) := fun x hx j hj => by
  have h1 := hx B[j].1
  unfold cmb at h1
  have at1 : ∀ k (hk : k < B.length), rowsV (B.map fun x => vec x.2) k = vec B[k].2 := fun k hk => by
    unfold rowsV
    rw [List.getD_eq_getElem?_getD, List.getElem?_map, List.getElem?_eq_getElem hk]; rfl
  rw [smI_congr (g := fun k => x k * (if k = j then 1 else 0)) fun k hk => by
    rw [at1 k hk]
    by_cases e : k = j
    · subst e
      rw [if_pos rfl, (h.one _ (List.getElem_mem hk)).2]
    · rw [if_neg e, h.off _ (List.getElem_mem hk) _ (List.getElem_mem hj) fun z => e ?_]
      have nd := h.nd
      have := (List.getElem_inj (xs := B.map (·.1)) (h₀ := by rw [List.length_map]; exact hk) (h₁ := by rw [List.length_map]; exact hj) nd).mp (by rw [List.getElem_map, List.getElem_map]; exact z)
      exact this, dot_unit x hj] at h1
  exact h1
end
section
variable {p : Int} {w : Nat}
theorem cmb_sp {L : List Vec} {x : Nat → Int} {A : Nat → Vec} : ∀ {n : Nat}, (∀ j, j < n → Sp0 p L (A j)) → Sp0 p L (cmb n x A)
  | 0, _ => .zero (Cg.refl _)
  | n + 1, h => (Sp0.plus (cmb_sp (n := n) fun j hj => h j (by omega)) (h n (by omega)) (x n)).cg (fun i => by
      have e : cmb (n + 1) x A i = cmb n x A i + x n * A n i := smI_succ _ _
      rw [e, Int.sub_self]; exact Int.dvd_zero p)
theorem rowsV_at {B : List (Nat × List Int)} {k : Nat} (hk : k < B.length) : rowsV (B.map fun x => vec x.2) k = vec B[k].2 := by
  unfold rowsV
  rw [List.getD_eq_getElem?_getD, List.getElem?_map, List.getElem?_eq_getElem hk]; rfl
theorem rowsV_sp {B : List (Nat × List Int)} {k : Nat} (hk : k < B.length) : Sp0 p (B.map fun x => vec x.2) (rowsV (B.map fun x => vec x.2) k) := by
  rw [rowsV_at hk]
  exact .of (List.mem_map.mpr ⟨_, List.getElem_mem hk, rfl⟩)
theorem red_cmb {B : List (Nat × List Int)} {v : Vec} (h : Sp0 p (B.map fun x => vec x.2) v) : ∃ x, Cg p v (cmb B.length x (rowsV (B.map fun x => vec x.2))) := by
  obtain ⟨x, hx⟩ := sp_cmb h
  rw [List.length_map] at hx
  exact ⟨x, hx⟩
theorem RedL.rowsW {B : List (Nat × List Int)} (h : RedL p w B) : ∀ r ∈ B.map (·.2), Row p w r := fun r m => by
  obtain ⟨x, hx, rfl⟩ := List.mem_map.mp m
  exact h.row x hx
/-! two vectors in one -/
def lft (u : Vec) : Vec := fun i => if i % 2 = 0 then u (i / 2) else 0
def rgt (u : Vec) : Vec := fun i => if i % 2 = 0 then 0 else u (i / 2)
def dif (u : Vec) : Vec := fun i => if i % 2 = 0 then u (i / 2) else -u (i / 2)
def plu (v : Vec) : Vec := fun i => v (2 * i) + v (2 * i + 1)
theorem lft_e (u : Vec) (i : Nat) : lft u (2 * i) = u i := by unfold lft; rw [if_pos (by omega), show 2 * i / 2 = i by omega]
theorem lft_o (u : Vec) (i : Nat) : lft u (2 * i + 1) = 0 := by unfold lft; rw [if_neg (by omega)]
theorem rgt_e (u : Vec) (i : Nat) : rgt u (2 * i) = 0 := by unfold rgt; rw [if_pos (by omega)]
theorem rgt_o (u : Vec) (i : Nat) : rgt u (2 * i + 1) = u i := by unfold rgt; rw [if_neg (by omega), show (2 * i + 1) / 2 = i by omega]
theorem dif_e (u : Vec) (i : Nat) : dif u (2 * i) = u i := by unfold dif; rw [if_pos (by omega), show 2 * i / 2 = i by omega]
theorem dif_o (u : Vec) (i : Nat) : dif u (2 * i + 1) = -u i := by unfold dif; rw [if_neg (by omega), show (2 * i + 1) / 2 = i by omega]
theorem plu_cmb (n : Nat) (x : Nat → Int) (A : Nat → Vec) : plu (cmb n x A) = cmb n x fun j => plu (A j) := by
  funext i
  unfold plu cmb
  rw [← smI_add]
  exact smI_congr fun j _ => (Int.mul_add _ _ _).symm
theorem plu_cg (u v : Vec) (h : Cg p u v) : Cg p (plu u) (plu v) := fun i => by
  have := Int.dvd_add (h (2 * i)) (h (2 * i + 1))
  show p ∣ u (2 * i) + u (2 * i + 1) - (v (2 * i) + v (2 * i + 1))
  rwa [show u (2 * i) - v (2 * i) + (u (2 * i + 1) - v (2 * i + 1)) = u (2 * i) + u (2 * i + 1) - (v (2 * i) + v (2 * i + 1)) by omega] at this
def two (f : Nat) (F G : Nat → Vec) : Nat → Vec := fun j => if j < f then lft (F j) else rgt (G (j - f))
theorem two_e {f : Nat} (g : Nat) (y : Nat → Int) (F G : Nat → Vec) (i : Nat) : cmb (f + g) y (two f F G) (2 * i) = cmb f y F i := by
  have e1 : cmb f y (two f F G) (2 * i) = cmb f y F i := smI_congr fun j hj => by
    show y j * (if j < f then lft (F j) else rgt (G (j - f))) (2 * i) = _
    rw [if_pos hj, lft_e]
  have e2 : cmb g (fun j => y (f + j)) (fun j => two f F G (f + j)) (2 * i) = 0 := by
    unfold cmb
    rw [smI_congr (g := fun _ => 0) fun j _ => by
      show y (f + j) * (if f + j < f then lft (F (f + j)) else rgt (G (f + j - f))) (2 * i) = _
      rw [if_neg (by omega), rgt_e, Int.mul_zero], smI_nil]
  rw [cmb_split]
  show cmb f y (two f F G) (2 * i) + _ = _
  rw [e1, e2, Int.add_zero]
theorem two_o {f : Nat} (g : Nat) (y : Nat → Int) (F G : Nat → Vec) (i : Nat) : cmb (f + g) y (two f F G) (2 * i + 1) = cmb g (fun j => y (f + j)) G i := by
  have e1 : cmb f y (two f F G) (2 * i + 1) = 0 := by
    unfold cmb
    rw [smI_congr (g := fun _ => 0) fun j hj => by
      show y j * (if j < f then lft (F j) else rgt (G (j - f))) (2 * i + 1) = _
      rw [if_pos hj, lft_o, Int.mul_zero], smI_nil]
  have e2 : cmb g (fun j => y (f + j)) (fun j => two f F G (f + j)) (2 * i + 1) = cmb g (fun j => y (f + j)) G i := smI_congr fun j _ => by
    show y (f + j) * (if f + j < f then lft (F (f + j)) else rgt (G (f + j - f))) (2 * i + 1) = _
    rw [if_neg (by omega), rgt_o, Nat.add_sub_cancel_left]
  rw [cmb_split]
  show cmb f y (two f F G) (2 * i + 1) + _ = _
  rw [e1, e2, Int.zero_add]
theorem even_odd {Q : Nat → Prop} (h1 : ∀ i, Q (2 * i)) (h2 : ∀ i, Q (2 * i + 1)) (i : Nat) : Q i := by
  by_cases h : i % 2 = 0
  · have := h1 (i / 2)
    rwa [show 2 * (i / 2) = i by omega] at this
  · have := h2 (i / 2)
    rwa [show 2 * (i / 2) + 1 = i by omega] at this
theorem cmb_dif (c : Nat) (z : Nat → Int) (C : Nat → Vec) : (∀ i, cmb c z (fun j => dif (C j)) (2 * i) = cmb c z C i) ∧ ∀ i, cmb c z (fun j => dif (C j)) (2 * i + 1) = -cmb c z C i := by
  refine ⟨fun i => smI_congr fun j _ => by show z j * dif (C j) (2 * i) = _; rw [dif_e], fun i => ?_⟩
  have h : cmb c z (fun j => dif (C j)) (2 * i + 1) + cmb c z C i = 0 := by
    unfold cmb
    rw [← smI_add, smI_congr (g := fun _ => 0) fun j _ => by show z j * dif (C j) (2 * i + 1) + _ = _; rw [dif_o, Int.mul_neg]; omega, smI_nil]
  omega
/-- what follows from both, and what follows from the two together, are as many as the two -/
theorem dim_both {inv : Int → Int} (p2 : 2 ≤ p) (hi : InvOk p inv) {F G B C : List (Nat × List Int)} (hF : RedL p w F) (hG : RedL p w G) (hB : RedL p w B) (hC : RedL p w C)
    (sB : ∀ v, Sp0 p (B.map fun x => vec x.2) v ↔ Sp0 p ((F.map fun x => vec x.2) ++ G.map fun x => vec x.2) v)
    (sC : ∀ v, Sp0 p (C.map fun x => vec x.2) v ↔ Sp0 p (F.map fun x => vec x.2) v ∧ Sp0 p (G.map fun x => vec x.2) v) : F.length + G.length = B.length + C.length := by
  have iF := ind_red hF
  have iG := ind_red hG
  have iC := ind_red hC
  have at0 : ∀ j, j < F.length + G.length → plu (two F.length (rowsV (F.map fun x => vec x.2)) (rowsV (G.map fun x => vec x.2)) j) = rowsV ((F.map fun x => vec x.2) ++ G.map fun x => vec x.2) j := fun j hj => by
    funext i
    unfold plu two
    by_cases h : j < F.length
    · rw [if_pos h, lft_e, lft_o, Int.add_zero]
      unfold rowsV
      rw [List.getD_eq_getElem?_getD, List.getD_eq_getElem?_getD, List.getElem?_append_left (by rw [List.length_map]; exact h)]
    · rw [if_neg h, rgt_e, rgt_o, Int.zero_add]
      unfold rowsV
      rw [List.getD_eq_getElem?_getD, List.getD_eq_getElem?_getD, List.getElem?_append_right (by rw [List.length_map]; omega), List.length_map]
  refine rank_null (A := two F.length (rowsV (F.map fun x => vec x.2)) (rowsV (G.map fun x => vec x.2))) (S := rowsV (B.map fun x => vec x.2)) (T := fun j => dif (rowsV (C.map fun x => vec x.2) j)) (f := plu) p2 hi plu_cmb plu_cg (fun y hy => ?_) (ind_red hB) (fun z hz => ?_) (fun j hj => ?_) (fun j hj => ?_) (fun j hj => ?_) fun y hy => ?_
  · have s1 := iF y fun i => by have := hy (2 * i); rwa [two_e] at this
    have s2 := iG (fun j => y (F.length + j)) fun i => by have := hy (2 * i + 1); rwa [two_o] at this
    intro j hj
    by_cases h : j < F.length
    · exact s1 j h
    · obtain ⟨k, rfl⟩ : ∃ k, j = F.length + k := ⟨j - F.length, by omega⟩
      exact s2 k (by omega)
  · exact iC z fun i => by have := hz (2 * i); rwa [(cmb_dif _ _ _).1] at this
  · rw [at0 j hj]
    refine red_cmb ((sB _).mpr (.of ?_))
    unfold rowsV
    rw [List.getD_eq_getElem?_getD, List.getElem?_eq_getElem (by rw [List.length_append, List.length_map, List.length_map]; exact hj)]
    exact List.getElem_mem _
  · obtain ⟨x, hx⟩ := sp_cmb ((sB _).mp (rowsV_sp hj))
    refine ⟨x, ?_⟩
    rw [plu_cmb, cmb_congr (x := x) (y := x) (fun _ _ => rfl) at0]
    rw [List.length_append, List.length_map, List.length_map] at hx
    exact hx.symm
  · refine ⟨fun i => ?_, ?_⟩
    · unfold plu
      rw [dif_e, dif_o, Int.add_right_neg]; exact Int.dvd_zero p
    · have k := (sC _).mp (rowsV_sp (p := p) hj)
      obtain ⟨a, ha⟩ := red_cmb k.1
      obtain ⟨b, hb⟩ := red_cmb k.2
      refine ⟨fun j => if j < F.length then a j else -b (j - F.length), even_odd (fun i => ?_) fun i => ?_⟩
      · rw [dif_e, two_e, cmb_congr (y := a) (fun j h => if_pos h) fun _ _ => rfl]
        exact ha i
      · rw [dif_o, two_o, cmb_congr (y := fun j => 0 - b j) (fun j _ => by rw [if_neg (by omega), Nat.add_sub_cancel_left, Int.zero_sub]) fun _ _ => rfl, cmb_minus _ (fun _ => 0)]
        have z : cmb G.length (fun _ => 0) (rowsV (G.map fun x => vec x.2)) i = 0 := by
          unfold cmb
          rw [smI_congr (g := fun _ => 0) fun j _ => Int.zero_mul _, smI_nil]
        rw [z]
        have := Int.dvd_neg.mpr (hb i)
        rwa [show -(rowsV (C.map fun x => vec x.2) j i - cmb G.length b (rowsV (G.map fun x => vec x.2)) i) = -rowsV (C.map fun x => vec x.2) j i - (0 - cmb G.length b (rowsV (G.map fun x => vec x.2)) i) by omega] at this
  · have s := fun i => (show p ∣ cmb F.length y (rowsV (F.map fun x => vec x.2)) i + cmb G.length (fun j => y (F.length + j)) (rowsV (G.map fun x => vec x.2)) i by
      have := hy i
      unfold plu at this
      rwa [two_e, two_o] at this)
    have u1 : Sp0 p (F.map fun x => vec x.2) (cmb F.length y (rowsV (F.map fun x => vec x.2))) := cmb_sp fun j hj => rowsV_sp hj
    have u2 : Sp0 p (G.map fun x => vec x.2) (cmb G.length (fun j => y (F.length + j)) (rowsV (G.map fun x => vec x.2))) := cmb_sp fun j hj => rowsV_sp hj
    have u3 : Sp0 p (G.map fun x => vec x.2) (cmb F.length y (rowsV (F.map fun x => vec x.2))) := (u2.mul (-1)).cg fun i => by
      have := s i
      rwa [show cmb F.length y (rowsV (F.map fun x => vec x.2)) i + cmb G.length (fun j => y (F.length + j)) (rowsV (G.map fun x => vec x.2)) i = cmb F.length y (rowsV (F.map fun x => vec x.2)) i - -1 * cmb G.length (fun j => y (F.length + j)) (rowsV (G.map fun x => vec x.2)) i by omega] at this
    obtain ⟨z, hz⟩ := red_cmb ((sC _).mpr ⟨u1, u3⟩)
    refine ⟨z, even_odd (fun i => ?_) fun i => ?_⟩
    · rw [two_e, (cmb_dif _ _ _).1]; exact hz i
    · rw [two_o, (cmb_dif _ _ _).2]
      have := Int.dvd_sub (s i) (hz i)
      rwa [show cmb F.length y (rowsV (F.map fun x => vec x.2)) i + cmb G.length (fun j => y (F.length + j)) (rowsV (G.map fun x => vec x.2)) i - (cmb F.length y (rowsV (F.map fun x => vec x.2)) i - cmb C.length z (rowsV (C.map fun x => vec x.2)) i) = cmb G.length (fun j => y (F.length + j)) (rowsV (G.map fun x => vec x.2)) i - -cmb C.length z (rowsV (C.map fun x => vec x.2)) i by omega] at this
theorem lin_of {f : Vec → Vec} (h : ∀ i, (∃ k, ∀ u, f u i = u k) ∨ ∀ u, f u i = 0) (n : Nat) (x : Nat → Int) (A : Nat → Vec) : f (cmb n x A) = cmb n x fun j => f (A j) := by
  funext i
  rcases h i with ⟨k, e⟩ | e
  · rw [e]
    unfold cmb
    exact smI_congr fun j _ => by show _ = x j * f (A j) i; rw [e]
  · rw [e]
    unfold cmb
    rw [smI_congr (g := fun _ => 0) fun j _ => by show x j * f (A j) i = _; rw [e, Int.mul_zero], smI_nil]
theorem lin_order (o : List Nat) : ∀ (n : Nat) (x : Nat → Int) (A : Nat → Vec), orderV o (cmb n x A) = cmb n x fun j => orderV o (A j) := lin_of fun j => by
  unfold orderV
  cases h : o[j]? with
  | some k => exact .inl ⟨k, fun _ => rfl⟩
  | none => exact .inr fun _ => rfl
theorem order_cg (o : List Nat) (u v : Vec) (h : Cg p u v) : Cg p (orderV o u) (orderV o v) := fun j => by
  unfold orderV
  cases o[j]? with
  | some i => exact h i
  | none => show p ∣ 0 - 0; exact Int.dvd_zero p
theorem lin_back (o : List Nat) : ∀ (n : Nat) (x : Nat → Int) (A : Nat → Vec), backV o (cmb n x A) = cmb n x fun j => backV o (A j) := lin_of fun i => by
  unfold backV
  by_cases h : i ∈ o
  · exact .inl ⟨o.idxOf i, fun _ => if_pos h⟩
  · exact .inr fun _ => if_neg h
theorem back_cg (o : List Nat) (u v : Vec) (h : Cg p u v) : Cg p (backV o u) (backV o v) := fun i => by
  unfold backV
  split
  · exact h _
  · show p ∣ 0 - 0; exact Int.dvd_zero p
theorem lin_shift (m : Nat) : ∀ (n : Nat) (x : Nat → Int) (A : Nat → Vec), shiftV m (cmb n x A) = cmb n x fun j => shiftV m (A j) := lin_of fun i => by
  unfold shiftV
  by_cases h : i < m
  · exact .inr fun _ => if_pos h
  · exact .inl ⟨i - m, fun _ => if_neg h⟩
theorem shift_cg (m : Nat) (u v : Vec) (h : Cg p u v) : Cg p (shiftV m u) (shiftV m v) := fun i => by
  unfold shiftV
  split
  · show p ∣ 0 - 0; exact Int.dvd_zero p
  · exact h _
theorem order_app (S R : List Nat) (v : Vec) {j : Nat} (h : j < S.length) : orderV (S ++ R) v j = orderV S v j := by
  unfold orderV
  rw [List.getElem?_append_left h]
theorem order_out (S : List Nat) (v : Vec) {j : Nat} (h : S.length ≤ j) : orderV S v j = 0 := by
  unfold orderV
  rw [List.getElem?_eq_none h]
/-- what stands in some columns, and what is left where nothing stands there, are as many as all -/
theorem dim_cut {inv : Int → Int} (p2 : 2 ≤ p) (hi : InvOk p inv) {S R : List Nat} (O : Ord w (S ++ R)) {B C D : List (Nat × List Int)} (hB : RedL p w B) (hC : RedL p (w - S.length) C) (hD : RedL p S.length D)
    (sC : ∀ y, Sp0 p (C.map fun x => vec x.2) y ↔ (∀ i, w - S.length ≤ i → p ∣ y i) ∧ Sp0 p (B.map fun x => vec x.2) (backV (S ++ R) (shiftV S.length y)))
    (sD : ∀ v, Sp0 p (D.map fun x => vec x.2) v ↔ Sp0 p ((B.map fun x => vec x.2).map (orderV S)) v) : B.length = D.length + C.length := by
  have lS : S.length ≤ w := by
    have := O.len
    rw [List.length_append] at this
    omega
  have zC : ∀ j, j < C.length → ∀ i, w - S.length ≤ i → rowsV (C.map fun x => vec x.2) j i = 0 := fun j hj i h => by
    rw [rowsV_at hj]
    exact vec_out (by rw [(hC.row _ (List.getElem_mem hj)).len]; exact h)
  have sh : ∀ y : Vec, (∀ i, w - S.length ≤ i → p ∣ y i) → ∀ i, w ≤ i → p ∣ shiftV S.length y i := fun y h i h2 => by
    unfold shiftV
    rw [if_neg (by omega)]
    exact h _ (by omega)
  refine rank_null (A := rowsV (B.map fun x => vec x.2)) (S := rowsV (D.map fun x => vec x.2)) (T := fun j => backV (S ++ R) (shiftV S.length (rowsV (C.map fun x => vec x.2) j))) (f := orderV S) p2 hi (lin_order S) (order_cg S) (ind_red hB) (ind_red hD) (fun z hz => ?_) (fun j hj => ?_) (fun j hj => ?_) (fun j hj => ?_) fun y hy => ?_
  · refine ind_red hC z fun i => ?_
    by_cases h : w - S.length ≤ i
    · exact smI_dvd fun j hj => by rw [zC j hj i h, Int.mul_zero]; exact Int.dvd_zero p
    · have e : cmb C.length z (fun j => backV (S ++ R) (shiftV S.length (rowsV (C.map fun x => vec x.2) j))) = backV (S ++ R) (shiftV S.length (cmb C.length z (rowsV (C.map fun x => vec x.2)))) := by rw [lin_shift, lin_back]
      rw [e] at hz
      have h0 : Cg p (backV (S ++ R) (shiftV S.length (cmb C.length z (rowsV (C.map fun x => vec x.2))))) fun _ => 0 := fun i => by rw [Int.sub_zero]; exact hz i
      have h1 := order_cg (S ++ R) _ _ h0 (S.length + i)
      have h2 := perm_back O (u := shiftV S.length (cmb C.length z (rowsV (C.map fun x => vec x.2)))) (sh _ fun i h => smI_dvd fun j hj => by rw [zC j hj i h, Int.mul_zero]; exact Int.dvd_zero p) (S.length + i)
      have z0 : orderV (S ++ R) (fun _ => 0) (S.length + i) = 0 := by unfold orderV; split <;> rfl
      rw [z0, Int.sub_zero] at h1
      have := Int.dvd_sub h1 h2
      have e2 : shiftV S.length (cmb C.length z (rowsV (C.map fun x => vec x.2))) (S.length + i) = cmb C.length z (rowsV (C.map fun x => vec x.2)) i := by
        unfold shiftV
        rw [if_neg (by omega), Nat.add_sub_cancel_left]
      rw [e2] at this
      rwa [show ∀ a b : Int, a - (a - b) = b from fun a b => by omega] at this
  · refine red_cmb ((sD _).mpr (.of (List.mem_map_of_mem ?_)))
    rw [rowsV_at hj]
    exact List.mem_map.mpr ⟨_, List.getElem_mem hj, rfl⟩
  · obtain ⟨x, hx⟩ := sp_cmb ((sD _).mp (rowsV_sp hj))
    refine ⟨x, ?_⟩
    rw [lin_order]
    rw [List.length_map, List.length_map] at hx
    have e : cmb B.length x (rowsV ((B.map fun x => vec x.2).map (orderV S))) = cmb B.length x fun j => orderV S (rowsV (B.map fun x => vec x.2) j) := cmb_congr (fun _ _ => rfl) fun k hk => by
      rw [rowsV_at hk]
      unfold rowsV
      rw [List.getD_eq_getElem?_getD, List.getElem?_map, List.getElem?_map, List.getElem?_eq_getElem hk]; rfl
    rw [e] at hx
    exact hx.symm
  · have k := (sC _).mp (rowsV_sp (p := p) hj)
    refine ⟨fun i => ?_, red_cmb k.2⟩
    by_cases h : i < S.length
    · have := perm_back O (sh _ k.1) i
      rw [order_app S R _ h] at this
      have e : shiftV S.length (rowsV (C.map fun x => vec x.2) j) i = 0 := by unfold shiftV; rw [if_pos h]
      rwa [e, Int.sub_zero] at this
    · rw [order_out S _ (by omega)]; exact Int.dvd_zero p
  · have kv : Sp0 p (B.map fun x => vec x.2) (cmb B.length y (rowsV (B.map fun x => vec x.2))) := cmb_sp fun j hj => rowsV_sp hj
    generalize cmb B.length y (rowsV (B.map fun x => vec x.2)) = v at *
    have out : ∀ i, w ≤ i → p ∣ v i := by
      have := sp_out (p := p) (w := w) (rows := B.map (·.2)) hB.rowsW (v := v)
      rw [map_snd_vec] at this
      exact this kv
    have e1 : Cg p (shiftV S.length fun j => orderV (S ++ R) v (S.length + j)) (orderV (S ++ R) v) := fun i => by
      unfold shiftV
      by_cases h : i < S.length
      · rw [if_pos h, order_app S R v h, Int.zero_sub]
        exact Int.dvd_neg.mpr (hy i)
      · rw [if_neg h]
        show p ∣ orderV (S ++ R) v (S.length + (i - S.length)) - _
        rw [show S.length + (i - S.length) = i by omega, Int.sub_self]; exact Int.dvd_zero p
    have e2 : Cg p (backV (S ++ R) (shiftV S.length fun j => orderV (S ++ R) v (S.length + j))) v := (back_cg _ _ _ e1).trans (back_perm O out)
    obtain ⟨z, hz⟩ := red_cmb ((sC fun j => orderV (S ++ R) v (S.length + j)).mpr ⟨fun i h => by
      rw [order_out (S ++ R) v (by rw [O.len]; omega)]; exact Int.dvd_zero p, kv.cg e2⟩)
    refine ⟨z, e2.symm.trans ?_⟩
    rw [show (cmb C.length z fun j => backV (S ++ R) (shiftV S.length (rowsV (C.map fun x => vec x.2) j))) = backV (S ++ R) (shiftV S.length (cmb C.length z (rowsV (C.map fun x => vec x.2)))) by rw [lin_shift, lin_back]]
    exact back_cg _ _ _ (shift_cg _ _ _ hz)
end
/-! ### {k: v} with a tuple for its key -/
def tDispT (tk tv : TE) : TE := fun σ H Q => ∀ p, H p = none → tPairs [(tk, tv)] σ (upd H p (.dT [])) fun ps H2 => ∃ (b : Addr) (ks : List Key) (y : V), ps = [(V.ref b, y)] ∧ H2 b = some (.tup (ks.map kV)) ∧ H2 p = some (.dT []) ∧ Q (.ref p) (upd H2 p (.dT [(ks, y)]))
theorem pe_dispT {X : Cx} {pos : Pos} {k v : Expr} {tk tv : TE} (hu : X.A.units + 1 < cLine) (hk : PE X k tk) (hv : PE X v tv) : PE X (.Dict [some k] [v] pos) (tDispT tk tv) := by
  refine ⟨fun pins s σ H Q I q => ?_⟩
  have hn := I.hok.fresh (Nat.le_refl s.heap.objs.size)
  have I1 := I.laid (a := s.heap.objs.size) (o := .dT []) (h' := s.heap.push { cls := .type "dict", data := .dict #[] }) (t' := s.toks) (fun _ _ q => Heap.get?_push_of_some _ q) (Nat.le_refl _) (dt_empty s.heap I.big)
  refine PySem.wpAny_Dict_any rfl rfl (by simp) (by show 1 ≤ 15; decide) (thn ((pps_cons hk hv pps_nil).run pins _ σ _ _ I1 (q _ hn)) fun ws s2 ⟨ps, H2, I2, rel, b, ks, y, ep, eb, e, q2⟩ => ?_)
  subst ep
  obtain ⟨ws1, rfl, ru, ry⟩ : ∃ r, ws = [(Value.ref b, r)] ∧ True ∧ RelV y r := by
    cases rel with
    | @cons a c as bs h t =>
      cases t
      obtain ⟨c1, c2⟩ := c
      cases (show c1 = Value.ref b from h.1)
      exact ⟨c2, rfl, trivial, h.2⟩
  obtain ⟨z, hd, xs, r0, dd⟩ := dt_of I2.hok e
  cases r0
  refine wpAny_storeAllH (knd := tupleKind (mixKind X.prog X.w)) (by show X.A.units < cLine; omega) [(Value.ref b, ws1)] [(ks, b, ws1)] [] s2 _ ⟨rfl, rfl, key_of I2.hok eb, trivial⟩ dd (by show 0 + 1 ≤ sizeLine; decide) fun h' tk hm' hs' => ⟨.ref s.heap.objs.size, _, ?_, rfl, q2⟩
  obtain ⟨qo, es, ep', hq, h2, h3, h4, _, h5⟩ := hm'
  have kt : KT H2 (putK [] ks y) (storedH [] ks b ws1) := KT.put (kvs := []) (xs := []) .nil ks eb ry
  refine d_write I2 (by rw [e]; exact True.intro) hs' ⟨qo, hq⟩ ⟨by show 1 ≤ sizeLine; decide, hd, _, kt.keeps fun c ys ec => ?_, qo, es, ep', hq, h2, h3, h4, h5⟩
  rw [upd_ne (ne_of ec e (fun z => nomatch z))]
  exact ec
/-! ### a dict that nothing names: kept as it is from where it is gone through -/
def tLk (t : TE) : TE := fun σ H Q => t σ H fun x H1 => ∃ (d : Addr) (u : HO), x = .ref d ∧ H1 d = some u ∧ Mut (some u) ∧ ∀ od, Q x (upd H1 d (.frz od u))
theorem pe_lk {X : Cx} {e : Expr} {t : TE} (h : PE X e t) : PE X e (tLk t) := by
  refine ⟨fun pins s σ H Q I hw => ?_⟩
  refine thn (h.run pins s σ _ _ I hw) fun v s1 ⟨x, H1, I1, r, d, u, e1, hd, mu, q⟩ => ?_
  obtain ⟨od, I2⟩ := I1.lock hd mu
  exact ⟨x, _, I2, r, q od⟩
/-! ### the law's own reduced rows, column by column -/
section
variable {p : Int} {w : Nat}
def colL (p : Int) (l u : List Int) (c : Nat) : List Int := addL p l (timesL p u (p - vec l c))
theorem Row.col {l u : List Int} {c : Nat} (r : Row p w l) (s : Row p w u) (hp : 0 < p) : Row p w (colL p l u c) := r.add (s.times hp) hp
theorem col_cg {l u : List Int} {c : Nat} (r : Row p w l) (s : Row p w u) (hp : 0 < p) : Cg p (vec (colL p l u c)) (fun i => vec l i + -(vec l c) * vec u i) := fun i => by
  obtain ⟨d, f⟩ := add_cg (p := p) (l := l) (m := timesL p u (p - vec l c)) (by rw [r.len, (s.times hp).len]) i
  obtain ⟨g, h⟩ := times_cg (p := p) (l := u) (n := p - vec l c) i
  have f : vec (colL p l u c) i - (vec l i + vec (timesL p u (p - vec l c)) i) = p * d := f
  have h : vec (timesL p u (p - vec l c)) i - (p - vec l c) * vec u i = p * g := h
  refine ⟨d + g + vec u i, ?_⟩
  show vec (colL p l u c) i - (vec l i + -(vec l c) * vec u i) = _
  rw [Int.mul_add, Int.mul_add, ← f, ← h, Int.sub_mul, Int.neg_mul]
  omega
theorem col_at {l u : List Int} {c : Nat} (r : Row p w l) (s : Row p w u) (hp : 0 < p) (one : vec u c = 1) : vec (colL p l u c) c = 0 := by
  have h := col_cg (c := c) r s hp c
  have h : p ∣ vec (colL p l u c) c - (vec l c + -(vec l c) * vec u c) := h
  rw [one, mul_minus] at h
  exact cg_eq ((r.col s hp).at hp c) (by omega) h
theorem col_keep {l u : List Int} {a c : Nat} (r : Row p w l) (s : Row p w u) (hp : 0 < p) (z : vec u a = 0) : vec (colL p l u c) a = vec l a := by
  have h := col_cg (c := c) r s hp a
  have h : p ∣ vec (colL p l u c) a - (vec l a + -(vec l c) * vec u a) := h
  rw [z, Int.mul_zero, Int.add_zero] at h
  exact cg_eq ((r.col s hp).at hp a) (r.at hp a) h
theorem col_sp {L : List Vec} {l u : List Int} {c : Nat} (r : Row p w l) (s : Row p w u) (hp : 0 < p) (hu : Sp0 p L (vec u)) : Sp0 p L (vec l) ↔ Sp0 p L (vec (colL p l u c)) := by
  have q := col_cg (c := c) r s hp
  constructor
  · exact fun h => (h.plus hu _).cg q
  · intro h
    refine (h.plus hu (vec l c)).cg fun i => ?_
    obtain ⟨d, f⟩ := q i
    have f : vec (colL p l u c) i - (vec l i + -(vec l c) * vec u i) = p * d := f
    refine ⟨-d, ?_⟩
    show vec l i - (vec (colL p l u c) i + vec l c * vec u i) = _
    rw [Int.mul_neg, ← f, Int.neg_mul]
    omega
/-- where the columns' work stands: left, done, ahead of column c -/
structure ColSt (p : Int) (w : Nat) (lot : List (List Int)) (c : Nat) (left : List (List Int)) (B : List (Nat × List Int)) : Prop where
  row : ∀ l ∈ left, Row p w l
  zero : ∀ l ∈ left, ∀ i, i < c → vec l i = 0
  red : RedL p w B
  lt : ∀ x ∈ B, x.1 < c
  rise : (B.map (·.1)).Pairwise (· < ·)
  sp : ∀ v, Sp0 p ((B.map fun x => vec x.2) ++ left.map vec) v ↔ Sp0 p (lot.map vec) v
theorem ColSt.start {lot : List (List Int)} (h : ∀ l ∈ lot, Row p w l) : ColSt p w lot 0 lot [] where
  row := h
  zero := fun _ _ i z => absurd z (Nat.not_lt_zero i)
  red := ⟨fun _ z => (by cases z), fun _ z => (by cases z), fun _ z => (by cases z), fun _ z => (by cases z), List.nodup_nil⟩
  lt := fun _ z => (by cases z)
  rise := List.Pairwise.nil
  sp := fun _ => Iff.rfl
theorem ColSt.skip {lot left : List (List Int)} {c : Nat} {B : List (Nat × List Int)} (h : ColSt p w lot c left B) (z : ∀ l ∈ left, vec l c = 0) : ColSt p w lot (c + 1) left B where
  row := h.row
  zero := fun l m i lt => by
    rcases Nat.lt_succ_iff_lt_or_eq.mp lt with q | q
    · exact h.zero l m i q
    · rw [q]; exact z l m
  red := h.red
  lt := fun x m => Nat.lt_succ_of_lt (h.lt x m)
  rise := h.rise
  sp := h.sp
theorem ColSt.pick {lot left rest : List (List Int)} {c : Nat} {B : List (Nat × List Int)} {pk : List Int} {k : Int} (h : ColSt p w lot c left B) (p2 : 2 ≤ p) (hc : c < w) (pm : left.Perm (pk :: rest)) (hk : vec pk c * k % p = 1) :
    ColSt p w lot (c + 1) (rest.map fun l => colL p l (timesL p pk k) c) ((B.map fun x => (x.1, colL p x.2 (timesL p pk k) c)) ++ [(c, timesL p pk k)]) := by
  have hp : 0 < p := by omega
  have mem : ∀ l ∈ rest, l ∈ left := fun l m => pm.mem_iff.mpr (List.mem_cons_of_mem _ m)
  have mpk : pk ∈ left := pm.mem_iff.mpr List.mem_cons_self
  have rp := h.row pk mpk
  have ru : Row p w (timesL p pk k) := rp.times hp
  have one : vec (timesL p pk k) c = 1 := by
    unfold timesL
    rw [vec_map (by rw [rp.len]; exact hc)]; exact hk
  have low : ∀ i, i < c → vec (timesL p pk k) i = 0 := fun i lt => by
    unfold timesL
    rw [vec_map (by rw [rp.len]; omega), h.zero pk mpk i lt, Int.zero_mul, Int.zero_emod]
  have back : Cg p (vec pk) (fun i => vec pk c * vec (timesL p pk k) i) := fun i => by
    obtain ⟨d, f⟩ := times_cg (p := p) (l := pk) (n := k) i
    have f : vec (timesL p pk k) i - k * vec pk i = p * d := f
    have e := Int.emod_add_mul_ediv (vec pk c * k) p
    rw [hk] at e
    generalize vec pk c * k / p = m at e
    refine ⟨-m * vec pk i - vec pk c * d, ?_⟩
    show vec pk i - vec pk c * vec (timesL p pk k) i = _
    have g : vec (timesL p pk k) i = k * vec pk i + p * d := by omega
    rw [g, Int.mul_add, ← Int.mul_assoc, ← e, Int.mul_sub, Int.add_mul, Int.one_mul, Int.neg_mul, Int.mul_neg, Int.mul_assoc p, Int.mul_left_comm (vec pk c) p d]
    omega
  refine ⟨fun l m => ?_, fun l m i lt => ?_, ⟨fun x m => ?_, fun x m => ?_, fun x m i lt => ?_, fun x m y n ne => ?_, ?_⟩, fun x m => ?_, ?_, fun v => ?_⟩
  · obtain ⟨q, hq, rfl⟩ := List.mem_map.mp m
    exact (h.row q (mem q hq)).col ru hp
  · obtain ⟨q, hq, rfl⟩ := List.mem_map.mp m
    rcases Nat.lt_succ_iff_lt_or_eq.mp lt with z | z
    · rw [col_keep (h.row q (mem q hq)) ru hp (low i z)]; exact h.zero q (mem q hq) i z
    · rw [z]; exact col_at (h.row q (mem q hq)) ru hp one
  · rcases List.mem_append.mp m with m | m
    · obtain ⟨q, hq, rfl⟩ := List.mem_map.mp m
      exact (h.red.row q hq).col ru hp
    · rw [List.mem_singleton.mp m]; exact ru
  · rcases List.mem_append.mp m with m | m
    · obtain ⟨q, hq, rfl⟩ := List.mem_map.mp m
      refine ⟨(h.red.one q hq).1, ?_⟩
      show vec (colL p q.2 _ c) q.1 = 1
      rw [col_keep (h.red.row q hq) ru hp (low _ (h.lt q hq))]; exact (h.red.one q hq).2
    · rw [List.mem_singleton.mp m]; exact ⟨hc, one⟩
  · rcases List.mem_append.mp m with m | m
    · obtain ⟨q, hq, rfl⟩ := List.mem_map.mp m
      have lt : i < q.1 := lt
      show vec (colL p q.2 _ c) i = 0
      have := h.lt q hq
      rw [col_keep (h.red.row q hq) ru hp (low _ (by omega))]; exact h.red.low q hq i lt
    · rw [List.mem_singleton.mp m] at lt ⊢; exact low i lt
  · rcases List.mem_append.mp m with m | m
    · obtain ⟨q, hq, rfl⟩ := List.mem_map.mp m
      rcases List.mem_append.mp n with n | n
      · obtain ⟨t, ht, rfl⟩ := List.mem_map.mp n
        show vec (colL p q.2 _ c) t.1 = 0
        rw [col_keep (h.red.row q hq) ru hp (low _ (h.lt t ht))]; exact h.red.off q hq t ht ne
      · rw [List.mem_singleton.mp n]; exact col_at (h.red.row q hq) ru hp one
    · rw [List.mem_singleton.mp m] at ne ⊢
      rcases List.mem_append.mp n with n | n
      · obtain ⟨t, ht, rfl⟩ := List.mem_map.mp n
        exact low _ (h.lt t ht)
      · rw [List.mem_singleton.mp n] at ne; exact absurd rfl ne
  · rw [List.map_append, List.map_map]
    refine List.nodup_append.mpr ⟨h.red.nd, List.nodup_cons.mpr ⟨by simp, List.nodup_nil⟩, fun a ha b hb e => ?_⟩
    obtain ⟨q, hq, rfl⟩ := List.mem_map.mp ha
    have := h.lt q hq
    have := List.mem_singleton.mp hb
    have e : q.1 = b := e
    have : b = c := this
    omega
  · rcases List.mem_append.mp m with m | m
    · obtain ⟨q, hq, rfl⟩ := List.mem_map.mp m
      exact Nat.lt_succ_of_lt (h.lt q hq)
    · rw [List.mem_singleton.mp m]; exact Nat.lt_succ_self _
  · rw [List.map_append, List.map_map]
    refine List.pairwise_append.mpr ⟨h.rise, List.pairwise_singleton _ _, fun a ha b hb => ?_⟩
    obtain ⟨q, hq, rfl⟩ := List.mem_map.mp ha
    rw [List.mem_singleton.mp hb]
    exact h.lt q hq
  · refine Iff.trans ?_ (h.sp v)
    have uN : ∀ L : List Vec, vec (timesL p pk k) ∈ L → Sp0 p L (vec (timesL p pk k)) := fun L => .of
    constructor
    · intro s
      have hu : Sp0 p ((B.map fun x => vec x.2) ++ left.map vec) (vec (timesL p pk k)) :=
        ((Sp0.of (List.mem_append_right _ (List.mem_map.mpr ⟨pk, mpk, rfl⟩))).mul k).cg times_cg
      refine Sp0.trans (fun r m => ?_) s
      rcases List.mem_append.mp m with m | m
      · rw [List.map_append, List.map_map] at m
        rcases List.mem_append.mp m with m | m
        · obtain ⟨q, hq, rfl⟩ := List.mem_map.mp m
          exact (col_sp (h.red.row q hq) ru hp hu).mp (.of (List.mem_append_left _ (List.mem_map.mpr ⟨q, hq, rfl⟩)))
        · rw [List.mem_singleton.mp m]; exact hu
      · rw [List.map_map] at m
        obtain ⟨q, hq, rfl⟩ := List.mem_map.mp m
        exact (col_sp (h.row q (mem q hq)) ru hp hu).mp (.of (List.mem_append_right _ (List.mem_map.mpr ⟨q, mem q hq, rfl⟩)))
    · intro s
      refine Sp0.trans (fun r m => ?_) s
      have hu : Sp0 p ((((B.map fun x => (x.1, colL p x.2 (timesL p pk k) c)) ++ [(c, timesL p pk k)]).map fun x => vec x.2) ++ (rest.map fun l => colL p l (timesL p pk k) c).map vec) (vec (timesL p pk k)) :=
        .of (List.mem_append_left _ (List.mem_map.mpr ⟨(c, timesL p pk k), List.mem_append_right _ (List.mem_singleton.mpr rfl), rfl⟩))
      rcases List.mem_append.mp m with m | m
      · obtain ⟨q, hq, rfl⟩ := List.mem_map.mp m
        exact (col_sp (h.red.row q hq) ru hp hu).mpr (.of (List.mem_append_left _ (List.mem_map.mpr ⟨(q.1, colL p q.2 (timesL p pk k) c), List.mem_append_left _ (List.mem_map.mpr ⟨q, hq, rfl⟩), rfl⟩)))
      · obtain ⟨q, hq, rfl⟩ := List.mem_map.mp m
        rcases List.mem_cons.mp (pm.mem_iff.mp hq) with e | hq2
        · rw [e]; exact (hu.mul (vec pk c)).cg back
        · exact (col_sp (h.row q hq) ru hp hu).mpr (.of (List.mem_append_right _ (List.mem_map.mpr ⟨colL p q (timesL p pk k) c, List.mem_map.mpr ⟨q, hq2, rfl⟩, rfl⟩)))
theorem ColSt.done {lot left : List (List Int)} {B : List (Nat × List Int)} (h : ColSt p w lot w left B) : ∀ v, Sp0 p (B.map fun x => vec x.2) v ↔ Sp0 p (lot.map vec) v := fun v => by
  refine Iff.trans ⟨fun s => Sp0.trans (fun r m => .of (List.mem_append_left _ m)) s, fun s => Sp0.trans (fun r m => ?_) s⟩ (h.sp v)
  rcases List.mem_append.mp m with m | m
  · exact .of m
  · obtain ⟨q, hq, rfl⟩ := List.mem_map.mp m
    refine .zero fun i => ?_
    have : vec q i = 0 := by
      by_cases lt : i < w
      · exact h.zero q hq i lt
      · exact vec_out (by rw [(h.row q hq).len]; omega)
    rw [this]
    exact ⟨0, by show (0 : Int) - 0 = p * 0; omega⟩
end
local macro_rules | `(tactic| walk_at "st1") => `(tactic| first
  | with_reducible refine r_par ?_
  | with_reducible refine r_parx ?_
  | ((with_reducible refine' r_gtup ?e1 ?e2 ?_); (case e1 => walk_at "sq"); (case e2 => rfl))
  | with_reducible refine r_gcons ?_
  | with_reducible refine r_gnil ?_
  | with_reducible refine r_ient ?_
  | ((with_reducible refine' r_ent ?e1 ?_); (case e1 => walk_at "sq")))
local macro_rules | `(tactic| walk_at "st1") => `(tactic| first
  | with_reducible refine r_izx ?_
  | with_reducible refine r_isq ?_
  | ((with_reducible refine' r_zxt ?e1 ?e2 ?_); (case e1 => walk_at "sq"); (case e2 => walk_at "sq"))
  | ((with_reducible refine' r_zxm ?e1 ?e2 ?_); (case e1 => walk_at "sq"); (case e2 => walk_at "sq"))
  | ((with_reducible refine' r_sqt ?e1 ?_); (case e1 => walk_at "sq"))
  | ((with_reducible refine' r_sql ?e1 ?_); (case e1 => walk_at "sq")))
def sp_law_inverse (_ : PySem.W.Frag) : Sp := fun vs H Q _ => ∃ (n b : Int), vs = [.int n, .int b] ∧ b ∈ primes5 ∧ (1 ≤ n ∧ n < b) ∧ ∀ k H', Same H H' → (1 ≤ k ∧ k < b) → k * n % b = 1 → Q (.int k) H'
section
variable {P : Program} {w : World} {K : PySem.W.Frag} {mg : Str → Option Value} {base : Heap}
theorem ok_law_inverse (T : Tx K mg)  {f : Addr} {fd : FuncData} (F : Here K mg "_law_inverse" s_law_inverse ["n", "base"] f fd) : Cal P w K mg base "_law_inverse" 1 ["n", "base"] (sp_law_inverse K) s_law_inverse f fd := by
  refine F.cal sc_law_inverse (fun vs H Q E h => ?_) (fun cdv A outer s H vs Q E hr h => ?_)
  · obtain ⟨n, b, rfl, _⟩ := h
    rfl
  · obtain ⟨n, b, rfl, hb, hn, q⟩ := h
    have hp := prime5_le hb
    refine ⟨_, (pss_one (ps_ret (pe_ix (ix_listK (K := K)) (pe_lc rfl sc_law_inverse.nd (pi_range2 (by rfl) T.m_range (pa_cons pe_int (pa_cons (pv 1) pa_nil))) (blkOk_by (own := [("k", 2)]) (N := ["n", "base", "k"]) (sc := (defScope s_law_inverse)) (by decide +kernel)) (fun _ _ _ _ _ => (pg_name (i := 2) sc_law_inverse.nd rfl (by first | exact .inl rfl | exact .inr rfl))) (fun _ _ _ _ _ => (pts_one (pt_cmpR op_eq (pe_op op_mod (pe_op op_mul (pv 2) (pv 0)) (pv 1)) pe_int (nomark _)))) (fun _ _ _ _ _ => (pv 2))) pe_int (fun _ _ => rfl)))), ?_⟩
    walk_at "st"
    intro D hD
    refine lc_by (walk_range (lo := 1) (n := (b - 1).toNat)) (fun i H' => Same H H' ∧ ∃ ks : List Int, H' D = some (.lst (ks.map .int)) ∧ ks.length ≤ i ∧ (∀ k ∈ ks, (1 ≤ k ∧ k < b) ∧ k * n % b = 1) ∧ ∀ k : Int, 1 ≤ k → k < 1 + i → k * n % b = 1 → ks ≠ [])
      ⟨Same.upd_new hD, [], upd_same, Nat.le_refl _, fun k m => (by cases m), fun k h1 h2 => by omega⟩ (fun _ _ _ _ => trivial) (fun i x H1 H2 hi p y => ?_) (fun H' p => ?_)
    · obtain ⟨sm, ks, eD, lk, ok, ex⟩ := p
      obtain ⟨rfl, rfl⟩ := y
      refine ⟨rfl, ?_⟩
      walk_at "st"
      refine r_ite (fun h1 => ?_) (fun h1 => ?_)
      · walk_at "st"
        have h1' : (1 + (i : Int)) * n % b = 1 := by simpa using h1
        refine ⟨_, eD, ?_, fun c o e => ?_, ks ++ [1 + (i : Int)], ?_, by simp; omega, fun k m => ?_, fun k _ _ _ => by simp⟩
        · rw [List.length_map]
          exact Nat.lt_of_le_of_lt lk (Nat.lt_of_lt_of_le hi (Nat.le_trans (show (b - 1).toNat ≤ 1000 by omega) (by decide)))
        · exact hl_set (ne_of_none e hD) (sm _ _ e)
        · rw [upd_same, List.map_append]; rfl
        · rcases List.mem_append.mp m with m | m
          · exact ok k m
          · rw [List.mem_singleton.mp m]; exact ⟨by omega, h1'⟩
      · have h1' : ¬ (1 + (i : Int)) * n % b = 1 := by simpa using h1
        refine ⟨sm, ks, eD, by omega, ok, fun k a1 a2 a3 => ?_⟩
        by_cases c : k = 1 + (i : Int)
        · rw [c] at a3; exact absurd a3 h1'
        · exact ex k a1 (by omega) a3
    · obtain ⟨sm, ks, eD, lk, ok, ex⟩ := p
      have io := (inv5 hb).ok n hn.1 hn.2
      have e1 := (fact5 hb hn).2
      have ne : ks ≠ [] := by
        refine ex ((n.toNat ^ (b.toNat - 2) % b.toNat : Nat) : Int) ?_ ?_ (by rw [Int.mul_comm]; exact io)
        · rcases Nat.eq_zero_or_pos (n.toNat ^ (b.toNat - 2) % b.toNat) with z | z
          · rw [z] at e1; simp at e1
          · omega
        · have := Nat.mod_lt (n.toNat ^ (b.toNat - 2)) (show 0 < b.toNat by omega)
          omega
      cases ks with
      | nil => exact absurd rfl ne
      | cons k ks =>
        have hk := ok k List.mem_cons_self
        have e0 : atI ((k :: ks).map V.int) 0 = some (.int k) := by
          show atI ((k :: ks).map V.int) ((0 : Nat) : Int) = _
          exact atI_nat rfl
        walk_at "st"
        exact q k H' sm hk.1 hk.2
end
local macro_rules | `(tactic| walk_at "st1") => `(tactic| first
  | with_reducible refine r_par ?_
  | with_reducible refine r_parx ?_
  | ((with_reducible refine' r_gtup ?e1 ?e2 ?_); (case e1 => walk_at "sq"); (case e2 => rfl))
  | with_reducible refine r_gcons ?_
  | with_reducible refine r_gnil ?_
  | with_reducible refine r_ient ?_
  | ((with_reducible refine' r_ent ?e1 ?_); (case e1 => walk_at "sq")))
local macro_rules | `(tactic| walk_at "st1") => `(tactic| first
  | with_reducible refine r_izx ?_
  | with_reducible refine r_isq ?_
  | ((with_reducible refine' r_zxt ?e1 ?e2 ?_); (case e1 => walk_at "sq"); (case e2 => walk_at "sq"))
  | ((with_reducible refine' r_zxm ?e1 ?e2 ?_); (case e1 => walk_at "sq"); (case e2 => walk_at "sq"))
  | ((with_reducible refine' r_sqt ?e1 ?_); (case e1 => walk_at "sq"))
  | ((with_reducible refine' r_sql ?e1 ?_); (case e1 => walk_at "sq")))
local macro_rules | `(tactic| walk_at "st1") => `(tactic| first
  | ((with_reducible refine' r_ixql ?e1 ?e2 ?_); (case e1 => walk_at "sq"); (case e2 => first | assumption | rfl))
  | ((with_reducible refine' r_ixqt ?e1 ?e2 ?_); (case e1 => walk_at "sq"); (case e2 => first | assumption | rfl)))
def Lf (H : Hp) (as : List Addr) (f : Addr → List Int) : Prop := ∀ a ∈ as, H a = some (.lst ((f a).map .int))
theorem Lf.same {H H' : Hp} {as : List Addr} {f : Addr → List Int} (h : Lf H as f) (k : Same H H') : Lf H' as f := fun a m => k _ _ (h a m)
theorem cut1 (xs : List V) : cutV xs none (some 1) = xs.take 1 := by
  cases xs with
  | nil => rfl
  | cons x xs =>
    unfold cutV
    simp [HT.sIx]
theorem first_like {f : Addr → List Int} {b : Addr} : ∀ {as : List Addr}, b ∈ as → ∃ j, (∃ a, as[j]? = some a ∧ f a = f b) ∧ (∀ i a, i < j → as[i]? = some a → f a ≠ f b) ∧ (as.map f).Perm (f b :: (as.eraseIdx j).map f)
  | a :: as, m => by
    by_cases e : f a = f b
    · exact ⟨0, ⟨a, rfl, e⟩, fun i _ z => absurd z (Nat.not_lt_zero i), by rw [List.map_cons, e]; exact List.Perm.refl _⟩
    · have m2 : b ∈ as := by
        rcases List.mem_cons.mp m with z | z
        · exact absurd (by rw [z]) e
        · exact z
      obtain ⟨j, ⟨x, h1, h2⟩, h3, h4⟩ := first_like (f := f) m2
      refine ⟨j + 1, ⟨x, h1, h2⟩, fun i y lt ey => ?_, ?_⟩
      · cases i with
        | zero => rw [← Option.some.inj (show some a = some y from ey)]; exact e
        | succ i => exact h3 i y (Nat.lt_of_succ_lt_succ lt) ey
      · show (f a :: as.map f).Perm (f b :: f a :: (as.eraseIdx j).map f)
        exact (List.Perm.cons _ h4).trans (List.Perm.swap _ _ _)
theorem ref_map_ne {l : Addr} {as : List Addr} {r : List Int} {H : Hp} (h : H l = some (.lst (as.map V.ref))) (m : l ∈ as) (k : H l = some (.lst (r.map .int))) : False := by
  rw [h] at k
  injection k with k
  injection k with k
  cases as with
  | nil => cases m
  | cons a as => cases r with
    | nil => cases k
    | cons n r => injection k with k1 k2; cases k1
def sp_law_reduced (_ : PySem.W.Frag) : Sp := fun vs H Q _ => ∃ (a : Addr) (w : Nat) (b : Int) (us : List V) (rows : List (List Int)), vs = [.ref a, .int w, .int b] ∧ (H a = some (.tup us) ∨ H a = some (.lst us)) ∧ Rws H us rows ∧ b ∈ primes5 ∧ w ≤ 400 ∧ rows.length ≤ 1000 ∧ (∀ r ∈ rows, Row b w r) ∧
  ∀ (c : Addr) (zs : List V) (B : List (Nat × List Int)) (H' : Hp), Same H H' → H c = none → H' c = some (.tup zs) → Rws H' zs (B.map (·.2)) → Rdc b w rows B → Q (.ref c) H'
section
variable {P : Program} {w : World} {K : PySem.W.Frag} {mg : Str → Option Value} {base : Heap}
theorem ok_law_reduced (T : Tx K mg) {f_law_times : Addr} {fd_law_times : FuncData} (C_law_times : Cal P w K mg base "_law_times" 1 ["line", "n", "base"] (sp_law_times K) s_law_times f_law_times fd_law_times) {f_law_inverse : Addr} {fd_law_inverse : FuncData} (C_law_inverse : Cal P w K mg base "_law_inverse" 1 ["n", "base"] (sp_law_inverse K) s_law_inverse f_law_inverse fd_law_inverse) {f_law_together : Addr} {fd_law_together : FuncData} (C_law_together : Cal P w K mg base "_law_together" 1 ["line", "two", "base"] (sp_law_together K) s_law_together f_law_together fd_law_together) {f : Addr} {fd : FuncData} (F : Here K mg "_law_reduced" s_law_reduced ["lot", "wideness", "base"] f fd) : Cal P w K mg base "_law_reduced" 2 ["lot", "wideness", "base"] (sp_law_reduced K) s_law_reduced f fd := by
  refine F.cal sc_law_reduced (fun vs H Q E h => ?_) (fun cdv A outer s H vs Q E hr h => ?_)
  · obtain ⟨a, w, b, us, rows, rfl, _⟩ := h
    rfl
  · obtain ⟨a, w, b, us, rows, rfl, ha, hR, hb, hw, hlen, rr, q⟩ := h
    have hp := prime5_le hb
    have p0 : 0 < b := by omega
    have lus : us.length ≤ 1000 := by rw [hR.1]; exact hlen
    refine ⟨_, (pss_cons (ps_setLc (i := 3) rfl sc_law_reduced.nd rfl rfl (sw_true rfl rfl rfl (by decide +kernel)) (pi_sqK (K := K) (pv 0)) (blkOk_by (own := [("line", 4)]) (N := ["lot", "wideness", "base", "left", "line", "done", "column", "picked", "unit"]) (sc := (defScope s_law_reduced)) (by decide +kernel)) (fun _ _ _ _ _ => (pg_name (i := 4) sc_law_reduced.nd rfl (by first | exact .inl rfl | exact .inr rfl))) (fun _ _ _ _ _ => pts_nil) (fun _ _ _ _ _ => (pe_callTy (cr_listOfK (K := K)) (by rfl) T.m_list (by decide +kernel) (pa_cons (pv 4) pa_nil))))
      (pss_cons (ps_set (i := 5) sc_law_reduced.nd rfl (by first | exact .inl rfl | exact .inr rfl) (pe_lst pa_nil))
      (pss_cons (ps_for PassesOwn.never rfl (pi_range1 (by rfl) T.m_range (pa_cons (pv 1) pa_nil)) (pg_name (i := 6) sc_law_reduced.nd rfl (by first | exact .inl rfl | exact .inr rfl)) (pss_cons (ps_set (i := 7) sc_law_reduced.nd rfl (by first | exact .inl rfl | exact .inr rfl) (pe_slice (sl_listK (K := K)) (pe_lc rfl sc_law_reduced.nd (pi_listK (K := K) (pv 3)) (blkOk_by (own := [("line", 4)]) (N := ["lot", "wideness", "base", "left", "line", "done", "column", "picked", "unit"]) (sc := (defScope s_law_reduced)) (by decide +kernel)) (fun _ _ _ _ _ => (pg_name (i := 4) sc_law_reduced.nd rfl (by first | exact .inl rfl | exact .inr rfl))) (fun _ _ _ _ _ => (pts_one (pt_cmpR op_ne (pe_ix (ix_seqK (K := K)) (pv 4) (pv 6) (fun _ _ => rfl)) pe_int (nomark _)))) (fun _ _ _ _ _ => (pv 4))) po_none (po_some pe_int)))
      (pss_one (ps_if (pt_cmpR (op_neNilK (K := K) (hu_of64 hr)) (pv 7) (pe_lst pa_nil) (nomark _)) (pss_cons (ps_expr (castBM (K := K) (pe_bm PySem.F.plainAttrs_list PySem.F.slot_list_remove PySem.F.type_list_remove (mt_remL (hu_of64 hr)) (pv 3) (pa_cons (pe_ix (ix_listK (K := K)) (pv 7) pe_int (fun _ _ => rfl)) pa_nil))))
      (pss_cons (ps_set (i := 8) sc_law_reduced.nd rfl (by first | exact .inl rfl | exact .inr rfl) (pe_call C_law_times.ok (hr.mono (by decide)) (by rfl) C_law_times.at_ C_law_times.kp C_law_times.b .nil pass0 (pa_cons (pe_ix (ix_listK (K := K)) (pv 7) pe_int (fun _ _ => rfl)) (pa_cons (pe_call C_law_inverse.ok (hr.mono (by decide)) (by rfl) C_law_inverse.at_ C_law_inverse.kp C_law_inverse.b .nil pass0 (pa_cons (pe_ix (ix_listK (K := K)) (pe_ix (ix_listK (K := K)) (pv 7) pe_int (fun _ _ => rfl)) (pv 6) (fun _ _ => rfl)) (pa_cons (pv 2) pa_nil))) (pa_cons (pv 2) pa_nil)))))
      (pss_cons (ps_set (i := 5) sc_law_reduced.nd rfl (by first | exact .inl rfl | exact .inr rfl) (pe_op op_cat (pe_lc rfl sc_law_reduced.nd (pi_listK (K := K) (pv 5)) (blkOk_by (own := [("line", 4)]) (N := ["lot", "wideness", "base", "left", "line", "done", "column", "picked", "unit"]) (sc := (defScope s_law_reduced)) (by decide +kernel)) (fun _ _ _ _ _ => (pg_name (i := 4) sc_law_reduced.nd rfl (by first | exact .inl rfl | exact .inr rfl))) (fun _ _ _ _ _ => pts_nil) (fun _ _ _ _ _ => (pe_call C_law_together.ok (hr.mono (by decide)) (by rfl) C_law_together.at_ C_law_together.kp C_law_together.b .nil pass0 (pa_cons (pv 4) (pa_cons (pe_call C_law_times.ok (hr.mono (by decide)) (by rfl) C_law_times.at_ C_law_times.kp C_law_times.b .nil pass0 (pa_cons (pv 8) (pa_cons (pe_op op_sub (pv 2) (pe_ix (ix_seqK (K := K)) (pv 4) (pv 6) (fun _ _ => rfl))) (pa_cons (pv 2) pa_nil)))) (pa_cons (pv 2) pa_nil)))))) (pe_lst (pa_cons (pv 8) pa_nil))))
      (pss_one (ps_setLc (i := 3) rfl sc_law_reduced.nd rfl rfl (sw_true rfl rfl rfl (by decide +kernel)) (pi_listK (K := K) (pv 3)) (blkOk_by (own := [("line", 4)]) (N := ["lot", "wideness", "base", "left", "line", "done", "column", "picked", "unit"]) (sc := (defScope s_law_reduced)) (by decide +kernel)) (fun _ _ _ _ _ => (pg_name (i := 4) sc_law_reduced.nd rfl (by first | exact .inl rfl | exact .inr rfl))) (fun _ _ _ _ _ => pts_nil) (fun _ _ _ _ _ => (pe_callTy (cr_listOfK (K := K)) (by rfl) T.m_list (by decide +kernel) (pa_cons (pe_call C_law_together.ok (hr.mono (by decide)) (by rfl) C_law_together.at_ C_law_together.kp C_law_together.b .nil pass0 (pa_cons (pv 4) (pa_cons (pe_call C_law_times.ok (hr.mono (by decide)) (by rfl) C_law_times.at_ C_law_times.kp C_law_times.b .nil pass0 (pa_cons (pv 8) (pa_cons (pe_op op_sub (pv 2) (pe_ix (ix_seqK (K := K)) (pv 4) (pv 6) (fun _ _ => rfl))) (pa_cons (pv 2) pa_nil)))) (pa_cons (pv 2) pa_nil)))) pa_nil)))))))) pss_nil))))
      (pss_one (ps_ret (pe_callTy (cr_tupOfK (K := K)) (by rfl) T.m_tuple (by decide +kernel) (pa_cons (pe_lc rfl sc_law_reduced.nd (pi_listK (K := K) (pv 5)) (blkOk_by (own := [("line", 4)]) (N := ["lot", "wideness", "base", "left", "line", "done", "column", "picked", "unit"]) (sc := (defScope s_law_reduced)) (by decide +kernel)) (fun _ _ _ _ _ => (pg_name (i := 4) sc_law_reduced.nd rfl (by first | exact .inl rfl | exact .inr rfl))) (fun _ _ _ _ _ => pts_nil) (fun _ _ _ _ _ => (pe_callTy (cr_tupOfK (K := K)) (by rfl) T.m_tuple (by decide +kernel) (pa_cons (pv 4) pa_nil)))) pa_nil))))))), ?_⟩
    obtain ⟨J, G, wk, hG, hR0⟩ : ∃ (J : It) (G : Hp → Prop), Walk J us.length G (YAt us) ∧ (∀ H', Same H H' → G H') ∧ ∀ (R : It → Hp → Prop) H', Same H H' → R J H' → SqR K R (.ref a) H' := by
      rcases ha with ha | ha
      · exact ⟨Itt K a, _, walk_tup (xs := us), fun H' k => SqT.of (k _ _ ha), fun R H' k r => r_sqt (SqT.of (k _ _ ha)) r⟩
      · exact ⟨Itl K a, _, walk_list (xs := us), fun H' k => SqL.of (k _ _ ha), fun R H' k r => r_sql (SqL.of (k _ _ ha)) r⟩
    walk_at "st"
    refine hR0 _ _ (Same.refl _) ?_
    walk_at "st"
    intro D hD
    refine lc_by wk (fun i H' => Same H H' ∧ ∃ (as : List Addr) (f : Addr → List Int), H' D = some (.lst (as.map V.ref)) ∧ as.length = i ∧ D ∉ as ∧ Lf H' as f ∧ as.map f = rows.take i)
      ⟨Same.upd_new hD, [], fun _ => [], upd_same, rfl, by simp, fun a m => (by cases m), rfl⟩ (fun i H' _ p => hG _ p.1) (fun i x H1 H2 hi p y => ?_) (fun H1 p => ?_)
    · obtain ⟨sm, as, f, eD, el, nD, hf, em⟩ := p
      obtain ⟨rfl, ex⟩ := y
      obtain ⟨r, er, pr⟩ := hR.2 i x ex
      obtain ⟨c, rfl, hc⟩ := pr.same sm
      refine ⟨rfl, ?_⟩
      walk_at "st"
      intro l hl
      have nl : l ≠ D := fun z => by rw [z, eD] at hl; cases hl
      have nas : l ∉ as := fun m => by rw [hf l m] at hl; cases hl
      have eD2 : upd H2 l (.lst (r.map V.int)) D = some (.lst (as.map V.ref)) := hl_new eD hl
      refine ⟨_, eD2, ?_, fun o u e => ?_, as ++ [l], fun a => if a = l then r else f a, ?_, by simp [el], ?_, fun a m => ?_, ?_⟩
      · rw [List.length_map, el]; exact Nat.lt_of_lt_of_le (Nat.lt_of_lt_of_le hi lus) (by decide)
      · exact hl_set (ne_of_none e hD) (hl_new (sm _ _ e) hl)
      · rw [upd_same, List.map_append]; rfl
      · intro m
        rcases List.mem_append.mp m with m | m
        · exact nD m
        · exact nl (List.mem_singleton.mp m).symm
      · rcases List.mem_append.mp m with m | m
        · have n1 : a ≠ l := fun z => nas (z ▸ m)
          have n2 : a ≠ D := fun z => nD (z ▸ m)
          show _ = some (HO.lst ((if a = l then r else f a).map V.int))
          rw [if_neg n1]
          exact hl_set n2 (hl_new (hf a m) hl)
        · rw [List.mem_singleton.mp m]
          show _ = some (HO.lst ((if l = l then r else f l).map V.int))
          rw [if_pos rfl]
          exact hl_set nl upd_same
      · rw [List.map_append, List.take_succ, er, ← em]
        congr 1
        · refine List.map_congr_left fun a m => ?_
          have n1 : a ≠ l := fun z => nas (z ▸ m)
          show (if a = l then r else f a) = f a
          rw [if_neg n1]
        · show [if l = l then r else f l] = [r]
          rw [if_pos rfl]
    · obtain ⟨sm, as, f, eD, el, nD, hf, em⟩ := p
      rw [List.take_of_length_le (Nat.le_of_eq hR.1.symm)] at em
      walk_at "st"
      intro d hd
      have nDd : D ≠ d := ne_of_none eD hd
      have s1 : Same H1 (upd H1 d (.lst [])) := Same.upd_new hd
      have cs0 : ColSt b w rows 0 (as.map f) [] := by rw [em]; exact ColSt.start rr
      walk_at "st"
      refine lp_by (walk_range (lo := 0) (n := (w : Int).toNat)) (fun c σ' H' => ∃ l d x4 x6 x7 x8, σ' = [some (.ref a), some (.int w), some (.int b), some (.ref l), x4, some (.ref d), x6, x7, x8] ∧ Same H H' ∧ H l = none ∧ l ≠ d ∧ ∃ as f zs B, H' l = some (.lst (as.map V.ref)) ∧ Lf H' as f ∧ H' d = some (.lst zs) ∧ Rws H' zs (B.map (·.2)) ∧ as.length ≤ 1000 ∧ B.length ≤ c ∧ ColSt b w rows c (as.map f) B)
        ⟨D, d, _, _, _, _, rfl, sm.trans s1, hD, nDd, as, f, [], [], s1 _ _ eD, hf.same s1, upd_same, ⟨rfl, fun i v e => by simp at e⟩, by omega, Nat.le_refl _, cs0⟩ (fun _ _ _ _ _ => trivial) (fun c x σ' H2 H3 hi p2 y => ?_) (fun σ' H2 p2 => ?_)
      · obtain ⟨l, d, x4, x6, x7, x8, rfl, sm2, hl0, nld, as, f, zs, B, el2, hf2, ed2, hz2, la, lB, cs⟩ := p2
        obtain ⟨rfl, rfl⟩ := y
        have cw : c < w := by omega
        have rowf : ∀ a ∈ as, Row b w (f a) := fun a m => cs.row _ (List.mem_map_of_mem m)
        have ixf : ∀ a ∈ as, atI ((f a).map V.int) (0 + (c : Int)) = some (.int (vec (f a) c)) := fun a m => by
          rw [Int.zero_add]; exact atI_vec (by rw [(rowf a m).len]; exact cw)
        walk_at "st"
        intro D2 hD2
        refine lc_by (walk_list (xs := as.map V.ref)) (fun i H' => Same H3 H' ∧ ∃ ps : List Addr, H' D2 = some (.lst (ps.map V.ref)) ∧ ps.length ≤ i ∧ (∀ a ∈ ps, a ∈ as ∧ vec (f a) c ≠ 0) ∧ ∀ (j : Nat) a, j < i → as[j]? = some a → vec (f a) c ≠ 0 → ps ≠ [])
          ⟨Same.upd_new hD2, [], upd_same, Nat.le_refl _, fun a m => (by cases m), fun j a z => absurd z (Nat.not_lt_zero j)⟩ (fun i H' _ p => SqL.of (p.1 _ _ el2)) (fun i x H4 H5 hi p y => ?_) (fun H4 p => ?_)
        · obtain ⟨sm4, ps, eD2, lp, ok, ex⟩ := p
          obtain ⟨rfl, exx⟩ := y
          rw [List.getElem?_map] at exx
          cases ea : as[i]? with
          | none => rw [ea] at exx; cases exx
          | some a1 =>
            rw [ea] at exx
            obtain rfl : V.ref a1 = x := Option.some.inj exx
            have ma := List.mem_of_getElem? ea
            have hix := ixf a1 ma
            have h5 := sm4 _ _ (hf2 a1 ma)
            refine ⟨rfl, ?_⟩
            walk_at "st"
            refine r_iteB (fun h1 => ?_) (fun h1 => ?_)
            · have h1' : vec (f a1) c ≠ 0 := by simpa using h1
              walk_at "st"
              refine ⟨_, eD2, ?_, fun o u e => hl_set (ne_of_none e hD2) (sm4 _ _ e), ps ++ [a1], ?_, by simp; omega, fun a m => ?_, fun _ _ _ _ _ => by simp⟩
              · rw [List.length_map]; exact Nat.lt_of_le_of_lt lp (Nat.lt_of_lt_of_le hi (by rw [List.length_map]; exact Nat.le_trans la (by decide)))
              · rw [upd_same, List.map_append]; rfl
              · rcases List.mem_append.mp m with m | m
                · exact ok a m
                · rw [List.mem_singleton.mp m]; exact ⟨ma, h1'⟩
            · have h1' : vec (f a1) c = 0 := by simpa using h1
              refine ⟨sm4, ps, eD2, by omega, ok, fun j a lt e z => ?_⟩
              rcases Nat.lt_succ_iff_lt_or_eq.mp lt with g | g
              · exact ex j a g e z
              · rw [g, ea] at e
                rw [← Option.some.inj e] at z
                exact absurd h1' z
        · obtain ⟨sm4, ps, eD2, lp, ok, ex⟩ := p
          have h4l := sm4 _ _ el2
          have h4d := sm4 _ _ ed2
          have hf4 := hf2.same sm4
          have hz4 := hz2.same sm4
          have sm04 : Same H H4 := sm2.trans sm4
          clear sm2 el2 hf2 ed2 hz2
          walk_at "st"
          rw [cut1]
          intro p1 hp1
          walk_at "st"
          walk_at "if"
          intro p3 hp3
          walk_at "st"
          have sX : Same H4 (upd (upd H4 p1 (.lst ((ps.map V.ref).take 1))) p3 (.lst [])) := by walk_at "sm"
          have e1X : upd (upd H4 p1 (.lst ((ps.map V.ref).take 1))) p3 (.lst []) p1 = some (.lst ((ps.map V.ref).take 1)) := hl_new upd_same hp3
          have nl1 : l ≠ p1 := ne_of_none h4l hp1
          generalize upd (upd H4 p1 (.lst ((ps.map V.ref).take 1))) p3 (.lst []) = H5 at *
          refine r_iteB (fun h1 => ?_) (fun h1 => ?_)
          · cases ps with
            | nil => cases h1
            | cons pk ps =>
              obtain ⟨mpk, nz⟩ := ok pk List.mem_cons_self
              have e0 : atI (((pk :: ps).map V.ref).take 1) 0 = some (.ref pk) := by
                show atI (((pk :: ps).map V.ref).take 1) ((0 : Nat) : Int) = _
                exact atI_nat rfl
              obtain ⟨j, hj1, hj2, pm⟩ := first_like (f := f) mpk
              have h5l := sX _ _ h4l
              have hf5 := hf4.same sX
              have nlas : l ∉ as := fun m => ref_map_ne h5l m (hf5 l m)
              walk_at "st"
              refine ⟨l, pk, as, f, j, rfl, rfl, h5l, hf5, hf5 pk mpk, hj1, hj2, ?_⟩
              have s6 : Same H (upd H5 l (.lst ((as.eraseIdx j).map V.ref))) := fun o u e => hl_set (ne_of_none e hl0) (sX _ _ (sm04 _ _ e))
              have hf6 : Lf (upd H5 l (.lst ((as.eraseIdx j).map V.ref))) as f := fun a m => hl_set (fun z => nlas (z ▸ m)) (hf5 a m)
              have h6d : upd H5 l (.lst ((as.eraseIdx j).map V.ref)) d = some (.lst zs) := hl_set nld.symm (sX _ _ h4d)
              have h61 : upd H5 l (.lst ((as.eraseIdx j).map V.ref)) p1 = some (.lst (((pk :: ps).map V.ref).take 1)) := hl_set nl1.symm e1X
              have hz6 : Rws (upd H5 l (.lst ((as.eraseIdx j).map V.ref))) zs (B.map (·.2)) := ⟨hz4.1, fun i v e => by
                obtain ⟨r, er, g, e2, hg⟩ := hz4.2 i v e
                exact ⟨r, er, g, e2, hl_set (fun z => by rw [z, h4l] at hg; cases hg) (sX _ _ hg)⟩⟩
              have h6l : upd H5 l (.lst ((as.eraseIdx j).map V.ref)) l = some (.lst ((as.eraseIdx j).map V.ref)) := upd_same
              generalize upd H5 l (.lst ((as.eraseIdx j).map V.ref)) = H6 at *
              clear hf5 h5l hf4 h4l h4d hz4 e1X eD2
              have rpk := rowf pk mpk
              have hv := rpk.at p0 c
              have hix := ixf pk mpk
              have h6pk := hf6 pk mpk
              walk_at "st"
              refine ⟨vec (f pk) c, b, rfl, hb, by omega, fun k H7 sm7 hk ek => ?_⟩
              have h7pk := sm7 _ _ h6pk
              walk_at "st"
              refine ⟨pk, f pk, k, b, rfl, .inr h7pk, by rw [rpk.len]; omega, hp, rpk.num, fun u H8 sm8 nu eu => ?_⟩
              have s68 := sm7.trans sm8
              have st1 := cs.pick hp.1 cw pm (k := k) (by rw [Int.mul_comm]; exact ek)
              have eu : H8 u = some (.tup ((timesL b (f pk) k).map .int)) := eu
              have rtb : Row b w (timesL b (f pk) k) := rpk.times p0
              generalize timesL b (f pk) k = tb at *
              have s8 : Same H H8 := s6.trans s68
              have h8d := s68 _ _ h6d
              have h8l := s68 _ _ h6l
              have hf8 := hf6.same s68
              have hz8 := hz6.same s68
              clear h6d h6l hf6 hz6 h6pk h7pk sm7 sm8 s68 hix h61
              have lz : zs.length ≤ 400 := by rw [hz8.1, List.length_map]; omega
              have together : ∀ (r : List Int), Row b w r → addL b r (timesL b tb (b - vec r c)) = colL b r tb c := fun _ _ => rfl
              walk_at "st"
              intro D3 hD3
              refine lc_map (walk_list (xs := zs)) (by omega) hD3 (fun i y H' => ∃ x, B[i]? = some x ∧ RowV H' y (colL b x.2 tb c)) (fun _ _ _ _ h k => h.imp fun _ z => ⟨z.1, z.2.same k⟩) (fun i v H' acc acc' h eD => ?_) (fun H' k => SqL.of (k _ _ h8d)) (fun i H1 x H2 y => by rw [y.1]; exact Same.refl _)
                (fun i x H9 H10 Y No hj sm9 y hY => ?_) (fun ys H9 el sm9 eD3 hys => ?_)
              · obtain ⟨x, ex, g, rfl, hg⟩ := h
                exact ⟨x, ex, g, rfl, hl_set (fun z => by rw [z, eD] at hg; cases hg) hg⟩
              · obtain ⟨rfl, exx⟩ := y
                obtain ⟨r, er, pr⟩ := hz8.2 i _ exx
                obtain ⟨g, rfl, hg⟩ := pr.same sm9
                rw [List.getElem?_map] at er
                cases eB : B[i]? with
                | none => rw [eB] at er; cases er
                | some x =>
                  rw [eB] at er
                  obtain rfl : x.2 = r := Option.some.inj er
                  have rx := cs.red.row x (List.mem_of_getElem? eB)
                  have hix2 : atI (x.2.map V.int) (0 + (c : Int)) = some (.int (vec x.2 c)) := by rw [Int.zero_add]; exact atI_vec (by rw [rx.len]; exact cw)
                  have eu9 := sm9 _ _ eu
                  refine ⟨rfl, ?_⟩
                  walk_at "st"
                  refine ⟨u, tb, b - vec x.2 c, b, rfl, .inl eu9, by rw [rtb.len]; omega, hp, rtb.num, fun v H11 sm11 nv ev => ?_⟩
                  have hg11 := sm11 _ _ hg
                  walk_at "st"
                  refine ⟨g, v, x.2, _, b, rfl, .inl hg11, ev, by rw [rx.len]; omega, hp, fun r2 H12 sm12 n2 e2 => ?_⟩
                  exact hY _ _ (sm11.trans sm12) ⟨x, eB, r2, rfl, e2⟩
              · have hzz : Rws H9 ys ((B.map fun x => (x.1, colL b x.2 tb c)).map (·.2)) := ⟨by rw [el, hz8.1, List.length_map, List.length_map, List.length_map], fun i v e => by
                  obtain ⟨x, e1, e2⟩ := hys i v e
                  exact ⟨colL b x.2 tb c, by rw [List.getElem?_map, List.getElem?_map, e1]; rfl, e2⟩⟩
                have eu9 := sm9 _ _ eu
                have h9l := sm9 _ _ h8l
                have hf9 := hf8.same sm9
                have s9 : Same H H9 := s8.trans sm9
                clear h8l hf8 hz8 h8d
                walk_at "st"
                intro l4 hl4
                walk_at "st"
                have z1 : ys.length + 1 ≤ sizeLine := by rw [el]; exact Nat.le_trans (show zs.length + 1 ≤ 1001 by omega) (by decide)
                refine r_cat (hl_new eD3 hl4) upd_same z1 fun l5 hl5 => ?_
                have sY : Same H9 (upd (upd H9 l4 (.lst [.ref u])) l5 (.lst (ys ++ [.ref u]))) := by walk_at "sm"
                have e5 : upd (upd H9 l4 (.lst [.ref u])) l5 (.lst (ys ++ [.ref u])) l5 = some (.lst (ys ++ [.ref u])) := upd_same
                have hz10 := hzz.same sY
                have eu10 := sY _ _ eu9
                have h10l := sY _ _ h9l
                have hf10 := hf9.same sY
                have s10 := s9.trans sY
                generalize upd (upd H9 l4 (.lst [.ref u])) l5 (.lst (ys ++ [.ref u])) = H10 at *
                clear h9l hf9 eu9 sY hzz
                have le : (as.eraseIdx j).length ≤ 1000 := Nat.le_trans (List.length_eraseIdx_le as j) la
                have sub : ∀ a ∈ as.eraseIdx j, a ∈ as := fun a m => List.mem_of_mem_eraseIdx m
                generalize as.eraseIdx j = es at *
                walk_at "st"
                intro D4 hD4
                refine lc_by (walk_list (xs := es.map V.ref)) (fun i H' => Same H10 H' ∧ ∃ (ns : List Addr) (g : Addr → List Int), H' D4 = some (.lst (ns.map V.ref)) ∧ ns.length = i ∧ D4 ∉ ns ∧ Lf H' ns g ∧ ns.map g = ((es.map f).take i).map fun r => colL b r tb c)
                  ⟨Same.upd_new hD4, [], fun _ => [], upd_same, rfl, by simp, fun a m => (by cases m), rfl⟩ (fun i H' _ p => SqL.of (p.1 _ _ h10l)) (fun i x H11 H12 hi p y => ?_) (fun H11 p => ?_)
                · obtain ⟨sm11, ns, g, eD, eln, nD, hg, em2⟩ := p
                  obtain ⟨rfl, exx⟩ := y
                  rw [List.getElem?_map] at exx
                  cases ea : es[i]? with
                  | none => rw [ea] at exx; cases exx
                  | some a1 =>
                    rw [ea] at exx
                    obtain rfl : V.ref a1 = x := Option.some.inj exx
                    have ma := sub a1 (List.mem_of_getElem? ea)
                    have hix := ixf a1 ma
                    have ra := rowf a1 ma
                    have h11 := sm11 _ _ (hf10 a1 ma)
                    have eu11 := sm11 _ _ eu10
                    refine ⟨rfl, ?_⟩
                    walk_at "st"
                    refine ⟨u, tb, b - vec (f a1) c, b, rfl, .inl eu11, by rw [rtb.len]; omega, hp, rtb.num, fun v H13 sm13 nv ev => ?_⟩
                    have hg13 := sm13 _ _ h11
                    walk_at "st"
                    refine ⟨a1, v, f a1, _, b, rfl, .inr hg13, ev, by rw [ra.len]; omega, hp, fun r2 H14 sm14 n2 e2 => ?_⟩
                    walk_at "st"
                    intro l6 hl6
                    have e2 : H14 r2 = some (.tup ((colL b (f a1) tb c).map .int)) := e2
                    have sm24 := sm13.trans sm14
                    have eD14 := sm24 _ _ eD
                    have hg14 := hg.same sm24
                    have nl : l6 ≠ D4 := fun z => by rw [z, eD14] at hl6; cases hl6
                    have nns : l6 ∉ ns := fun m => by rw [hg14 l6 m] at hl6; cases hl6
                    refine ⟨_, hl_new eD14 hl6, ?_, fun o u e => hl_set (ne_of_none e hD4) (hl_new (sm24 _ _ (sm11 _ _ e)) hl6), ns ++ [l6], fun a => if a = l6 then colL b (f a1) tb c else g a, ?_, by simp [eln], ?_, fun a m => ?_, ?_⟩
                    · rw [List.length_map, eln]; exact Nat.lt_of_lt_of_le hi (by rw [List.length_map]; exact Nat.le_trans le (by decide))
                    · rw [upd_same, List.map_append]; rfl
                    · intro m
                      rcases List.mem_append.mp m with m | m
                      · exact nD m
                      · exact nl (List.mem_singleton.mp m).symm
                    · rcases List.mem_append.mp m with m | m
                      · have n1 : a ≠ l6 := fun z => nns (z ▸ m)
                        have n2 : a ≠ D4 := fun z => nD (z ▸ m)
                        show _ = some (HO.lst ((if a = l6 then colL b (f a1) tb c else g a).map V.int))
                        rw [if_neg n1]
                        exact hl_set n2 (hl_new (hg14 a m) hl6)
                      · rw [List.mem_singleton.mp m]
                        show _ = some (HO.lst ((if l6 = l6 then colL b (f a1) tb c else g l6).map V.int))
                        rw [if_pos rfl]
                        exact hl_set nl upd_same
                    · rw [List.map_append, List.take_succ, List.map_append, ← em2, List.getElem?_map, ea]
                      congr 1
                      · refine List.map_congr_left fun a m => ?_
                        have n1 : a ≠ l6 := fun z => nns (z ▸ m)
                        show (if a = l6 then _ else g a) = g a
                        rw [if_neg n1]
                      · show [if l6 = l6 then _ else g l6] = _
                        rw [if_pos rfl]; rfl
                · obtain ⟨sm11, ns, g, eD, eln, nD, hg, em2⟩ := p
                  rw [List.take_of_length_le (by rw [List.length_map, List.length_map]; exact Nat.le_refl _)] at em2
                  walk_at "st"
                  have n45 : D4 ≠ l5 := fun z => by rw [z, e5] at hD4; cases hD4
                  have eu11 := sm11 _ _ eu10
                  refine ⟨D4, l5, _, _, _, _, rfl, s10.trans sm11, s10.free hD4, n45, ns, g, _, _, eD, hg, sm11 _ _ e5, ?_, by rw [eln, List.length_map]; exact le, ?_, by rw [em2]; exact st1⟩
                  · rw [List.map_append]
                    have hz11 := hz10.same sm11
                    refine ⟨by simp [hz11.1], fun i v e => ?_⟩
                    by_cases lt : i < ys.length
                    · rw [List.getElem?_append_left lt] at e
                      rw [List.getElem?_append_left (by rw [← hz11.1]; exact lt)]
                      exact hz11.2 i v e
                    · rw [List.getElem?_append_right (by omega)] at e
                      rw [List.getElem?_append_right (by rw [← hz11.1]; omega), ← hz11.1]
                      cases hk : i - ys.length with
                      | zero => rw [hk] at e; exact ⟨tb, rfl, u, (Option.some.inj (show some (V.ref u) = some v from e)).symm, eu11⟩
                      | succ k => rw [hk] at e; simp at e
                  · simp; omega
          · cases ps with
            | cons a ps => cases h1
            | nil =>
              walk_at "st"
              have zz : ∀ r ∈ as.map f, vec r c = 0 := fun r m => by
                obtain ⟨a, ma, rfl⟩ := List.mem_map.mp m
                obtain ⟨i, ei⟩ := List.getElem?_of_mem ma
                by_cases g : vec (f a) c = 0
                · exact g
                · exact absurd rfl (ex i a (by rw [List.length_map]; exact (List.getElem?_eq_some_iff.mp ei).1) ei g)
              exact ⟨l, d, _, _, _, _, rfl, sm04.trans sX, hl0, nld, as, f, zs, B, sX _ _ h4l, hf4.same sX, sX _ _ h4d, hz4.same sX, la, by omega, cs.skip zz⟩
      · obtain ⟨l, d, x4, x6, x7, x8, rfl, sm2, hl0, nld, as, f, zs, B, el2, hf2, ed2, hz2, la, lB, cs⟩ := p2
        have lz : zs.length ≤ 400 := by rw [hz2.1, List.length_map]; omega
        have ew : (w : Int).toNat = w := by omega
        rw [ew] at cs
        walk_at "st"
        intro D2 hD2
        refine lc_map (walk_list (xs := zs)) (by omega) hD2 (fun i y H' => ∃ r, (B.map (·.2))[i]? = some r ∧ RowV H' y r) (fun _ _ _ _ h k => h.imp fun _ z => ⟨z.1, z.2.same k⟩) (fun i v H' acc acc' h eD => ?_) (fun H' k => SqL.of (k _ _ ed2)) (fun i H1 x H2 y => by rw [y.1]; exact Same.refl _)
          (fun j x H4 H5 Y No hj sm4 y hY => ?_) (fun ys H' el sm4 eD2 hys => ?_)
        · obtain ⟨x, ex, c, rfl, hc⟩ := h
          exact ⟨x, ex, c, rfl, hl_set (fun z => by rw [z, eD] at hc; cases hc) hc⟩
        · obtain ⟨rfl, ex⟩ := y
          obtain ⟨r, er, pr⟩ := hz2.2 j _ ex
          obtain ⟨g, rfl, hg⟩ := pr.same sm4
          refine ⟨rfl, ?_⟩
          walk_at "st"
          exact hY _ _ (Same.refl _) ⟨r, er, g, rfl, hg⟩
        · walk_at "st"
          intro c hc
          have s9 : Same H H' := sm2.trans sm4
          have s10 : Same H (upd H' c (.tup ys)) := s9.trans (Same.upd_new hc)
          have hzz : Rws H' ys (B.map (·.2)) := ⟨by rw [el, hz2.1], hys⟩
          exact q c ys B _ s10 (s9.free hc) upd_same (hzz.same (Same.upd_new hc)) ⟨cs.red, cs.rise, cs.done⟩
end
/-! ### a tuple taken several times, once among them -/
theorem tuple_mul1 (l : Addr) (items : Array Value) (n : Nat) (dd : Option Addr) (sl : Array (Option Value)) (u : Tok) :
    Meets (Builtin.«tuple.__mul__» ⟨[.ref l, .int 1 u], []⟩) (fun _ R s => s.heap.get? l = some { cls := .type "tuple", dict := dd, data := .seq items n, slots := sl } ∧ R (.ok (.ret (Value.ref l))) s) :=
  .of_wp fun prog w A R s h => by
    obtain ⟨hp, g, d, tk, os⟩ := s
    obtain ⟨hl, h⟩ := h
    have f1 := AutoSeq1.idx_int
    have c1 : (items.isEmpty || (1 : Int) == 1) = true := by simp
    wp_walk using wpAny_loadPart' hl
    repeat (first
      | (refine wpAny_ite_false (decide_eq_false (by decide)) ?_; wp_walk using wpAny_loadPart' hl)
      | (refine wpAny_ite_true (decide_eq_true c1) ?_; wp_walk using wpAny_loadPart' hl))
    exact ⟨_, rfl, h⟩
def rRepX (K : PySem.W.Frag) : R2 := fun x y H Q => ∃ a k xs, x = .ref a ∧ y = .int k ∧ SqT K H a xs ∧ xs ≠ [] ∧ (1 ≤ k ∧ k ≤ 1000) ∧ xs.length ≤ 1000 ∧
  (k = 1 → Q (.ref a) H) ∧ ∀ p, H p = none → Q (.ref p) (upd H p (.tup (List.replicate k.toNat xs).flatten))
theorem op_repX {X : Cx} : OpR X (binaryOp .Mult) (rRepX X.K) := by
  intro pins s σ H x y v u Q I rx ry h
  obtain ⟨a, k, xs, rfl, rfl, hT, hne, hk, hz, q1, q2⟩ := h
  by_cases c : k = 1
  · subst c
    cases rx; obtain ⟨t, rfl⟩ := ry
    obtain ⟨its, r, ⟨⟨cl, dd, da, sl⟩, ho, hc, n, hd⟩, hs⟩ := I.tuple hT
    obtain rfl : cl = .type "tuple" := hc
    obtain rfl : da = .seq its.toArray n := hd
    have fin : ∃ x H', Inv X pins σ H' s ∧ RelV x (.ref a) ∧ Q x H' := ⟨.ref a, H, I, rfl, q1 rfl⟩
    have once := tuple_mul1 a its.toArray n dd sl t
    have back := int_rmul_tuple 1 t a its.toArray n dd sl
    refine wpAny_binaryOp_repeat_ref (U := "int") (hTU := by decide) (ha := ⟨_, ho, rfl⟩) (hn := fun w => typeIs_int w 1 t) (hfT := noFill_tuple_mul) (hfU := F.fills_int_mul)
      (hr := F.slot_int_rmul) (hrep := repeat_tuple) (hix := F.slot_int_index.lookup) ?_
    refine call_meets F.slot_int_rmul (hT := typeIs_int s 1 t) F.entry_int_rmul (args := F.args_int_rmul_2 _ _) (g := back) ⟨ho, rfl, ⟨_, ho, rfl⟩, ?_⟩
    exact call_meets (self := .ref a) F.slot_tuple_mul (hT := ⟨_, ho, rfl⟩) F.entry_tuple_mul (args := F.args_tuple_mul_2 _ _) (g := once) ⟨ho, fin⟩
  · exact op_repT pins s σ H _ _ v u Q I rx ry ⟨a, k, xs, rfl, rfl, hT, hne, by omega, hk.2, hz, q2⟩
theorem op_repXK {X : Cx} {K : PySem.W.Frag} (q : X.K = K := by rfl) : OpR X (binaryOp .Mult) (rRepX K) := q ▸ op_repX
theorem rep_one (v : V) : ∀ n : Nat, (List.replicate n [v]).flatten = List.replicate n v
  | 0 => rfl
  | n + 1 => by rw [List.replicate_succ, List.flatten_cons, rep_one v n]; rfl
theorem r_rep0 {K : PySem.W.Frag} {a : Addr} {w : Nat} {H : Hp} {Q : VK} (h : H a = some (.tup [.int 0])) (hw : 1 ≤ w ∧ w ≤ 1000) (q : ∀ p H', Same H H' → H' p = some (.tup ((List.replicate w (0 : Int)).map .int)) → Q (.ref p) H') : rRepX K (.ref a) (.int (w : Int)) H Q :=
  ⟨a, w, [.int 0], rfl, rfl, SqT.of h, by simp, by omega, by simp, fun e => q a H (Same.refl _) (by
    obtain rfl : w = 1 := by omega
    exact h), fun p hp => q p _ (Same.upd_new hp) (by rw [upd_same, Int.toNat_natCast, rep_one, List.map_replicate])⟩
local macro_rules | `(tactic| walk_at "st1") => `(tactic| first
  | with_reducible refine r_par ?_
  | with_reducible refine r_parx ?_
  | ((with_reducible refine' r_gtup ?e1 ?e2 ?_); (case e1 => walk_at "sq"); (case e2 => rfl))
  | with_reducible refine r_gcons ?_
  | with_reducible refine r_gnil ?_
  | with_reducible refine r_ient ?_
  | ((with_reducible refine' r_ent ?e1 ?_); (case e1 => walk_at "sq")))
local macro_rules | `(tactic| walk_at "st1") => `(tactic| first
  | with_reducible refine r_izx ?_
  | with_reducible refine r_isq ?_
  | ((with_reducible refine' r_zxt ?e1 ?e2 ?_); (case e1 => walk_at "sq"); (case e2 => walk_at "sq"))
  | ((with_reducible refine' r_zxm ?e1 ?e2 ?_); (case e1 => walk_at "sq"); (case e2 => walk_at "sq"))
  | ((with_reducible refine' r_sqt ?e1 ?_); (case e1 => walk_at "sq"))
  | ((with_reducible refine' r_sql ?e1 ?_); (case e1 => walk_at "sq")))
/-! ### dicts with rows for their keys; all rows that follow from some -/
def rListT : List V → Hp → VK → Prop := fun xs H Q => ∃ (d : Addr) (kvs : List (List Key × V)), xs = [V.ref d] ∧ Rd H d (.dT kvs) ∧ ∀ p bs, H p = none → IsKeys H kvs bs → Q (.ref p) (upd H p (.lst (bs.map V.ref)))
theorem cr_listT {X : Cx} (hc : X.calm = true) : CallR X (.type "list") rListT := call_list_dT hc
def keyR (r : List Int) : List Key := r.map Sum.inl
theorem keyR_kV (r : List Int) : (keyR r).map kV = r.map V.int := by
  unfold keyR
  rw [List.map_map]; rfl
theorem keyR_inj {r q : List Int} (h : keyR r = keyR q) : r = q := by
  unfold keyR at h
  exact List.map_inj_right (fun _ _ e => Sum.inl.inj e) |>.mp h
def KD (rows : List (List Int)) : List (List Key × V) := rows.map fun r => (keyR r, V.bl true)
def insR (rows : List (List Int)) (r : List Int) : List (List Int) := if r ∈ rows then rows else rows ++ [r]
theorem KD_any (rows : List (List Int)) (r : List Int) : ((KD rows).any fun kv => decide (kv.1 = keyR r)) = decide (r ∈ rows) := by
  induction rows with
  | nil => rfl
  | cons q rows ih =>
    show (decide (keyR q = keyR r) || (KD rows).any _) = _
    rw [ih]
    by_cases h : q = r
    · subst h; simp
    · rw [decide_eq_false fun e => h (keyR_inj e), Bool.false_or]
      simp [Ne.symm h]
theorem KD_put (rows : List (List Int)) (r : List Int) : putK (KD rows) (keyR r) (.bl true) = KD (insR rows r) := by
  unfold putK insR
  rw [KD_any]
  by_cases h : r ∈ rows
  · rw [if_pos (decide_eq_true h), if_pos h]
    unfold KD
    rw [List.map_map]
    refine List.map_congr_left fun q _ => ?_
    show (if keyR q = keyR r then (keyR q, V.bl true) else (keyR q, V.bl true)) = _
    split <;> rfl
  · rw [if_neg (by simpa using h), if_neg h]
    unfold KD
    rw [List.map_append]; rfl
theorem KD_val (rows : List (List Int)) (r : List Int) : (valV (KD rows) (keyR r)).isSome = decide (r ∈ rows) := by
  induction rows with
  | nil => rfl
  | cons q rows ih =>
    by_cases h : q = r
    · subst h
      rw [show KD (q :: rows) = (keyR q, V.bl true) :: KD rows from rfl, valV_pos (show (keyR q, V.bl true).1 = keyR q from rfl)]
      simp
    · rw [show KD (q :: rows) = (keyR q, V.bl true) :: KD rows from rfl, valV_neg (show ¬ (keyR q, V.bl true).1 = keyR r from fun e => h (keyR_inj e)), ih]
      simp [Ne.symm h]
theorem mem_ins {rows : List (List Int)} {r q : List Int} : q ∈ insR rows r ↔ q ∈ rows ∨ q = r := by
  unfold insR
  split
  · rename_i h
    exact ⟨.inl, fun z => z.elim id fun e => e ▸ h⟩
  · rw [List.mem_append, List.mem_singleton]
theorem ins_nodup {rows : List (List Int)} (r : List Int) (h : rows.Nodup) : (insR rows r).Nodup := by
  unfold insR
  split
  · exact h
  · rename_i n
    refine List.nodup_append.mpr ⟨h, List.pairwise_singleton _ r, fun a ha b hb e => n ?_⟩
    rw [List.mem_singleton.mp hb] at e
    exact e ▸ ha
theorem ins_len (rows : List (List Int)) (r : List Int) : (insR rows r).length ≤ rows.length + 1 := by
  unfold insR
  split
  · omega
  · rw [List.length_append]; exact Nat.le_refl _
structure AllOf (p : Int) (w : Nat) (L : List Vec) (all : List (List Int)) : Prop where
  nd : all.Nodup
  row : ∀ r ∈ all, Row p w r
  mem : ∀ r, Row p w r → (r ∈ all ↔ Sp0 p L (vec r))
section
variable {p : Int} {w : Nat}
theorem zero_row (hp : 0 < p) : Row p w (List.replicate w 0) := ⟨List.length_replicate, fun x m => by rw [(List.mem_replicate.mp m).2]; omega⟩
theorem AllOf.start (hp : 0 < p) : AllOf p w [] [List.replicate w 0] := ⟨List.pairwise_singleton _ _, fun r m => by rw [List.mem_singleton.mp m]; exact zero_row hp, fun r hr => by
  rw [List.mem_singleton]
  constructor
  · rintro rfl
    exact .zero fun i => by
      have : vec (List.replicate w (0 : Int)) i = 0 := by
        unfold vec
        by_cases h : i < w
        · simp [List.getD_eq_getElem?_getD, h]
        · simp [List.getD_eq_getElem?_getD, h]
      rw [this]; show p ∣ 0 - 0; exact Int.dvd_zero p
  · intro k
    refine hr.ext (zero_row hp) hp fun i => ?_
    have h1 := nil_span k i
    have : vec (List.replicate w (0 : Int)) i = 0 := by
      unfold vec
      by_cases h : i < w
      · simp [List.getD_eq_getElem?_getD, h]
      · simp [List.getD_eq_getElem?_getD, h]
    rw [this, Int.sub_zero]; exact h1⟩
/-- one row more: each of the old ones with each multiple of it -/
theorem AllOf.more (p2 : 2 ≤ p) {L : List Vec} {old new : List (List Int)} {l : List Int} (h : AllOf p w L old) (hl : Row p w l) (nd : new.Nodup)
    (hn : ∀ r, r ∈ new ↔ r ∈ old ∨ ∃ t ∈ old, ∃ n : Int, (1 ≤ n ∧ n < p) ∧ r = addL p t (timesL p l n)) : AllOf p w (L ++ [vec l]) new := by
  have hp : 0 < p := by omega
  have row : ∀ r ∈ new, Row p w r := fun r m => by
    rcases (hn r).mp m with m | ⟨t, mt, n, _, rfl⟩
    · exact h.row r m
    · exact (h.row t mt).add (hl.times hp) hp
  refine ⟨nd, row, fun r hr => ?_⟩
  constructor
  · intro m
    rcases (hn r).mp m with m | ⟨t, mt, n, _, rfl⟩
    · exact Sp0.perm (fun _ m => List.mem_append_left _ m) ((h.mem r hr).mp m)
    · have ht := h.row t mt
      have k := Sp0.perm (M := L ++ [vec l]) (fun _ m => List.mem_append_left _ m) ((h.mem t ht).mp mt)
      exact .add (c := n) (List.mem_append_right _ (List.mem_singleton.mpr rfl)) k (mix_cg ht hl hp)
  · intro k
    obtain ⟨u, c, ku, cg⟩ : ∃ (u : Vec) (c : Int), Sp0 p L u ∧ Cg p (vec r) (fun i => u i + c * vec l i) := by
      clear hn nd row
      generalize vec r = v at k
      induction k with
      | @zero v e => exact ⟨fun _ => 0, 0, Sp0.nought, e.trans fun i => by show p ∣ 0 - (0 + 0 * vec l i); rw [Int.zero_mul]; exact Int.dvd_zero p⟩
      | @add u v q d m _ e ih =>
        obtain ⟨u2, c, ku, cg⟩ := ih
        have e2 : Cg p v (fun i => u2 i + c * vec l i + d * q i) := e.trans fun i => by
          have := cg i
          show p ∣ u i + d * q i - (u2 i + c * vec l i + d * q i)
          rwa [show u i + d * q i - (u2 i + c * vec l i + d * q i) = u i - (u2 i + c * vec l i) by omega]
        rcases List.mem_append.mp m with m | m
        · exact ⟨fun i => u2 i + d * q i, c, ku.plus (.of m) d, e2.trans fun i => by
            show p ∣ u2 i + c * vec l i + d * q i - (u2 i + d * q i + c * vec l i)
            rw [show u2 i + c * vec l i + d * q i - (u2 i + d * q i + c * vec l i) = 0 by omega]; exact Int.dvd_zero p⟩
        · rw [List.mem_singleton.mp m] at e2
          exact ⟨u2, c + d, ku, e2.trans fun i => by
            show p ∣ u2 i + c * vec l i + d * vec l i - (u2 i + (c + d) * vec l i)
            rw [show u2 i + c * vec l i + d * vec l i - (u2 i + (c + d) * vec l i) = 0 by rw [Int.add_mul]; omega]; exact Int.dvd_zero p⟩
    -- the old row is r less c times l
    have ht : Row p w (addL p r (timesL p l (-c % p))) := hr.add (hl.times hp) hp
    have c1 : Cg p (vec (addL p r (timesL p l (-c % p)))) u := (mix_cg hr hl hp).trans fun i => by
      have := cg i
      obtain ⟨a, ea⟩ := this
      obtain ⟨b, eb⟩ := emod_dvd (-c) p
      refine ⟨a + b * vec l i, ?_⟩
      have ea : vec r i - (u i + c * vec l i) = p * a := ea
      show vec r i + -c % p * vec l i - u i = p * (a + b * vec l i)
      rw [Int.mul_add, ← ea, ← Int.mul_assoc, ← eb, Int.sub_mul, Int.neg_mul]; omega
    have mt : addL p r (timesL p l (-c % p)) ∈ old := (h.mem _ ht).mpr (ku.cg c1)
    have c2 : 0 ≤ c % p ∧ c % p < p := ⟨Int.emod_nonneg _ (by omega), Int.emod_lt_of_pos _ hp⟩
    have back : Cg p (vec r) (fun i => vec (addL p r (timesL p l (-c % p))) i + c % p * vec l i) := cg.trans fun i => by
      obtain ⟨a, ea⟩ := c1 i
      obtain ⟨b, eb⟩ := emod_dvd c p
      refine ⟨-a - b * vec l i, ?_⟩
      show u i + c * vec l i - (vec (addL p r (timesL p l (-c % p))) i + c % p * vec l i) = _
      rw [Int.mul_sub, Int.mul_neg, ← ea, ← Int.mul_assoc, ← eb, Int.sub_mul]; omega
    refine (hn r).mpr ?_
    by_cases z : c % p = 0
    · refine .inl ?_
      rw [z] at back
      have e : r = addL p r (timesL p l (-c % p)) := hr.ext ht hp (back.trans fun i => by
        show p ∣ _ + 0 * _ - _
        rw [Int.zero_mul, Int.add_zero, Int.sub_self]; exact Int.dvd_zero p)
      rw [e]; exact mt
    · exact .inr ⟨_, mt, c % p, by omega, hr.ext (ht.add (hl.times hp) hp) hp (back.trans (mix_cg ht hl hp).symm)⟩
end
def sp_law_all (_ : PySem.W.Frag) : Sp := fun vs H Q _ => ∃ (a : Addr) (w : Nat) (b : Int) (us : List V) (rows : List (List Int)), vs = [.ref a, .int w, .int b] ∧ H a = some (.tup us) ∧ Rws H us rows ∧ b ∈ primes5 ∧ (1 ≤ w ∧ w ≤ 400) ∧ b.toNat ^ rows.length ≤ 400 ∧ (∀ r ∈ rows, Row b w r) ∧
  ∀ (d : Addr) (all : List (List Int)) (H' : Hp), Same H H' → H d = none → H' d = some (.dT (KD all)) → AllOf b w (rows.map vec) all → all.length ≤ 400 → Q (.ref d) H'
theorem Paired.at {α β : Type} {F : α → β → Prop} : ∀ {l : List α} {m : List β} {i : Nat} {y : β}, Paired F l m → m[i]? = some y → ∃ x, l[i]? = some x ∧ F x y
  | _, _, _, _, .nil, e => by simp at e
  | _, _, 0, _, .cons h _, e => by simp at e; subst e; exact ⟨_, rfl, h⟩
  | _, _, i + 1, y, .cons _ t, e => by
    obtain ⟨x, h1, h2⟩ := Paired.at (i := i) (y := y) t (by simpa using e)
    exact ⟨x, by simpa using h1, h2⟩
theorem r_p1 {tk tv : TE} {σ : L2.St} {H : Hp} {Q : List (V × V) → Hp → Prop} (h : tk σ H fun x H1 => tv σ H1 fun y H2 => Q [(x, y)] H2) : tPairs [(tk, tv)] σ H Q := h
theorem r_setT {d c : Addr} {rows : List (List Int)} {r : List Int} {H : Hp} {N : Hp → Prop} (e : H d = some (.dT (KD rows))) (ec : H c = some (.tup (r.map V.int))) (l : rows.length ≤ 1000) (q : N (upd H d (.dT (KD (insR rows r))))) : rSetD (.ref d) (.ref c) (.bl true) H N :=
  ⟨d, _, rfl, DPut.t (k := keyR r) e (by rw [keyR_kV]; exact ec) (by unfold KD; rw [List.length_map]; exact Nat.lt_of_le_of_lt l (by decide)), by rw [KD_put]; exact q⟩
section
variable {P : Program} {w : World} {K : PySem.W.Frag} {mg : Str → Option Value} {base : Heap}
theorem ok_law_all (T : Tx K mg) {f_law_together : Addr} {fd_law_together : FuncData} (C_law_together : Cal P w K mg base "_law_together" 1 ["line", "two", "base"] (sp_law_together K) s_law_together f_law_together fd_law_together) {f_law_times : Addr} {fd_law_times : FuncData} (C_law_times : Cal P w K mg base "_law_times" 1 ["line", "n", "base"] (sp_law_times K) s_law_times f_law_times fd_law_times) {f : Addr} {fd : FuncData} (F : Here K mg "_law_all" s_law_all ["lot", "wideness", "base"] f fd) : Cal P w K mg base "_law_all" 2 ["lot", "wideness", "base"] (sp_law_all K) s_law_all f fd := by
  refine F.cal sc_law_all (fun vs H Q E h => ?_) (fun cdv A outer s H vs Q E hr h => ?_)
  · obtain ⟨a, w, b, us, rows, rfl, _⟩ := h
    rfl
  · obtain ⟨a, w, b, us, rows, rfl, ha, hR, hb, hw, few, rr, q⟩ := h
    have hp := prime5_le hb
    have p0 : 0 < b := by omega
    refine ⟨_, (pss_cons (ps_set (i := 3) sc_law_all.nd rfl (by first | exact .inl rfl | exact .inr rfl) (pe_dispT (hu_of hr) (pe_op (op_repXK (K := K)) (pe_tup (pa_cons pe_int pa_nil)) (pv 1)) pe_bl))
      (pss_cons (ps_for PassesOwn.never rfl (pi_tupK (K := K) (pv 0)) (pg_name (i := 4) sc_law_all.nd rfl (by first | exact .inl rfl | exact .inr rfl)) (pss_one (ps_for PassesOwn.never rfl (pi_listK (K := K) (pe_callTy (cr_listT rfl) (by rfl) T.m_list (by decide +kernel) (pa_cons (pv 3) pa_nil))) (pg_name (i := 5) sc_law_all.nd rfl (by first | exact .inl rfl | exact .inr rfl)) (pss_one (ps_for PassesOwn.never rfl (pi_range2 (by rfl) T.m_range (pa_cons pe_int (pa_cons (pv 2) pa_nil))) (pg_name (i := 6) sc_law_all.nd rfl (by first | exact .inl rfl | exact .inr rfl)) (pss_one (ps_asg pe_bl (pg_sub (pv 3) (pe_call C_law_together.ok (hr.mono (by decide)) (by rfl) C_law_together.at_ C_law_together.kp C_law_together.b .nil pass0 (pa_cons (pv 5) (pa_cons (pe_call C_law_times.ok (hr.mono (by decide)) (by rfl) C_law_times.at_ C_law_times.kp C_law_times.b .nil pass0 (pa_cons (pv 4) (pa_cons (pv 6) (pa_cons (pv 2) pa_nil)))) (pa_cons (pv 2) pa_nil)))) (set_dict (hu_of hr))))))))))
      (pss_one (ps_ret (pv 3))))), ?_⟩
    walk_at "st"
    refine fun d hd => r_p1 ?_
    have sd : Same H (upd H d (.dT [])) := Same.upd_new hd
    have ed : upd H d (.dT []) d = some (.dT []) := upd_same
    generalize upd H d (.dT []) = H1 at *
    walk_at "st"
    intro pz hpz
    have ez0 : upd H1 pz (.tup [.int 0]) pz = some (.tup [.int 0]) := upd_same
    have sz : Same H1 (upd H1 pz (.tup [.int 0])) := Same.upd_new hpz
    generalize upd H1 pz (.tup [.int 0]) = H2 at *
    walk_at "st"
    refine r_rep0 ez0 (show 1 ≤ w ∧ w ≤ 1000 by omega) fun pw H3 s3 ew => ?_
    walk_at "st"
    refine ⟨pw, keyR (List.replicate w 0), .bl true, rfl, by rw [keyR_kV]; exact ew, s3 _ _ (sz _ _ ed), ?_⟩
    have e4 : upd H3 d (.dT [(keyR (List.replicate w 0), V.bl true)]) d = some (.dT (KD [List.replicate w 0])) := upd_same
    have s4 : Same H (upd H3 d (.dT [(keyR (List.replicate w 0), V.bl true)])) := fun x o e => hl_set (fun z => by rw [z, hd] at e; cases e) (s3 _ _ (sz _ _ (sd _ _ e)))
    generalize upd H3 d (.dT [(keyR (List.replicate w 0), V.bl true)]) = H4 at *
    clear sd ed sz ez0 s3 ew hpz
    walk_at "st"
    refine lp_by (walk_tup (xs := us)) (fun i σ' H' => ∃ x4 x5 x6, σ' = [some (.ref a), some (.int w), some (.int b), some (.ref d), x4, x5, x6] ∧ Same H H' ∧ ∃ all, H' d = some (.dT (KD all)) ∧ AllOf b w ((rows.take i).map vec) all ∧ all.length ≤ b.toNat ^ i) ⟨_, _, _, rfl, s4, _, e4, AllOf.start p0, Nat.le_refl _⟩
      (fun _ _ H' _ g => by obtain ⟨_, _, _, _, g, _⟩ := g; exact SqT.of (g _ _ ha)) (fun i x σ' H5 H5' hi p y => ?_) (fun σ' H5 p => ?_)
    · obtain ⟨x4, x5, x6, rfl, s5, all, ed, AL, lall⟩ := p
      obtain ⟨rfl, ex⟩ := y
      obtain ⟨r, er, pr⟩ := hR.2 i x ex
      obtain ⟨c, rfl, hc⟩ := pr.same s5
      have li : i < rows.length := by rw [← hR.1]; exact hi
      have rrow := rr r (List.mem_of_getElem? er)
      have pw1 : b.toNat ^ (i + 1) ≤ 400 := Nat.le_trans (Nat.pow_le_pow_right (by omega) (by omega)) few
      have pw0 : b.toNat ^ i * b.toNat = b.toNat ^ (i + 1) := (Nat.pow_succ ..).symm
      have bnd : all.length * b.toNat ≤ b.toNat ^ (i + 1) := by rw [← pw0]; exact Nat.mul_le_mul_right _ lall
      walk_at "st"
      refine ⟨d, KD all, rfl, .inl ed, fun l bs hl hk => ?_⟩
      have el : upd H5' l (.lst (bs.map V.ref)) l = some (.lst (bs.map V.ref)) := upd_same
      have s6 : Same H5' (upd H5' l (.lst (bs.map V.ref))) := Same.upd_new hl
      have nld : l ≠ d := fun z => by rw [z, ed] at hl; cases hl
      have keys : ∀ (j : Nat) (g : Addr), bs[j]? = some g → ∃ t, all[j]? = some t ∧ H5' g = some (.tup (t.map V.int)) := fun j g e => by
        obtain ⟨y, ey, hy⟩ := Paired.at hk e
        unfold KD at ey
        rw [List.getElem?_map] at ey
        cases h : all[j]? with
        | none => rw [h] at ey; cases ey
        | some t =>
          rw [h] at ey
          cases ey
          exact ⟨t, rfl, by rw [← keyR_kV]; exact hy⟩
      have lbs : bs.length = all.length := by
        have := Paired.length hk
        rw [← this]; unfold KD; rw [List.length_map]
      generalize upd H5' l (.lst (bs.map V.ref)) = H6 at *
      walk_at "st"
      have cd : c ≠ d := fun z => by rw [z, ed] at hc; cases hc
      refine lp_by (walk_list (a := l) (xs := bs.map V.ref)) (fun j σ' H' => ∃ x5 x6, σ' = [some (.ref a), some (.int w), some (.int b), some (.ref d), some (.ref c), x5, x6] ∧ Same H H' ∧ Kp [d] H6 H' ∧ ∃ cur : List (List Int), H' d = some (.dT (KD cur)) ∧ cur.Nodup ∧ (∀ q, q ∈ cur ↔ q ∈ all ∨ ∃ t ∈ all.take j, ∃ n : Int, (1 ≤ n ∧ n < b) ∧ q = addL b t (timesL b r n)) ∧ cur.length ≤ all.length + j * (b.toNat - 1))
        ⟨_, _, rfl, s5.trans s6, Kp.refl, all, s6 _ _ ed, AL.nd, fun q => by simp, by omega⟩ (fun _ _ H' _ g => by obtain ⟨_, _, _, _, g, _⟩ := g; exact SqL.of (g _ _ el (by simpa using nld))) (fun j x σ' H7 H7' hj p y => ?_) (fun σ' H7 p => ?_)
      · obtain ⟨x5, x6, rfl, s7, k7, cur, ec, nd, mem, lc⟩ := p
        obtain ⟨rfl, ey⟩ := y
        obtain ⟨g, eg, rfl⟩ : ∃ g, bs[j]? = some g ∧ x = V.ref g := by
          rw [List.getElem?_map] at ey
          cases h : bs[j]? with
          | none => rw [h] at ey; cases ey
          | some g => rw [h] at ey; exact ⟨g, rfl, (Option.some.inj ey).symm⟩
        obtain ⟨t, et, hg⟩ := keys j g eg
        have gd : g ≠ d := fun z => by rw [z, ed] at hg; cases hg
        have jl : j < all.length := (List.getElem?_eq_some_iff.mp et).1
        replace hg := k7 _ _ (s6 _ _ hg) (by simpa using gd)
        have hc7 := k7 _ _ (s6 _ _ hc) (by simpa using cd)
        have trow := AL.row t (List.mem_of_getElem? et)
        have bnd2 : cur.length + (b.toNat - 1) ≤ 400 := by
          have h1 : (j + 1) * (b.toNat - 1) ≤ all.length * (b.toNat - 1) := Nat.mul_le_mul_right _ jl
          rw [Nat.add_mul, Nat.one_mul] at h1
          have h2 : all.length * b.toNat = all.length * (b.toNat - 1) + all.length := by
            conv => lhs; rw [show b.toNat = b.toNat - 1 + 1 by omega]
            rw [Nat.mul_add, Nat.mul_one]
          omega
        walk_at "st"
        refine lp_by (walk_range (lo := 1) (n := (b - 1).toNat)) (fun k σ' H' => ∃ x6, σ' = [some (.ref a), some (.int w), some (.int b), some (.ref d), some (.ref c), some (.ref g), x6] ∧ Same H H' ∧ Kp [d] H7' H' ∧ ∃ cur2 : List (List Int), H' d = some (.dT (KD cur2)) ∧ cur2.Nodup ∧ (∀ q, q ∈ cur2 ↔ q ∈ cur ∨ ∃ n : Int, (1 ≤ n ∧ n < 1 + (k : Int)) ∧ q = addL b t (timesL b r n)) ∧ cur2.length ≤ cur.length + k)
          ⟨_, rfl, s7, Kp.refl, cur, ec, nd, fun q => ⟨.inl, fun z => z.elim id fun ⟨n, h, _⟩ => by omega⟩, Nat.le_refl _⟩ (fun _ _ _ _ _ => trivial) (fun k x σ' H8 H8' hk8 p y => ?_) (fun σ' H8 p => ?_)
        · obtain ⟨x6, rfl, s8, k8, cur2, ec2, nd2, mem2, lc2⟩ := p
          obtain ⟨rfl, rfl⟩ := y
          walk_at "st"
          refine ⟨c, r, 1 + (k : Int), b, rfl, .inl (k8 _ _ hc7 (by simpa using cd)), by rw [rrow.len]; omega, hp, rrow.num, fun pt H9 s9 npt ept => ?_⟩
          walk_at "st"
          refine ⟨g, pt, t, timesL b r (1 + (k : Int)), b, rfl, .inl (s9 _ _ (k8 _ _ hg (by simpa using gd))), ept, by rw [trow.len]; omega, hp, fun p2 HA sA np2 ep2 => ?_⟩
          refine r_setT (rows := cur2) (r := addL b t (timesL b r (1 + (k : Int)))) (sA _ _ (s9 _ _ ec2)) ep2 (by omega) ?_
          walk_at "st"
          refine ⟨_, rfl, fun x o e => hl_set (fun z => by rw [z, hd] at e; cases e) (sA _ _ (s9 _ _ (s8 _ _ e))), fun x o e n => hl_set (by simpa using n) (sA _ _ (s9 _ _ (k8 _ _ e n))), _, upd_same, ins_nodup _ nd2, fun q => ?_, by have := ins_len cur2 (addL b t (timesL b r (1 + (k : Int)))); omega⟩
          rw [mem_ins, mem2]
          constructor
          · rintro ((h | ⟨n, h, e⟩) | e)
            · exact .inl h
            · exact .inr ⟨n, by omega, e⟩
            · exact .inr ⟨1 + (k : Int), by omega, e⟩
          · rintro (h | ⟨n, h, e⟩)
            · exact .inl (.inl h)
            · by_cases z : n = 1 + (k : Int)
              · subst z; exact .inr e
              · exact .inl (.inr ⟨n, by omega, e⟩)
        · obtain ⟨x6, rfl, s8, k8, cur2, ec2, nd2, mem2, lc2⟩ := p
          walk_at "st"
          refine ⟨_, _, rfl, s8, k7.trans k8, cur2, ec2, nd2, fun q => ?_, by rw [Nat.add_mul, Nat.one_mul]; omega⟩
          rw [mem2, mem, List.take_succ, et]
          have eb : 1 + (((b - 1).toNat : Nat) : Int) = b := by omega
          rw [eb]
          constructor
          · rintro ((h | ⟨t', mt, z⟩) | h)
            · exact .inl h
            · exact .inr ⟨t', List.mem_append_left _ mt, z⟩
            · exact .inr ⟨t, List.mem_append_right _ (List.mem_singleton.mpr rfl), h⟩
          · rintro (h | ⟨t', mt, z⟩)
            · exact .inl (.inl h)
            · rcases List.mem_append.mp mt with mt | mt
              · exact .inl (.inr ⟨t', mt, z⟩)
              · have e := List.mem_singleton.mp mt
                subst e
                exact .inr z
      · obtain ⟨x5, x6, rfl, s7, k7, cur, ec, nd, mem, lc⟩ := p
        rw [List.length_map, lbs, List.take_length] at mem
        rw [List.length_map, lbs] at lc
        walk_at "st"
        refine ⟨_, _, _, rfl, s7, cur, ec, ?_, ?_⟩
        · rw [List.take_succ, er, List.map_append]
          exact AL.more hp.1 rrow nd mem
        · have h2 : all.length * b.toNat = all.length * (b.toNat - 1) + all.length := by
            conv => lhs; rw [show b.toNat = b.toNat - 1 + 1 by omega]
            rw [Nat.mul_add, Nat.mul_one]
          omega
    · obtain ⟨x4, x5, x6, rfl, s5, all, ed, AL, lall⟩ := p
      rw [List.take_of_length_le (Nat.le_of_eq hR.1.symm)] at AL
      rw [hR.1] at lall
      walk_at "st"
      exact q d all H5 s5 hd ed AL (Nat.le_trans lall few)
end
local macro_rules | `(tactic| walk_at "st1") => `(tactic| first
  | with_reducible refine r_par ?_
  | with_reducible refine r_parx ?_
  | ((with_reducible refine' r_gtup ?e1 ?e2 ?_); (case e1 => walk_at "sq"); (case e2 => rfl))
  | with_reducible refine r_gcons ?_
  | with_reducible refine r_gnil ?_
  | with_reducible refine r_ient ?_
  | ((with_reducible refine' r_ent ?e1 ?_); (case e1 => walk_at "sq")))
local macro_rules | `(tactic| walk_at "st1") => `(tactic| first
  | with_reducible refine r_izx ?_
  | with_reducible refine r_isq ?_
  | ((with_reducible refine' r_zxt ?e1 ?e2 ?_); (case e1 => walk_at "sq"); (case e2 => walk_at "sq"))
  | ((with_reducible refine' r_zxm ?e1 ?e2 ?_); (case e1 => walk_at "sq"); (case e2 => walk_at "sq"))
  | ((with_reducible refine' r_sqt ?e1 ?_); (case e1 => walk_at "sq"))
  | ((with_reducible refine' r_sql ?e1 ?_); (case e1 => walk_at "sq")))
local macro_rules | `(tactic| walk_at "st1") => `(tactic| first
  | with_reducible refine' r_nt ?_
  | with_reducible refine' r_nf ?_
  | with_reducible refine r_un ?_
  | with_reducible refine r_u ?_)
def sp_law_alike (_ : PySem.W.Frag) : Sp := fun vs H Q _ => ∃ (a b : Addr) (us zs : List V) (rows : List (List Int)), vs = [.ref a, .ref b] ∧ H a = some (.tup us) ∧ H b = some (.tup zs) ∧ Rws H us rows ∧ Rws H zs rows ∧ rows.length ≤ 1000 ∧ (∀ r ∈ rows, r.length ≤ 1000) ∧
  ∀ H', Same H H' → Q (.bl true) H'
section
variable {P : Program} {w : World} {K : PySem.W.Frag} {mg : Str → Option Value} {base : Heap}
theorem ok_law_alike (T : Tx K mg)  {f : Addr} {fd : FuncData} (F : Here K mg "_law_alike" s_law_alike ["told", "wanted"] f fd) : Cal P w K mg base "_law_alike" 1 ["told", "wanted"] (sp_law_alike K) s_law_alike f fd := by
  refine F.cal sc_law_alike (fun vs H Q E h => ?_) (fun cdv A outer s H vs Q E hr h => ?_)
  · obtain ⟨a, b, us, zs, rows, rfl, _⟩ := h
    rfl
  · obtain ⟨a, b, us, zs, rows, rfl, ha, hb, ra, rb, hlen, hrow, q⟩ := h
    have lus : us.length ≤ 1000 := by rw [ra.1]; exact hlen
    refine ⟨_, (pss_cons (ps_if (PW.pt (pw_or (pt_not (pt_val (pe_callB (cr_isiK (K := K)) (by rfl) T.m_isinstance (by decide +kernel) (pa_cons (pv 0) (pa_cons (pe_bltn (v := .ty "tuple") (by rfl) T.m_tuple (by decide +kernel) rfl) pa_nil))))) (pw_or1 (pt_cmpR (op_neDK (K := K) (hu_of64 hr)) (pv 0) (pv 1) (nomark _))))) (pss_one (ps_ret pe_bl)) pss_nil)
      (pss_cons (ps_if (pt_cmpR (op_neNilK (K := K) (hu_of64 hr)) (pe_lc rfl sc_law_alike.nd (pi_tupK (K := K) (pv 0)) (blkOk_by (own := [("line", 2)]) (N := ["told", "wanted", "line", "number"]) (sc := (defScope s_law_alike)) (by decide +kernel)) (fun _ _ _ _ _ => (pg_name (i := 2) sc_law_alike.nd rfl (by first | exact .inl rfl | exact .inr rfl))) (fun _ _ _ _ _ => (pts_one (pt_not (pt_val (pe_callB (cr_isiK (K := K)) (by rfl) T.m_isinstance (by decide +kernel) (pa_cons (pv 2) (pa_cons (pe_bltn (v := .ty "tuple") (by rfl) T.m_tuple (by decide +kernel) rfl) pa_nil))))))) (fun _ _ _ _ _ => (pv 2))) (pe_lst pa_nil) (nomark _)) (pss_one (ps_ret pe_bl)) pss_nil)
      (pss_one (ps_ret (pe_cmpR (op_eqNilK (K := K) (hu_of64 hr)) (pe_lc rfl sc_law_alike.nd (pi_tupK (K := K) (pv 0)) (blkOk_by (own := [("line", 2)]) (N := ["told", "wanted", "line", "number"]) (sc := (defScope s_law_alike)) (by decide +kernel)) (fun _ _ _ _ _ => (pg_name (i := 2) sc_law_alike.nd rfl (by first | exact .inl rfl | exact .inr rfl))) (fun _ _ _ _ _ => (pts_one (pt_cmpR (op_neNilK (K := K) (hu_of64 hr)) (pe_lc rfl sc_law_alike.nd (pi_tupK (K := K) (pv 2)) (blkOk_in (own := [("number", 3)]) (N := ["told", "wanted", "line", "number"]) (by decide +kernel)) (fun _ _ _ _ _ => (pg_name (i := 3) sc_law_alike.nd rfl (by first | exact .inl rfl | exact .inr rfl))) (fun _ _ _ _ _ => (pts_one (pt_val (pe_callB (cr_isiK (K := K)) (by rfl) T.m_isinstance (by decide +kernel) (pa_cons (pv 3) (pa_cons (pe_bltn (v := .ty "bool") (by rfl) T.m_bool (by decide +kernel) rfl) pa_nil)))))) (fun _ _ _ _ _ => (pv 3))) (pe_lst pa_nil) (nomark _)))) (fun _ _ _ _ _ => (pv 2))) (pe_lst pa_nil) (nomark _)))))), ?_⟩
    walk_at "st"
    walk_at "if"
    refine r_neR ha ra hb rb ?_
    walk_at "st"
    refine r_iteB (fun h => by simp at h) (fun _ => ?_)
    walk_at "st"
    walk_at "if"
    intro D hD
    refine lc_filt (walk_tup (xs := us)) (by omega) hD (fun _ => false) (fun H' k => SqT.of (k _ _ ha)) (fun i H1 x H2 y => by rw [y.1]; exact Same.refl _)
      (fun i x H1 H2 Y No hi sm y hY hN => ?_) (fun ys HC ee el smC eD => ?_)
    · obtain ⟨rfl, ex⟩ := y
      obtain ⟨r, er, c, rfl, hc⟩ := ra.2 i x ex
      have hc1 := sm _ _ hc
      refine ⟨rfl, ?_⟩
      walk_at "st"
      exact hN rfl _ (Same.refl _)
    · have e0 : ys.isEmpty = true := by rw [ee]; simp
      walk_at "st"
      intro p hp
      walk_at "st"
      rw [e0]
      refine r_iteB (fun h => by cases h) (fun _ => ?_)
      have s1 : Same H (upd HC p (.lst [])) := by walk_at "sm"
      have ha1 := s1 _ _ ha
      generalize upd HC p (.lst []) = H1 at *
      walk_at "st"
      intro D2 hD2
      refine lc_filt (walk_tup (xs := us)) (by omega) hD2 (fun _ => false) (fun H' k => SqT.of (k _ _ ha1)) (fun i H1 x H2 y => by rw [y.1]; exact Same.refl _)
        (fun i x H2 H3 Y No hi sm y hY hN => ?_) (fun ys2 HC2 ee2 el2 smC2 eD2 => ?_)
      · obtain ⟨rfl, ex⟩ := y
        obtain ⟨r, er, c, rfl, hc⟩ := ra.2 i x ex
        have hc1 := sm _ _ (s1 _ _ hc)
        have lr : r.length ≤ 1000 := hrow r (List.mem_of_getElem? er)
        refine ⟨rfl, ?_⟩
        walk_at "st"
        intro D3 hD3
        refine lc_filt (walk_tup (xs := r.map V.int)) (by rw [List.length_map]; omega) hD3 (fun _ => false) (fun H' k => SqT.of (k _ _ hc1)) (fun i H1 x H2 y => by rw [y.1]; exact Same.refl _)
          (fun i x H2 H4 Y No hi sm4 y hY hN => ?_) (fun ys3 HC3 ee3 el3 smC3 eD3 => ?_)
        · obtain ⟨rfl, ex⟩ := y
          obtain ⟨n, en, rfl⟩ := getElem?_map_int ex
          refine ⟨rfl, ?_⟩
          walk_at "st"
          exact hN rfl _ (Same.refl _)
        · have e3 : ys3.isEmpty = true := by rw [ee3]; simp
          walk_at "st"
          intro p3 hp3
          walk_at "st"
          rw [e3]
          walk_at "st"
          exact hN rfl _ (by walk_at "sm")
      · have e2 : ys2.isEmpty = true := by rw [ee2]; simp
        walk_at "st"
        intro p2 hp2
        walk_at "st"
        rw [e2]
        exact q _ (by walk_at "sm")
end
local macro_rules | `(tactic| walk_at "st1") => `(tactic| first
  | with_reducible refine r_par ?_
  | with_reducible refine r_parx ?_
  | ((with_reducible refine' r_gtup ?e1 ?e2 ?_); (case e1 => walk_at "sq"); (case e2 => rfl))
  | with_reducible refine r_gcons ?_
  | with_reducible refine r_gnil ?_
  | with_reducible refine r_ient ?_
  | ((with_reducible refine' r_ent ?e1 ?_); (case e1 => walk_at "sq")))
local macro_rules | `(tactic| walk_at "st1") => `(tactic| first
  | with_reducible refine r_izx ?_
  | with_reducible refine r_isq ?_
  | ((with_reducible refine' r_zxt ?e1 ?e2 ?_); (case e1 => walk_at "sq"); (case e2 => walk_at "sq"))
  | ((with_reducible refine' r_zxm ?e1 ?e2 ?_); (case e1 => walk_at "sq"); (case e2 => walk_at "sq"))
  | ((with_reducible refine' r_sqt ?e1 ?_); (case e1 => walk_at "sq"))
  | ((with_reducible refine' r_sql ?e1 ?_); (case e1 => walk_at "sq")))
def rMin2 : List V → Hp → VK → Prop := fun xs H Q => ∃ i j, xs = [.int i, .int j] ∧ Q (.int (if j < i then j else i)) H
theorem cr_min2 {X : Cx} (hc : X.calm = true) : CallR X (.builtin "min") rMin2 := call_min2 hc
theorem r_min2 {i j : Int} {H : Hp} {Q : VK} (q : Q (.int (if j < i then j else i)) H) : rMin2 [.int i, .int j] H Q := ⟨i, j, rfl, q⟩
def sp_law_is_few (_ : PySem.W.Frag) : Sp := fun vs H Q _ => ∃ (b : Int) (k : Nat), vs = [.int b, .int k] ∧ (2 ≤ b ∧ b ≤ 997) ∧ ∀ H', Same H H' → Q (.bl (decide (b.toNat ^ min k 12 ≤ 400))) H'
theorem few_all {b : Int} {k : Nat} (hb : 2 ≤ b) (h : b.toNat ^ min k 12 ≤ 400) : b.toNat ^ k ≤ 400 := by
  by_cases c : k ≤ 12
  · rwa [Nat.min_eq_left c] at h
  · rw [Nat.min_eq_right (by omega)] at h
    have : 2 ^ 12 ≤ b.toNat ^ 12 := Nat.pow_le_pow_left (by omega) 12
    omega
section
variable {P : Program} {w : World} {K : PySem.W.Frag} {mg : Str → Option Value} {base : Heap}
theorem ok_law_is_few (T : Tx K mg)  {f : Addr} {fd : FuncData} (F : Here K mg "_law_is_few" s_law_is_few ["base", "times"] f fd) : Cal P w K mg base "_law_is_few" 1 ["base", "times"] (sp_law_is_few K) s_law_is_few f fd := by
  refine F.cal sc_law_is_few (fun vs H Q E h => ?_) (fun cdv A outer s H vs Q E hr h => ?_)
  · obtain ⟨b, k, rfl, _⟩ := h
    rfl
  · obtain ⟨b, k, rfl, hb, q⟩ := h
    refine ⟨_, (pss_cons (ps_set (i := 2) sc_law_is_few.nd rfl (by first | exact .inl rfl | exact .inr rfl) pe_int)
      (pss_cons (ps_for PassesOwn.never rfl (pi_range1 (by rfl) T.m_range (pa_cons (pe_callB (cr_min2 rfl) (by rfl) T.m_min (by decide +kernel) (pa_cons (pv 1) (pa_cons pe_int pa_nil))) pa_nil)) (pg_name (i := 3) sc_law_is_few.nd rfl (by first | exact .inl rfl | exact .inr rfl)) (pss_one (ps_set (i := 2) sc_law_is_few.nd rfl (by first | exact .inl rfl | exact .inr rfl) (pe_op op_mul (pv 2) (pv 0)))))
      (pss_one (ps_ret (pe_cmpR op_le (pv 2) pe_int (nomark _)))))), ?_⟩
    walk_at "st"
    refine r_min2 ?_
    have e : (if (12 : Int) < (k : Int) then (12 : Int) else (k : Int)) = ((min k 12 : Nat) : Int) := by split <;> omega
    rw [e]
    walk_at "st"
    refine lp_by (walk_range (lo := 0) (n := ((min k 12 : Nat) : Int).toNat)) (fun i σ' H' => ∃ x3, σ' = [some (.int b), some (.int k), some (.int ((b.toNat ^ i : Nat) : Int)), x3] ∧ H' = H) ⟨_, rfl, rfl⟩ (fun _ _ _ _ _ => trivial) (fun i x σ' H1 H2 hi p y => ?_) (fun σ' H1 p => ?_)
    · obtain ⟨x3, rfl, rfl⟩ := p
      obtain ⟨rfl, rfl⟩ := y
      walk_at "st"
      refine ⟨some (.int (0 + (i : Int))), ?_, rfl⟩
      have e2 : ((b.toNat ^ (i + 1) : Nat) : Int) = ((b.toNat ^ i : Nat) : Int) * b := by
        rw [Nat.pow_succ]
        have : ((b.toNat : Nat) : Int) = b := by omega
        push_cast
        rw [this]
      rw [e2]; rfl
    · obtain ⟨x3, rfl, rfl⟩ := p
      walk_at "st"
      have e3 : decide (((b.toNat ^ ((min k 12 : Nat) : Int).toNat : Nat) : Int) ≤ 400) = decide (b.toNat ^ min k 12 ≤ 400) := by
        rw [Int.toNat_natCast]
        exact decide_eq_decide.mpr (by omega)
      rw [e3]
      exact q _ (Same.refl _)
end
local macro_rules | `(tactic| walk_at "st1") => `(tactic| first
  | with_reducible refine r_par ?_
  | with_reducible refine r_parx ?_
  | ((with_reducible refine' r_gtup ?e1 ?e2 ?_); (case e1 => walk_at "sq"); (case e2 => rfl))
  | with_reducible refine r_gcons ?_
  | with_reducible refine r_gnil ?_
  | with_reducible refine r_ient ?_
  | ((with_reducible refine' r_ent ?e1 ?_); (case e1 => walk_at "sq")))
local macro_rules | `(tactic| walk_at "st1") => `(tactic| first
  | with_reducible refine r_izx ?_
  | with_reducible refine r_isq ?_
  | ((with_reducible refine' r_zxt ?e1 ?e2 ?_); (case e1 => walk_at "sq"); (case e2 => walk_at "sq"))
  | ((with_reducible refine' r_zxm ?e1 ?e2 ?_); (case e1 => walk_at "sq"); (case e2 => walk_at "sq"))
  | ((with_reducible refine' r_sqt ?e1 ?_); (case e1 => walk_at "sq"))
  | ((with_reducible refine' r_sql ?e1 ?_); (case e1 => walk_at "sq")))
local macro_rules | `(tactic| walk_at "st1") => `(tactic| first
  | with_reducible refine' r_nt ?_
  | with_reducible refine' r_nf ?_
  | with_reducible refine r_un ?_
  | with_reducible refine r_u ?_)
def dotL (xs ys : List Int) : Int := (List.zipWith (· * ·) xs ys).sum
def sp_product_of (_ : PySem.W.Frag) : Sp := fun vs H Q _ => ∃ (a b : Addr) (ns ms : List Int) (p : Int), vs = [.ref a, .ref b, .int p] ∧ H a = some (.tup (ns.map .int)) ∧ H b = some (.tup (ms.map .int)) ∧ ns.length ≤ 1000 ∧ (2 ≤ p ∧ p ≤ 997) ∧ (∀ x ∈ ns, 0 ≤ x ∧ x < p) ∧
  ∀ H', Same H H' → Q (.int (dotL ns ms % p)) H'
def sp_law_product (_ : PySem.W.Frag) : Sp := fun vs H Q _ => ∃ (a b : Addr) (ns ms : List Int) (p : Int), vs = [.ref a, .ref b, .int p] ∧ H a = some (.tup (ns.map .int)) ∧ H b = some (.tup (ms.map .int)) ∧ ns.length ≤ 1000 ∧ (2 ≤ p ∧ p ≤ 997) ∧ (∀ x ∈ ns, 0 ≤ x ∧ x < p) ∧
  ∀ H', Same H H' → Q (.int (dotL ns ms % p)) H'
section
variable {P : Program} {w : World} {K : PySem.W.Frag} {mg : Str → Option Value} {base : Heap}
theorem ok_product_of (T : Tx K mg)  {f : Addr} {fd : FuncData} (F : Here K mg "product_of" s_product_of ["row", "other", "p"] f fd) : Cal P w K mg base "product_of" 1 ["row", "other", "p"] (sp_product_of K) s_product_of f fd := by
  refine F.cal sc_product_of (fun vs H Q E h => ?_) (fun cdv A outer s H vs Q E hr h => ?_)
  · obtain ⟨a, b, ns, ms, p, rfl, _⟩ := h
    rfl
  · obtain ⟨a, b, ns, ms, p, rfl, ha, hb, hlen, hp, hns, q⟩ := h
    refine ⟨_, (pss_one (ps_ret (pe_op op_mod (pe_callB (cr_sumK (K := K) rfl) (by rfl) T.m_sum (by decide +kernel) (pa_cons (pe_lc rfl sc_product_of.nd (castPI (K := K) (wi := fun K => iZipA K _) (pi_zipA (by rfl) T.m_zip (pa_cons (pv 0) (pa_cons (pv 1) pa_nil)))) (blkOk_by (own := [("n", 3), ("m", 4)]) (N := ["row", "other", "p", "n", "m"]) (sc := (defScope s_product_of)) (by decide +kernel)) (fun _ _ _ _ _ => (castPG (K := K) (n := 2) (pg_tup rfl (pgs_cons (pg_name (i := 3) sc_product_of.nd rfl (by first | exact .inl rfl | exact .inr rfl)) (pgs_cons (pg_name (i := 4) sc_product_of.nd rfl (by first | exact .inl rfl | exact .inr rfl)) pgs_nil))))) (fun _ _ _ _ _ => pts_nil) (fun _ _ _ _ _ => (pe_op op_mul (pv 3) (pv 4)))) pa_nil)) (pv 2)))), ?_⟩
    walk_at "st"
    intro D hD
    refine lc_map (walk_zipT (xs := ns.map V.int) (ys := ms.map V.int) rfl) (by rw [List.length_map]; omega) hD (fun i y _ => ∃ m, (List.zipWith (· * ·) ns ms)[i]? = some m ∧ y = .int m) (fun _ _ _ _ h _ => h) (fun _ _ _ _ _ h _ => h) (fun H' k => ⟨SqT.of (k _ _ ha), SqT.of (k _ _ hb)⟩) (fun i H1 x H2 y => ?_)
      (fun i x H1 H2 Y No hi sm y hY => ?_) (fun ys H' el sm eD hys => ?_)
    · obtain ⟨t, x1, y1, rfl, nt, rfl, _⟩ := y
      exact Same.upd_new nt
    · obtain ⟨t, x1, y1, rfl, nt, rfl, e1, e2⟩ := y
      obtain ⟨m1, em1, rfl⟩ := getElem?_map_int e1
      obtain ⟨m2, em2, rfl⟩ := getElem?_map_int e2
      have hm1 := hns m1 (List.mem_of_getElem? em1)
      refine ⟨t, [.int m1, .int m2], rfl, .inl (.inl upd_same), rfl, _, _, rfl, _, _, rfl, rfl, rfl, ?_⟩
      walk_at "st"
      refine hY _ _ (Same.refl _) ⟨_, ?_, rfl⟩
      rw [List.getElem?_zipWith, em1, em2]
    · obtain rfl := list_ext_int (ms := List.zipWith (· * ·) ns ms) (by rw [el, List.length_zipWith, List.length_map, List.length_map]) hys
      walk_at "st"
      exact q _ sm
theorem ok_law_product (T : Tx K mg)  {f : Addr} {fd : FuncData} (F : Here K mg "_law_product" s_law_product ["line", "two", "base"] f fd) : Cal P w K mg base "_law_product" 1 ["line", "two", "base"] (sp_law_product K) s_law_product f fd := by
  refine F.cal sc_law_product (fun vs H Q E h => ?_) (fun cdv A outer s H vs Q E hr h => ?_)
  · obtain ⟨a, b, ns, ms, p, rfl, _⟩ := h
    rfl
  · obtain ⟨a, b, ns, ms, p, rfl, ha, hb, hlen, hp, hns, q⟩ := h
    refine ⟨_, (pss_one (ps_ret (pe_op op_mod (pe_callB (cr_sumK (K := K) rfl) (by rfl) T.m_sum (by decide +kernel) (pa_cons (pe_lc rfl sc_law_product.nd (castPI (K := K) (wi := fun K => iZipA K _) (pi_zipA (by rfl) T.m_zip (pa_cons (pv 0) (pa_cons (pv 1) pa_nil)))) (blkOk_by (own := [("first", 3), ("two", 1)]) (N := ["line", "two", "base", "first"]) (sc := (defScope s_law_product)) (by decide +kernel)) (fun _ _ _ _ _ => (castPG (K := K) (n := 2) (pg_tup rfl (pgs_cons (pg_name (i := 3) sc_law_product.nd rfl (by first | exact .inl rfl | exact .inr rfl)) (pgs_cons (pg_name (i := 1) sc_law_product.nd rfl (by first | exact .inl rfl | exact .inr rfl)) pgs_nil))))) (fun _ _ _ _ _ => pts_nil) (fun _ _ _ _ _ => (pe_op op_mul (pv 3) (pv 1)))) pa_nil)) (pv 2)))), ?_⟩
    walk_at "st"
    intro D hD
    refine lc_map (walk_zipT (xs := ns.map V.int) (ys := ms.map V.int) rfl) (by rw [List.length_map]; omega) hD (fun i y _ => ∃ m, (List.zipWith (· * ·) ns ms)[i]? = some m ∧ y = .int m) (fun _ _ _ _ h _ => h) (fun _ _ _ _ _ h _ => h) (fun H' k => ⟨SqT.of (k _ _ ha), SqT.of (k _ _ hb)⟩) (fun i H1 x H2 y => ?_)
      (fun i x H1 H2 Y No hi sm y hY => ?_) (fun ys H' el sm eD hys => ?_)
    · obtain ⟨t, x1, y1, rfl, nt, rfl, _⟩ := y
      exact Same.upd_new nt
    · obtain ⟨t, x1, y1, rfl, nt, rfl, e1, e2⟩ := y
      obtain ⟨m1, em1, rfl⟩ := getElem?_map_int e1
      obtain ⟨m2, em2, rfl⟩ := getElem?_map_int e2
      have hm1 := hns m1 (List.mem_of_getElem? em1)
      refine ⟨t, [.int m1, .int m2], rfl, .inl (.inl upd_same), rfl, _, _, rfl, _, _, rfl, rfl, rfl, ?_⟩
      walk_at "st"
      refine hY _ _ (Same.refl _) ⟨_, ?_, rfl⟩
      rw [List.getElem?_zipWith, em1, em2]
    · obtain rfl := list_ext_int (ms := List.zipWith (· * ·) ns ms) (by rw [el, List.length_zipWith, List.length_map, List.length_map]) hys
      walk_at "st"
      exact q _ sm
end
/-! ### nulls and reduced rows: together as many as the width -/
section
variable {p : Int} {w : Nat}
def eV (j : Nat) : Vec := fun i => if j = i then 1 else 0
theorem cmb_eV (n : Nat) (x : Nat → Int) (i : Nat) : cmb n x eV i = if i < n then x i else 0 := by
  show (smI n fun j => x j * (if j = i then 1 else 0)) = _
  by_cases h : i < n
  · rw [if_pos h, dot_unit x h]
  · rw [if_neg h, smI_congr (g := fun _ => 0) fun j hj => by rw [if_neg (by omega), Int.mul_zero], smI_nil]
theorem dot_cmb (u : Vec) (x : Nat → Int) (A : Nat → Vec) : ∀ n, dotV w u (cmb n x A) = smI n fun j => x j * dotV w u (A j)
  | 0 => by
    have e : cmb 0 x A = fun _ => (0 : Int) := rfl
    rw [e, dotV_comm, dotV_zero, smI_zero]
  | n + 1 => by
    have e : cmb (n + 1) x A = fun i => cmb n x A i + x n * A n i := by
      funext i
      exact smI_succ _ _
    rw [e, dotV_comm, dotV_add, dotV_comm (cmb n x A), dotV_comm (A n), dot_cmb u x A n, smI_succ]
theorem dot_eV (u : Vec) {l : Nat} (h : l < w) : dotV w u (eV l) = u l := by
  unfold dotV
  rw [smI_congr (g := fun i => u i * (if i = l then 1 else 0)) fun i _ => by
    show u i * (if l = i then 1 else 0) = _
    by_cases c : i = l
    · rw [if_pos c, if_pos c.symm]
    · rw [if_neg c, if_neg fun z => c z.symm], dot_unit u h]
theorem dim_null {inv : Int → Int} (p2 : 2 ≤ p) (hi : InvOk p inv) {B C : List (Nat × List Int)} (hB : RedL p w B) (hC : RedL p w C) (sC : ∀ v, Sp0 p (C.map fun x => vec x.2) v ↔ Nul p w (B.map fun x => vec x.2) v) : w = B.length + C.length := by
  let f : Vec → Vec := fun v i => if i < B.length then dotV w (rowsV (B.map fun x => vec x.2) i) v else 0
  have f1 : ∀ v i, i < B.length → f v i = dotV w (rowsV (B.map fun x => vec x.2) i) v := fun v i h => if_pos h
  have f2 : ∀ v i, ¬ i < B.length → f v i = 0 := fun v i h => if_neg h
  have ie : ∀ n, Ind p n eV := fun n x hx j hj => by
    have := hx j
    rwa [cmb_eV, if_pos hj] at this
  refine rank_null (f := f) (A := eV) (S := eV) (T := rowsV (C.map fun x => vec x.2)) p2 hi (fun n x A => ?_) (fun u v k i => ?_) (ie w) (ie B.length) (ind_red hC) (fun j hj => ⟨f (eV j), fun i => ?_⟩) (fun j hj => ⟨eV B[j].1, fun i => ?_⟩) (fun j hj => ?_) (fun y hy => ?_)
  · funext i
    by_cases h : i < B.length
    · rw [f1 _ _ h, dot_cmb]
      exact smI_congr fun j _ => by
        show _ = x j * f (A j) i
        rw [f1 _ _ h]
    · rw [f2 _ _ h]
      show 0 = smI n fun j => x j * f (A j) i
      rw [smI_congr (g := fun _ => 0) fun j _ => by rw [f2 _ _ h, Int.mul_zero], smI_nil]
  · by_cases h : i < B.length
    · rw [f1 _ _ h, f1 _ _ h, dotV_comm, dotV_comm _ v]
      exact dotV_cg k _
    · rw [f2 _ _ h, f2 _ _ h, Int.sub_self]
      exact Int.dvd_zero p
  · rw [cmb_eV]
    by_cases h : i < B.length
    · rw [if_pos h, Int.sub_self]; exact Int.dvd_zero p
    · rw [if_neg h, f2 _ _ h, Int.sub_self]; exact Int.dvd_zero p
  · have lw := (hB.one _ (List.getElem_mem hj)).1
    have e : cmb w (eV B[j].1) eV = eV B[j].1 := by
      funext k
      rw [cmb_eV]
      by_cases h : k < w
      · rw [if_pos h]
      · rw [if_neg h]
        show 0 = if B[j].1 = k then (1 : Int) else 0
        rw [if_neg (by omega)]
    rw [e]
    by_cases h : i < B.length
    · rw [f1 _ _ h, dot_eV _ lw, rowsV_at h]
      show p ∣ vec B[i].2 B[j].1 - if j = i then 1 else 0
      by_cases c : j = i
      · subst c
        rw [if_pos rfl, (hB.one _ (List.getElem_mem h)).2, Int.sub_self]
        exact Int.dvd_zero p
      · rw [if_neg c, hB.off _ (List.getElem_mem h) _ (List.getElem_mem hj) fun z => c ?_, Int.sub_self]
        · exact Int.dvd_zero p
        · have := (List.getElem_inj (xs := B.map (·.1)) (h₀ := by rw [List.length_map]; exact h) (h₁ := by rw [List.length_map]; exact hj) hB.nd).mp (by rw [List.getElem_map, List.getElem_map]; exact z)
          exact this.symm
    · rw [f2 _ _ h]
      show p ∣ 0 - if j = i then 1 else 0
      rw [if_neg (by omega), Int.sub_self]
      exact Int.dvd_zero p
  · have n := (sC _).mp (rowsV_sp hj)
    refine ⟨fun i => ?_, rowsV (C.map fun x => vec x.2) j, fun i => ?_⟩
    · by_cases h : i < B.length
      · rw [f1 _ _ h, rowsV_at h]
        exact n.nul _ (List.mem_map.mpr ⟨_, List.getElem_mem h, rfl⟩)
      · rw [f2 _ _ h]; exact Int.dvd_zero p
    · rw [cmb_eV]
      by_cases h : i < w
      · rw [if_pos h, Int.sub_self]; exact Int.dvd_zero p
      · rw [if_neg h, Int.sub_zero]; exact n.out i (by omega)
  · refine red_cmb ((sC _).mpr ⟨fun i hi => ?_, fun r m => ?_⟩)
    · rw [cmb_eV, if_neg (by omega)]; exact Int.dvd_zero p
    · obtain ⟨x, hx, rfl⟩ := List.mem_map.mp m
      obtain ⟨i, hi, rfl⟩ := List.getElem_of_mem hx
      have := hy i
      rwa [f1 _ _ hi, rowsV_at hi] at this
/-- products of lists -/
theorem dot_sm8 : ∀ {xs ys : List Int}, xs.length = ys.length → dotL xs ys = smI xs.length fun i => vec xs i * vec ys i
  | [], [], _ => rfl
  | [], _ :: _, h => by simp at h
  | _ :: _, [], h => by simp at h
  | x :: xs, y :: ys, h => by
    have ih := dot_sm8 (xs := xs) (ys := ys) (by simpa using h)
    unfold dotL at ih ⊢
    rw [List.zipWith_cons_cons, List.sum_cons, ih, List.length_cons, smI_front]; rfl
theorem dot_list {a b : List Int} (ha : a.length = w) (hb : b.length = w) : dotL a b = dotV w (vec a) (vec b) := by
  rw [dot_sm8 (by rw [ha, hb]), ha]; rfl
end
local macro_rules | `(tactic| walk_at "st1") => `(tactic| first
  | with_reducible refine r_par ?_
  | with_reducible refine r_parx ?_
  | ((with_reducible refine' r_gtup ?e1 ?e2 ?_); (case e1 => walk_at "sq"); (case e2 => rfl))
  | with_reducible refine r_gcons ?_
  | with_reducible refine r_gnil ?_
  | with_reducible refine r_ient ?_
  | ((with_reducible refine' r_ent ?e1 ?_); (case e1 => walk_at "sq")))
local macro_rules | `(tactic| walk_at "st1") => `(tactic| first
  | with_reducible refine r_izx ?_
  | with_reducible refine r_isq ?_
  | ((with_reducible refine' r_zxt ?e1 ?e2 ?_); (case e1 => walk_at "sq"); (case e2 => walk_at "sq"))
  | ((with_reducible refine' r_zxm ?e1 ?e2 ?_); (case e1 => walk_at "sq"); (case e2 => walk_at "sq"))
  | ((with_reducible refine' r_sqt ?e1 ?_); (case e1 => walk_at "sq"))
  | ((with_reducible refine' r_sql ?e1 ?_); (case e1 => walk_at "sq")))
local macro_rules | `(tactic| walk_at "st1") => `(tactic| first
  | with_reducible refine' r_nt ?_
  | with_reducible refine' r_nf ?_
  | with_reducible refine r_un ?_
  | with_reducible refine r_u ?_)
def longL (b : Nat) (rows : List (List Int)) : List (List Int) := rows.flatMap fun r => (List.range b).map fun n : Nat => r ++ [(n : Int)]
def everyL (b : Nat) : Nat → List (List Int)
  | 0 => [[]]
  | k + 1 => longL b (everyL b k)
theorem long_len (b : Nat) : ∀ rows, (longL b rows).length = rows.length * b
  | [] => by show 0 = 0 * b; rw [Nat.zero_mul]
  | r :: rows => by
    have e : longL b (r :: rows) = ((List.range b).map fun n : Nat => r ++ [(n : Int)]) ++ longL b rows := List.flatMap_cons
    rw [e, List.length_append, List.length_map, List.length_range, long_len b rows, List.length_cons, Nat.add_mul, Nat.one_mul, Nat.add_comm]
theorem every_len (b : Nat) : ∀ k, (everyL b k).length = b ^ k
  | 0 => rfl
  | k + 1 => by
    show (longL b (everyL b k)).length = _
    rw [long_len, every_len b k, Nat.pow_succ]
theorem every_row {b : Int} (h : 0 ≤ b) : ∀ k, ∀ r ∈ everyL b.toNat k, Row b k r
  | 0, r, m => by
    rw [List.mem_singleton.mp m]
    exact ⟨rfl, fun x n => by cases n⟩
  | k + 1, r, m => by
    obtain ⟨q, hq, m⟩ := List.mem_flatMap.mp (show r ∈ (everyL b.toNat k).flatMap _ from m)
    obtain ⟨n, hn, rfl⟩ := List.mem_map.mp m
    have rq := every_row h k q hq
    have ln := List.mem_range.mp hn
    refine ⟨by rw [List.length_append, rq.len]; rfl, fun x mx => ?_⟩
    rcases List.mem_append.mp mx with mx | mx
    · exact rq.num x mx
    · rw [List.mem_singleton.mp mx]; omega
theorem long_take {b : Nat} {rows : List (List Int)} {i : Nat} {r : List Int} (e : rows[i]? = some r) : longL b (rows.take (i + 1)) = longL b (rows.take i) ++ (List.range b).map fun n : Nat => r ++ [(n : Int)] := by
  unfold longL
  rw [List.take_succ, e, List.flatMap_append]
  congr 1
  show List.flatMap _ [r] = _
  rw [List.flatMap_cons, List.flatMap_nil, List.append_nil]
def sp_law_longer (_ : PySem.W.Frag) : Sp := fun vs H Q _ => ∃ (l : Addr) (b : Int) (us : List V) (rows : List (List Int)), vs = [.ref l, .int b] ∧ H l = some (.lst us) ∧ Rws H us rows ∧ (2 ≤ b ∧ b ≤ 997) ∧ rows.length * b.toNat ≤ 400 ∧ (∀ r ∈ rows, r.length ≤ 1000) ∧
  ∀ (m : Addr) (zs : List V) (H' : Hp), Same H H' → H' m = some (.lst zs) → Rws H' zs (longL b.toNat rows) → Q (.ref m) H'
def sp_law_every (_ : PySem.W.Frag) : Sp := fun vs H Q _ => ∃ (w : Nat) (b : Int), vs = [.int w, .int b] ∧ (2 ≤ b ∧ b ≤ 997) ∧ w ≤ 400 ∧ b.toNat ^ w ≤ 400 ∧
  ∀ (m : Addr) (zs : List V) (H' : Hp), Same H H' → H' m = some (.lst zs) → Rws H' zs (everyL b.toNat w) → Q (.ref m) H'
section
variable {P : Program} {w : World} {K : PySem.W.Frag} {mg : Str → Option Value} {base : Heap}
theorem r_catA1 {K : PySem.W.Frag} {H : Hp} {Q : VK} {a b : Addr} {xs : List V} {v : V} (h1 : H a = some (.tup xs)) (h2 : H b = some (.tup [v])) (z : xs.length + 1 ≤ sizeLine) (q : ∀ p H', Same H H' → H' p = some (.tup (xs ++ [v])) → Q (.ref p) H') : rCatA K (.ref a) (.ref b) H Q :=
  ⟨a, b, xs, [v], rfl, rfl, SqT.of h1, SqT.of h2, z, fun e => q b H (Same.refl _) (by rw [e]; exact h2), (fun _ e => by cases e), fun _ _ p hp => q p _ (Same.upd_new hp) upd_same⟩
theorem ok_law_longer (T : Tx K mg)  {f : Addr} {fd : FuncData} (F : Here K mg "_law_longer" s_law_longer ["some", "base"] f fd) : Cal P w K mg base "_law_longer" 1 ["some", "base"] (sp_law_longer K) s_law_longer f fd := by
  refine F.cal sc_law_longer (fun vs H Q E h => ?_) (fun cdv A outer s H vs Q E hr h => ?_)
  · obtain ⟨l, b, us, rows, rfl, _⟩ := h
    rfl
  · obtain ⟨l, b, us, rows, rfl, hl, hR, hb, hlen, hrow, q⟩ := h
    refine ⟨_, (pss_cons (ps_set (i := 2) sc_law_longer.nd rfl (by first | exact .inl rfl | exact .inr rfl) (pe_lst pa_nil))
      (pss_cons (ps_for PassesOwn.never rfl (pi_listK (K := K) (pv 0)) (pg_name (i := 3) sc_law_longer.nd rfl (by first | exact .inl rfl | exact .inr rfl)) (pss_one (ps_set (i := 2) sc_law_longer.nd rfl (by first | exact .inl rfl | exact .inr rfl) (pe_op op_cat (pv 2) (pe_lc rfl sc_law_longer.nd (pi_range1 (by rfl) T.m_range (pa_cons (pv 1) pa_nil)) (blkOk_by (own := [("number", 4)]) (N := ["some", "base", "more", "line", "number"]) (sc := (defScope s_law_longer)) (by decide +kernel)) (fun _ _ _ _ _ => (pg_name (i := 4) sc_law_longer.nd rfl (by first | exact .inl rfl | exact .inr rfl))) (fun _ _ _ _ _ => pts_nil) (fun _ _ _ _ _ => (pe_op (op_catAK (K := K)) (pv 3) (pe_tup (pa_cons (pv 4) pa_nil)))))))))
      (pss_one (ps_ret (pv 2))))), ?_⟩
    walk_at "st"
    intro m0 hm0
    walk_at "st"
    refine lp_by (walk_list (xs := us)) (fun i σ' H' => ∃ m zs x3 x4, σ' = [some (.ref l), some (.int b), some (.ref m), x3, x4] ∧ Same H H' ∧ H' m = some (.lst zs) ∧ Rws H' zs (longL b.toNat (rows.take i)))
      ⟨m0, [], _, _, rfl, Same.upd_new hm0, upd_same, rfl, fun i v e => by simp at e⟩ (fun i σ' H' _ z => by obtain ⟨_, _, _, _, _, z1, _⟩ := z; exact SqL.of (z1 _ _ hl)) (fun i x σ' H2 H2' hi z y => ?_) (fun σ' H2 z => ?_)
    · obtain ⟨m, zs, x3, x4, rfl, sm, em, hm⟩ := z
      obtain ⟨rfl, ex⟩ := y
      obtain ⟨r, er, c, rfl, hc⟩ := (hR.same sm).2 i x ex
      have lr := hrow r (List.mem_of_getElem? er)
      walk_at "st"
      intro D hD
      refine lc_map (walk_range (lo := 0) (n := b.toNat)) (by omega) hD (fun n y H' => RowV H' y (r ++ [(n : Int)])) (fun _ _ _ _ h k => h.same k) (fun n v H' acc acc' h eD => ?_) (fun _ _ => trivial) (fun i H1 x H2 y => by rw [y.1]; exact Same.refl _)
        (fun n x H4 H5 Y No hn sm4 y hY => ?_) (fun ys H4 el sm4 eD4 hys => ?_)
      · obtain ⟨c, rfl, hc⟩ := h
        exact ⟨c, rfl, hl_set (fun z => by rw [z, eD] at hc; cases hc) hc⟩
      · obtain ⟨rfl, rfl⟩ := y
        refine ⟨rfl, ?_⟩
        walk_at "st"
        intro lt hlt
        have hc4 := hl_new (u := .tup [.int (0 + (n : Int))]) (sm4 _ _ hc) hlt
        refine r_catA1 hc4 upd_same (by rw [List.length_map]; exact Nat.le_trans (show r.length + 1 ≤ 1001 by omega) (by decide)) fun pq H7 s7 e7 => ?_
        refine hY _ _ ((Same.upd_new hlt).trans s7) ⟨pq, rfl, ?_⟩
        rw [e7, List.map_append]
        show some (HO.tup (r.map V.int ++ [V.int (0 + (n : Int))])) = _
        rw [Int.zero_add]; rfl
      have hr2 : Rws H4 ys ((List.range b.toNat).map fun n : Nat => r ++ [(n : Int)]) := ⟨by rw [el, List.length_map, List.length_range], fun n v e => by
        have ln : n < b.toNat := by have := (List.getElem?_eq_some_iff.mp e).1; omega
        exact ⟨_, by rw [List.getElem?_map, List.getElem?_range ln]; rfl, hys n v e⟩⟩
      have e2 := long_take (b := b.toNat) er
      have l2 : (longL b.toNat (rows.take (i + 1))).length ≤ 400 := by
        rw [long_len]
        exact Nat.le_trans (Nat.mul_le_mul_right _ (List.length_take_le' ..)) hlen
      have hj := (hm.same sm4).append hr2
      rw [← e2] at hj
      walk_at "st"
      refine r_cat (sm4 _ _ em) eD4 (by have := hj.1; rw [List.length_append] at this; rw [this]; exact Nat.le_trans l2 (by decide)) fun p hp => ?_
      walk_at "st"
      exact ⟨p, _, _, _, rfl, (sm.trans sm4).trans (Same.upd_new hp), upd_same, hj.same (Same.upd_new hp)⟩
    · obtain ⟨m, zs, x3, x4, rfl, sm, em, hm⟩ := z
      rw [hR.1, List.take_length] at hm
      walk_at "st"
      exact q m zs _ sm em hm
theorem ok_law_every (T : Tx K mg) {f_law_longer : Addr} {fd_law_longer : FuncData} (C_law_longer : Cal P w K mg base "_law_longer" 1 ["some", "base"] (sp_law_longer K) s_law_longer f_law_longer fd_law_longer) {f : Addr} {fd : FuncData} (F : Here K mg "_law_every" s_law_every ["wideness", "base"] f fd) : Cal P w K mg base "_law_every" 2 ["wideness", "base"] (sp_law_every K) s_law_every f fd := by
  refine F.cal sc_law_every (fun vs H Q E h => ?_) (fun cdv A outer s H vs Q E hr h => ?_)
  · obtain ⟨w, b, rfl, _⟩ := h
    rfl
  · obtain ⟨w, b, rfl, hb, hw, few, q⟩ := h
    refine ⟨_, (pss_cons (ps_set (i := 2) sc_law_every.nd rfl (by first | exact .inl rfl | exact .inr rfl) (pe_lst (pa_cons (pe_tup pa_nil) pa_nil)))
      (pss_cons (ps_for PassesOwn.never rfl (pi_range1 (by rfl) T.m_range (pa_cons (pv 0) pa_nil)) (pg_name (i := 3) sc_law_every.nd rfl (by first | exact .inl rfl | exact .inr rfl)) (pss_one (ps_set (i := 2) sc_law_every.nd rfl (by first | exact .inl rfl | exact .inr rfl) (pe_call C_law_longer.ok (hr.mono (by decide)) (by rfl) C_law_longer.at_ C_law_longer.kp C_law_longer.b .nil pass0 (pa_cons (pv 2) (pa_cons (pv 1) pa_nil))))))
      (pss_one (ps_ret (pv 2))))), ?_⟩
    walk_at "st"
    intro t0 ht0
    have e0 : upd H t0 (.tup []) t0 = some (.tup []) := upd_same
    have s0 : Same H (upd H t0 (.tup [])) := Same.upd_new ht0
    generalize upd H t0 (.tup []) = H1 at *
    walk_at "st"
    intro l0 hl0
    have el0 : upd H1 l0 (.lst [.ref t0]) l0 = some (.lst [.ref t0]) := upd_same
    have s1 : Same H1 (upd H1 l0 (.lst [.ref t0])) := Same.upd_new hl0
    generalize upd H1 l0 (.lst [.ref t0]) = H2 at *
    walk_at "st"
    refine lp_by (walk_range (lo := 0) (n := Int.toNat ((w : Nat) : Int))) (fun i σ' H' => ∃ m zs x3, σ' = [some (.int (w : Int)), some (.int b), some (.ref m), x3] ∧ Same H H' ∧ H' m = some (.lst zs) ∧ Rws H' zs (everyL b.toNat i))
      ⟨l0, [.ref t0], _, rfl, s0.trans s1, el0, rfl, fun i v e => by
        cases i with
        | zero => exact ⟨[], rfl, t0, (Option.some.inj (show some (V.ref t0) = some v from e)).symm, s1 _ _ e0⟩
        | succ i => simp at e⟩ (fun _ _ _ _ _ => trivial) (fun i x σ' H3 H3' hi z y => ?_) (fun σ' H3 z => ?_)
    · obtain ⟨m, zs, x3, rfl, sm, em, hm⟩ := z
      obtain ⟨rfl, rfl⟩ := y
      have li : i < w := by simpa using hi
      walk_at "st"
      refine ⟨m, b, zs, everyL b.toNat i, rfl, em, hm, hb, ?_, fun r mr => by rw [(every_row (by omega) i r mr).len]; omega, fun m2 zs2 H4 s4 em2 hm2 => ?_⟩
      · rw [every_len, ← Nat.pow_succ]
        exact Nat.le_trans (Nat.pow_le_pow_right (by omega) li) few
      walk_at "st"
      exact ⟨m2, zs2, _, rfl, sm.trans s4, em2, hm2⟩
    · obtain ⟨m, zs, x3, rfl, sm, em, hm⟩ := z
      rw [show Int.toNat ((w : Nat) : Int) = w by omega] at hm
      walk_at "st"
      exact q m zs _ sm em hm
end
local macro_rules | `(tactic| walk_at "st1") => `(tactic| first
  | with_reducible refine r_par ?_
  | with_reducible refine r_parx ?_
  | ((with_reducible refine' r_gtup ?e1 ?e2 ?_); (case e1 => walk_at "sq"); (case e2 => rfl))
  | with_reducible refine r_gcons ?_
  | with_reducible refine r_gnil ?_
  | with_reducible refine r_ient ?_
  | ((with_reducible refine' r_ent ?e1 ?_); (case e1 => walk_at "sq")))
local macro_rules | `(tactic| walk_at "st1") => `(tactic| first
  | with_reducible refine r_izx ?_
  | with_reducible refine r_isq ?_
  | ((with_reducible refine' r_zxt ?e1 ?e2 ?_); (case e1 => walk_at "sq"); (case e2 => walk_at "sq"))
  | ((with_reducible refine' r_zxm ?e1 ?e2 ?_); (case e1 => walk_at "sq"); (case e2 => walk_at "sq"))
  | ((with_reducible refine' r_sqt ?e1 ?_); (case e1 => walk_at "sq"))
  | ((with_reducible refine' r_sql ?e1 ?_); (case e1 => walk_at "sq")))
local macro_rules | `(tactic| walk_at "st1") => `(tactic| first
  | with_reducible refine' r_nt ?_
  | with_reducible refine' r_nf ?_
  | with_reducible refine r_un ?_
  | with_reducible refine r_u ?_)
def sp_law (K : PySem.W.Frag) : Sp := fun vs H Q _ => ∃ (a : Addr) (ns : List Int), vs = [.ref a] ∧ SqL K H a (ns.map .int) ∧ ns.length ≤ 63 ∧ ∀ H', Q (.bl true) H'
theorem Lot.nul {H : Hp} {p : Addr} (h : H p = some (.tup [])) : Lot H p [] := ⟨[], h, rfl, fun i v e => by simp at e⟩
theorem Lot.both {H : Hp} {p q q' : Addr} {r r' : List Int} (h : H p = some (.tup [.ref q, .ref q'])) (hq : H q = some (.tup (r.map .int))) (hq' : H q' = some (.tup (r'.map .int))) : Lot H p [r, r'] := ⟨_, h, rfl, fun i v e => by
  match i with
  | 0 => exact ⟨_, rfl, q, (Option.some.inj (show some (V.ref q) = some v from e)).symm, hq⟩
  | 1 => exact ⟨_, rfl, q', (Option.some.inj (show some (V.ref q') = some v from e)).symm, hq'⟩
  | i + 2 => simp at e⟩
theorem r_diT {d q : Addr} {rows : List (List Int)} {r : List Int} {H : Hp} {Q : VK} (e : H d = some (.dT (KD rows))) (eq : H q = some (.tup (r.map V.int))) (k : Q (.bl (decide (r ∈ rows))) H) : DIx Q (.ref q) (.ref d) H :=
  ⟨d, _, rfl, DGet.t (k := keyR r) e (by rw [keyR_kV]; exact eq), by rw [KD_val]; exact k⟩
section
variable {p : Int} {w : Nat}
theorem dot_zero {A : List (List Int)} {C : List (Nat × List Int)} (hA : ∀ r ∈ A, Row p w r) (n : NulOf p w A C) {r q : List Int} (hr : r ∈ A) (hq : q ∈ C.map (·.2)) : dotL r q % p = 0 := by
  obtain ⟨x, hx, rfl⟩ := List.mem_map.mp hq
  have k := ((n.sp (vec x.2)).mp (.of (List.mem_map.mpr ⟨x, hx, rfl⟩))).nul _ (List.mem_map_of_mem (f := vec) hr)
  rw [← dot_list (hA r hr).len (n.red.row x hx).len] at k
  exact Int.emod_eq_zero_of_dvd k
theorem dot_turn {a b : List Int} (ha : a.length = w) (hb : b.length = w) : dotL a b = dotL b a := by
  rw [dot_list ha hb, dot_list hb ha, dotV_comm]
theorem all_due {A : List (List Int)} {C : List (Nat × List Int)} {all : List (List Int)} (hA : ∀ r ∈ A, Row p w r) (n : NulOf p w A C) (AL : AllOf p w ((C.map (·.2)).map vec) all) {r : List Int} (hr : Row p w r) :
    (∀ q ∈ A, dotL q r % p = 0) ↔ r ∈ all := by
  rw [AL.mem r hr, map_snd_vec, n.sp]
  constructor
  · intro h
    refine ⟨fun i hi => by rw [vec_out (by rw [hr.len]; exact hi)]; exact Int.dvd_zero p, fun u m => ?_⟩
    obtain ⟨q, hq, rfl⟩ := List.mem_map.mp m
    rw [← dot_list (hA q hq).len hr.len]
    exact Int.dvd_of_emod_eq_zero (h q hq)
  · intro k q hq
    rw [dot_list (hA q hq).len hr.len]
    exact Int.emod_eq_zero_of_dvd (k.nul _ (List.mem_map_of_mem (f := vec) hq))
theorem sp_nil {v : Vec} (k : Sp0 p [] v) (i : Nat) : p ∣ v i := by
  cases k with
  | zero e =>
    have h : p ∣ v i - 0 := e i
    rwa [Int.sub_zero] at h
  | add m => cases m
theorem end_red : RedL 3 2 [(0, [1, 0]), (1, [0, 1])] := by
  refine ⟨fun x m => ?_, fun x m => ?_, fun x m i hi => ?_, fun x m y n ne => ?_, by decide⟩
  · simp at m
    rcases m with rfl | rfl <;> exact ⟨rfl, fun y n => by simp at n; omega⟩
  · simp at m
    rcases m with rfl | rfl <;> exact ⟨by decide, rfl⟩
  · simp at m
    rcases m with rfl | rfl
    · exact absurd hi (Nat.not_lt_zero _)
    · have : i = 0 := by
        have hi : i < 1 := hi
        omega
      subst this; rfl
  · simp at m n
    rcases m with rfl | rfl <;> rcases n with rfl | rfl
    · exact absurd rfl ne
    · rfl
    · rfl
    · exact absurd rfl ne
theorem end_one {C : List (Nat × List Int)} (n : NulOf 3 2 [] C) : C = [(0, [1, 0]), (1, [0, 1])] :=
  red_same n.red end_red (by decide) n.rise (by decide) fun v => by
    rw [n.sp]
    constructor
    · intro k
      refine (((Sp0.zero (p := 3) (L := [(0, [1, 0]), (1, [0, 1])].map fun x : Nat × List Int => vec x.2) (Cg.refl fun _ => 0)).plus (.of (r := vec [1, 0]) List.mem_cons_self) (v 0)).plus (.of (r := vec [0, 1]) (List.mem_cons_of_mem _ List.mem_cons_self)) (v 1)).cg fun i => ?_
      show 3 ∣ v i - (0 + v 0 * vec [1, 0] i + v 1 * vec [0, 1] i)
      match i with
      | 0 => exact ⟨0, by show v 0 - (0 + v 0 * 1 + v 1 * 0) = _; omega⟩
      | 1 => exact ⟨0, by show v 1 - (0 + v 0 * 0 + v 1 * 1) = _; omega⟩
      | i + 2 =>
        rw [vec_out (by simp), vec_out (by simp), Int.mul_zero, Int.mul_zero]
        have := k.out (i + 2) (by omega)
        simpa using this
    · intro k
      exact ⟨fun i hi => sp_out (rows := [[1, 0], [0, 1]]) (fun r m => by simp at m; rcases m with rfl | rfl <;> exact ⟨rfl, fun y n => by simp at n; omega⟩) k i hi, fun r m => by cases m⟩
theorem end_two {C : List (Nat × List Int)} (n : NulOf 3 2 [[1, 0], [0, 1]] C) : C = [] := by
  cases C with
  | nil => rfl
  | cons x C =>
    have k := (n.sp (vec x.2)).mp (.of List.mem_cons_self)
    have o := n.red.one x List.mem_cons_self
    have r := n.red.row x List.mem_cons_self
    have k0 : (3 : Int) ∣ dotV 2 (vec [1, 0]) (vec x.2) := k.nul _ (by simp)
    have k1 : (3 : Int) ∣ dotV 2 (vec [0, 1]) (vec x.2) := k.nul _ (by simp)
    have e0 : dotV 2 (vec [1, 0]) (vec x.2) = vec x.2 0 := by
      show ([0, 1].map fun i => vec [1, 0] i * vec x.2 i).sum = _
      show 1 * vec x.2 0 + (0 * vec x.2 1 + 0) = _
      omega
    have e1 : dotV 2 (vec [0, 1]) (vec x.2) = vec x.2 1 := by
      show ([0, 1].map fun i => vec [0, 1] i * vec x.2 i).sum = _
      show 0 * vec x.2 0 + (1 * vec x.2 1 + 0) = _
      omega
    rw [e0] at k0
    rw [e1] at k1
    have c : x.1 = 0 ∨ x.1 = 1 := by have := o.1; omega
    rcases c with c | c
    · have := o.2; rw [c] at this; rw [this] at k0; exact absurd k0 (by decide)
    · have := o.2; rw [c] at this; rw [this] at k1; exact absurd k1 (by decide)
end
section
variable {P : Program} {w : World} {K : PySem.W.Frag} {mg : Str → Option Value} {base : Heap}
set_option maxHeartbeats 0 in
theorem ok_law (T : Tx K mg) {f_law_state : Addr} {fd_law_state : FuncData} (C_law_state : Cal P w K mg base "_law_state" 1 ["script"] (sp_law_state K) s_law_state f_law_state fd_law_state) {f_law_prime : Addr} {fd_law_prime : FuncData} (C_law_prime : Cal P w K mg base "_law_prime" 2 ["state"] (sp_law_prime K) s_law_prime f_law_prime fd_law_prime) {f_law_rows : Addr} {fd_law_rows : FuncData} (C_law_rows : Cal P w K mg base "_law_rows" 3 ["state", "wideness", "base", "many"] (sp_law_rows K) s_law_rows f_law_rows fd_law_rows) {f_nulls_of : Addr} {fd_nulls_of : FuncData} (C_nulls_of : Cal P w K mg base "nulls_of" 4 ["rows", "width", "p"] (sp_nulls_of K) s_nulls_of f_nulls_of fd_nulls_of) {f_law_product : Addr} {fd_law_product : FuncData} (C_law_product : Cal P w K mg base "_law_product" 1 ["line", "two", "base"] (sp_law_product K) s_law_product f_law_product fd_law_product) {f_law_is_few : Addr} {fd_law_is_few : FuncData} (C_law_is_few : Cal P w K mg base "_law_is_few" 1 ["base", "times"] (sp_law_is_few K) s_law_is_few f_law_is_few fd_law_is_few) {f_law_draw : Addr} {fd_law_draw : FuncData} (C_law_draw : Cal P w K mg base "_law_draw" 1 ["state", "many"] (sp_law_draw K) s_law_draw f_law_draw fd_law_draw) {f_law_row : Addr} {fd_law_row : FuncData} (C_law_row : Cal P w K mg base "_law_row" 2 ["state", "wideness", "base"] (sp_law_row K) s_law_row f_law_row fd_law_row) {f_law_all : Addr} {fd_law_all : FuncData} (C_law_all : Cal P w K mg base "_law_all" 2 ["lot", "wideness", "base"] (sp_law_all K) s_law_all f_law_all fd_law_all) {f_law_every : Addr} {fd_law_every : FuncData} (C_law_every : Cal P w K mg base "_law_every" 2 ["wideness", "base"] (sp_law_every K) s_law_every f_law_every fd_law_every) {f_law_alike : Addr} {fd_law_alike : FuncData} (C_law_alike : Cal P w K mg base "_law_alike" 1 ["told", "wanted"] (sp_law_alike K) s_law_alike f_law_alike fd_law_alike) {f_product_of : Addr} {fd_product_of : FuncData} (C_product_of : Cal P w K mg base "product_of" 1 ["row", "other", "p"] (sp_product_of K) s_product_of f_product_of fd_product_of) {f_law_reduced : Addr} {fd_law_reduced : FuncData} (C_law_reduced : Cal P w K mg base "_law_reduced" 2 ["lot", "wideness", "base"] (sp_law_reduced K) s_law_reduced f_law_reduced fd_law_reduced) {f : Addr} {fd : FuncData} (F : Here K mg "law" s_law ["script"] f fd) : Cal P w K mg base "law" 5 ["script"] (sp_law K) s_law f fd := by
  refine F.cal sc_law (fun vs H Q E h => ?_) (fun cdv A outer s H vs Q E hr h => ?_)
  · obtain ⟨a, ns, rfl, _⟩ := h
    rfl
  · obtain ⟨a, ns, rfl, hS, hlen, q⟩ := h
    refine ⟨_, (pss_cons (ps_set (i := 1) sc_law.nd rfl (by first | exact .inl rfl | exact .inr rfl) (pe_call C_law_state.ok (hr.mono (by decide)) (by rfl) C_law_state.at_ C_law_state.kp C_law_state.b .nil pass0 (pa_cons (pv 0) pa_nil)))
      (pss_cons (ps_for PassesOwn.never rfl (pi_range1 (by rfl) T.m_range (pa_cons pe_int pa_nil)) (pg_name (i := 2) sc_law.nd rfl (by first | exact .inl rfl | exact .inr rfl)) (pss_cons (ps_set (i := 3) sc_law.nd rfl (by first | exact .inl rfl | exact .inr rfl) (pe_call C_law_prime.ok (hr.mono (by decide)) (by rfl) C_law_prime.at_ C_law_prime.kp C_law_prime.b .nil pass0 (pa_cons (pv 1) pa_nil)))
      (pss_cons (ps_set (i := 4) sc_law.nd rfl (by first | exact .inl rfl | exact .inr rfl) (pe_op op_add pe_int (pe_call C_law_draw.ok (hr.mono (by decide)) (by rfl) C_law_draw.at_ C_law_draw.kp C_law_draw.b .nil pass0 (pa_cons (pv 1) (pa_cons (pe_ix (ix_listK (K := K)) (pe_lst (pa_cons pe_int (pa_cons pe_int (pa_cons pe_int (pa_cons pe_int pa_nil))))) (pe_call C_law_draw.ok (hr.mono (by decide)) (by rfl) C_law_draw.at_ C_law_draw.kp C_law_draw.b .nil pass0 (pa_cons (pv 1) (pa_cons pe_int pa_nil))) (fun _ _ => rfl)) pa_nil)))))
      (pss_cons (ps_set (i := 5) sc_law.nd rfl (by first | exact .inl rfl | exact .inr rfl) (pe_call C_law_rows.ok (hr.mono (by decide)) (by rfl) C_law_rows.at_ C_law_rows.kp C_law_rows.b .nil pass0 (pa_cons (pv 1) (pa_cons (pv 4) (pa_cons (pv 3) (pa_cons (pe_call C_law_draw.ok (hr.mono (by decide)) (by rfl) C_law_draw.at_ C_law_draw.kp C_law_draw.b .nil pass0 (pa_cons (pv 1) (pa_cons pe_int pa_nil))) pa_nil))))))
      (pss_cons (ps_set (i := 6) sc_law.nd rfl (by first | exact .inl rfl | exact .inr rfl) (pe_call C_nulls_of.ok (hr.mono (by decide)) (by rfl) C_nulls_of.at_ C_nulls_of.kp C_nulls_of.b .nil pass0 (pa_cons (pv 5) (pa_cons (pv 4) (pa_cons (pv 3) pa_nil)))))
      (pss_cons (ps_if (PW.pt (pw_or (pt_not (pt_val (pe_call C_law_alike.ok (hr.mono (by decide)) (by rfl) C_law_alike.at_ C_law_alike.kp C_law_alike.b .nil pass0 (pa_cons (pv 6) (pa_cons (pe_call C_law_reduced.ok (hr.mono (by decide)) (by rfl) C_law_reduced.at_ C_law_reduced.kp C_law_reduced.b .nil pass0 (pa_cons (pv 6) (pa_cons (pv 4) (pa_cons (pv 3) pa_nil)))) pa_nil))))) (pw_or1 (pt_cmpR (op_neDK (K := K) (hu_of64 hr)) (pe_callK0 C_nulls_of.ok (hr.mono (by decide)) (by rfl) C_nulls_of.at_ C_nulls_of.kp (kb_perm (us0 := 0) (ws0 := 3) (is := [2, 1, 0]) (by simp) (fun us ws h1 h2 => kb_nulls_of_2_1_0 C_nulls_of.fn us ws h1 h2)) pass0 (pk_cons (pv 3) (pk_cons (pv 4) (pk_cons (pv 5) pk_nil)))) (pv 6) (nomark _))))) (pss_one (ps_ret pe_bl)) pss_nil)
      (pss_cons (ps_if (pt_cmpR op_ne (pe_callB (cr_lenK (K := K)) (by rfl) T.m_len (by decide +kernel) (pa_cons (pv 6) pa_nil)) (pe_op op_sub (pv 4) (pe_callB (cr_lenK (K := K)) (by rfl) T.m_len (by decide +kernel) (pa_cons (pe_call C_law_reduced.ok (hr.mono (by decide)) (by rfl) C_law_reduced.at_ C_law_reduced.kp C_law_reduced.b .nil pass0 (pa_cons (pv 5) (pa_cons (pv 4) (pa_cons (pv 3) pa_nil)))) pa_nil))) (nomark _)) (pss_one (ps_ret pe_bl)) pss_nil)
      (pss_cons (ps_for PassesOwn.never rfl (pi_tupK (K := K) (pv 5)) (pg_name (i := 7) sc_law.nd rfl (by first | exact .inl rfl | exact .inr rfl)) (pss_one (ps_for PassesOwn.never rfl (pi_tupK (K := K) (pv 6)) (pg_name (i := 8) sc_law.nd rfl (by first | exact .inl rfl | exact .inr rfl)) (pss_one (ps_if (PW.pt (pw_or (pt_cmpR op_ne (pe_call C_product_of.ok (hr.mono (by decide)) (by rfl) C_product_of.at_ C_product_of.kp C_product_of.b .nil pass0 (pa_cons (pv 7) (pa_cons (pv 8) (pa_cons (pv 3) pa_nil)))) pe_int (nomark _)) (pw_or1 (pt_cmpR op_ne (pe_call C_law_product.ok (hr.mono (by decide)) (by rfl) C_law_product.at_ C_law_product.kp C_law_product.b .nil pass0 (pa_cons (pv 7) (pa_cons (pv 8) (pa_cons (pv 3) pa_nil)))) pe_int (nomark _))))) (pss_one (ps_ret pe_bl)) pss_nil)))))
      (pss_cons (ps_par (i := 9) (j := 8) rfl sc_law.nd rfl rfl (by decide) rfl rfl (pa_cons (pe_call C_law_row.ok (hr.mono (by decide)) (by rfl) C_law_row.at_ C_law_row.kp C_law_row.b .nil pass0 (pa_cons (pv 1) (pa_cons (pv 4) (pa_cons (pv 3) pa_nil)))) (pa_cons (pe_call C_law_row.ok (hr.mono (by decide)) (by rfl) C_law_row.at_ C_law_row.kp C_law_row.b .nil pass0 (pa_cons (pv 1) (pa_cons (pv 4) (pa_cons (pv 3) pa_nil)))) pa_nil)) (by rfl))
      (pss_cons (ps_set (i := 10) sc_law.nd rfl (by first | exact .inl rfl | exact .inr rfl) (pe_call C_law_product.ok (hr.mono (by decide)) (by rfl) C_law_product.at_ C_law_product.kp C_law_product.b .nil pass0 (pa_cons (pv 9) (pa_cons (pv 8) (pa_cons (pv 3) pa_nil)))))
      (pss_cons (ps_if (PW.pt (pw_or (pt_cmpR op_ne (pe_call C_product_of.ok (hr.mono (by decide)) (by rfl) C_product_of.at_ C_product_of.kp C_product_of.b .nil pass0 (pa_cons (pv 9) (pa_cons (pv 8) (pa_cons (pv 3) pa_nil)))) (pv 10) (nomark _)) (pw_or1 (pt_cmpR op_ne (pe_callK0 C_product_of.ok (hr.mono (by decide)) (by rfl) C_product_of.at_ C_product_of.kp (kb_perm (us0 := 0) (ws0 := 3) (is := [2, 1, 0]) (by simp) (fun us ws h1 h2 => kb_product_of_2_1_0 C_product_of.fn us ws h1 h2)) pass0 (pk_cons (pv 3) (pk_cons (pv 9) (pk_cons (pv 8) pk_nil)))) (pv 10) (nomark _))))) (pss_one (ps_ret pe_bl)) pss_nil)
      (pss_one (ps_if (pt_val (pe_call C_law_is_few.ok (hr.mono (by decide)) (by rfl) C_law_is_few.at_ C_law_is_few.kp C_law_is_few.b .nil pass0 (pa_cons (pv 3) (pa_cons (pv 4) pa_nil)))) (pss_cons (ps_set (i := 11) sc_law.nd rfl (by first | exact .inl rfl | exact .inr rfl) (pe_call C_law_all.ok (hr.mono (by decide)) (by rfl) C_law_all.at_ C_law_all.kp C_law_all.b .nil pass0 (pa_cons (pv 6) (pa_cons (pv 4) (pa_cons (pv 3) pa_nil)))))
      (pss_one (ps_for PassesOwn.never rfl (pi_listK (K := K) (pe_call C_law_every.ok (hr.mono (by decide)) (by rfl) C_law_every.at_ C_law_every.kp C_law_every.b .nil pass0 (pa_cons (pv 4) (pa_cons (pv 3) pa_nil)))) (pg_name (i := 12) sc_law.nd rfl (by first | exact .inl rfl | exact .inr rfl)) (pss_cons (ps_set (i := 13) sc_law.nd rfl (by first | exact .inl rfl | exact .inr rfl) (pe_cmpR (op_eqNilK (K := K) (hu_of64 hr)) (pe_lc rfl sc_law.nd (pi_tupK (K := K) (pv 5)) (blkOk_by (own := [("line", 7)]) (N := ["script", "state", "turn", "base", "wide", "lot", "told", "line", "two", "first", "due", "known", "there", "nought"]) (sc := (defScope s_law)) (by decide +kernel)) (fun _ _ _ _ _ => (pg_name (i := 7) sc_law.nd rfl (by first | exact .inl rfl | exact .inr rfl))) (fun _ _ _ _ _ => (pts_one (pt_cmpR op_ne (pe_call C_law_product.ok (hr.mono (by decide)) (by rfl) C_law_product.at_ C_law_product.kp C_law_product.b .nil pass0 (pa_cons (pv 7) (pa_cons (pv 12) (pa_cons (pv 3) pa_nil)))) pe_int (nomark _)))) (fun _ _ _ _ _ => (pv 7))) (pe_lst pa_nil) (nomark _)))
      (pss_one (ps_if (pt_cmpR op_ne (pv 13) (pe_cmp (pc_din (hu_of hr) (pv 12) (pv 11)) rfl) (nomark _)) (pss_one (ps_ret pe_bl)) pss_nil)))))) pss_nil)))))))))))))
      (pss_one (ps_ret (pe_and (pe_cmpR (op_eqDK (K := K) (hu_of64 hr)) (pe_call C_nulls_of.ok (hr.mono (by decide)) (by rfl) C_nulls_of.at_ C_nulls_of.kp C_nulls_of.b .nil pass0 (pa_cons (pe_tup pa_nil) (pa_cons pe_int (pa_cons pe_int pa_nil)))) (pe_tup (pa_cons (pe_tup (pa_cons pe_int (pa_cons pe_int pa_nil))) (pa_cons (pe_tup (pa_cons pe_int (pa_cons pe_int pa_nil))) pa_nil))) (nomark _)) (pe_one (pe_cmpR (op_eqDK (K := K) (hu_of64 hr)) (pe_call C_nulls_of.ok (hr.mono (by decide)) (by rfl) C_nulls_of.at_ C_nulls_of.kp C_nulls_of.b .nil pass0 (pa_cons (pe_tup (pa_cons (pe_tup (pa_cons pe_int (pa_cons pe_int pa_nil))) (pa_cons (pe_tup (pa_cons pe_int (pa_cons pe_int pa_nil))) pa_nil))) (pa_cons pe_int (pa_cons pe_int pa_nil)))) (pe_tup pa_nil) (nomark _)))))))), ?_⟩
    walk_at "st"
    refine ⟨a, ns, rfl, hS, hlen, fun s c H1 s1 st1 => ?_⟩
    walk_at "st"
    refine lp_by (walk_range (lo := 0) (n := Int.toNat 4)) (fun i σ' H' => ∃ x2 x3 x4 x5 x6 x7 x8 x9 x10 x11 x12 x13, σ' = [some (.ref a), some (.ref s), x2, x3, x4, x5, x6, x7, x8, x9, x10, x11, x12, x13] ∧ St s c H') ⟨_, _, _, _, _, _, _, _, _, _, _, _, rfl, st1⟩ (fun _ _ _ _ _ => trivial) (fun i x σ' H2 H2' hi p y => ?_) (fun σ' H2 p => ?_)
    · obtain ⟨x2, x3, x4, x5, x6, x7, x8, x9, x10, x11, x12, x13, rfl, st2⟩ := p
      obtain ⟨rfl, rfl⟩ := y
      walk_at "st"
      refine ⟨s, c, rfl, st2, fun b H3 k3 st3 hb5 => ?_⟩
      have hb5 : b ∈ primes5 := hb5
      have hb := prime5_le hb5
      have b0 : 0 < b := by omega
      walk_at "st"
      intro l hl
      have ol := st3.out hl
      walk_at "st"
      refine ⟨s, c, 4, rfl, by walk_at "stt", by omega, fun d6 H6 k6 st6 hd6 => ?_⟩
      obtain ⟨v6, ev6, hv6⟩ := atI_in (xs := [V.int 3, V.int 7, V.int 7, V.int 120]) hd6.1 (by simpa using hd6.2)
      walk_at "st"
      obtain ⟨n6, rfl, hn6⟩ : ∃ n, v6 = .int n ∧ (1 ≤ n ∧ n ≤ 120) := by
        simp at hv6
        rcases hv6 with h | h | h <;> exact ⟨_, h, by omega⟩
      refine ⟨s, c, n6, rfl, st6, by omega, fun d7 H7 k7 st7 hd7 => ?_⟩
      walk_at "st"
      obtain ⟨wd, ew⟩ : ∃ w : Nat, 1 + d7 = (w : Int) := ⟨(1 + d7).toNat, by omega⟩
      rw [ew]
      have hwd : 1 ≤ wd ∧ wd ≤ 120 := by omega
      refine ⟨s, c, 8, rfl, st7, by omega, fun d8 H8 k8 st8 hd8 => ?_⟩
      walk_at "st"
      refine ⟨s, c, wd, b, d8, rfl, st8, by omega, hb, by omega, fun pl ul rows H9 k9 st9 npl epl Rl hrl => ?_⟩
      have eL : Rws H9 ul rows := Rl.rws
      have okL : ∀ r ∈ rows, Row b wd r := fun r m => ⟨by have := (hrl.2 r m).1; omega, (hrl.2 r m).2⟩
      have lL : rows.length ≤ 8 := by have := hrl.1; omega
      clear k3 k6 k7 k8 k9 st2 st3 st6 st7 st8 npl Rl hrl ev6 hv6 hn6 hd6 hd7 ew hl ol
      walk_at "st"
      refine ⟨pl, b, wd, ul, rows, rfl, epl, eL, hb5, by omega, by omega, okL, fun pt ut C HA sA eA hA lA nA => ?_⟩
      have stA := st9.same sA
      have eLA := eL.same sA
      have epA := sA _ _ epl
      have okC := nA.red.rowsW
      have lC : (C.map (·.2)).length = C.length := List.length_map ..
      walk_at "st"
      walk_at "if"
      refine ⟨pt, wd, b, ut, C.map (·.2), rfl, .inl eA, hA, hb5, by omega, by omega, okC, fun c2 zs2 C2 HB sB _ ec2 hC2 rC2 => ?_⟩
      have e1 : C2 = C := red_same rC2.red nA.red hb.1 rC2.rise nA.rise fun v => by rw [rC2.sp v, map_snd_vec]
      subst e1
      walk_at "st"
      refine ⟨pt, c2, ut, zs2, C2.map (·.2), rfl, sB _ _ eA, ec2, hA.same sB, hC2, by omega, fun r m => by rw [(okC r m).len]; omega, fun HC sC => ?_⟩
      have SC := sB.trans sC
      walk_at "st"
      refine ⟨pl, b, wd, ul, rows, rfl, SC _ _ epA, eLA.same SC, hb5, by omega, by omega, okL, fun p3 u3 C3 HD sD e3 h3 l3 n3 => ?_⟩
      have e2 : C3 = C2 := red_same n3.red nA.red hb.1 n3.rise nA.rise fun v => by rw [n3.sp v, nA.sp v]
      subst e2
      have SD := SC.trans sD
      walk_at "st"
      refine r_neR e3 h3 (SD _ _ eA) (hA.same SD) ?_
      walk_at "st"
      rw [if_neg (by simp)]
      walk_at "st"
      walk_at "if"
      refine ⟨pl, wd, b, ul, rows, rfl, .inl (SD _ _ epA), eLA.same SD, hb5, by omega, by omega, okL, fun p4 u4 B HE sE _ e4 h4 rB => ?_⟩
      have dim : wd = B.length + C3.length := dim_null hb.1 (inv5 hb5) rB.red nA.red fun v => by
        rw [nA.sp v]
        exact (Nul.eqv rB.sp v).symm
      have SE := SD.trans sE
      have epE := SE _ _ epA
      have eLE := eLA.same SE
      have etE := SE _ _ eA
      have hTE := hA.same SE
      have stE := stA.same SE
      have lul : ul.length = rows.length := eL.1
      have lut : ut.length = C3.length := by rw [hA.1, List.length_map]
      have lu4 : u4.length = B.length := by rw [h4.1, List.length_map]
      walk_at "st"
      rw [if_neg (by rw [lut, lu4]; simp; omega)]
      clear sA sB sC sD sE SC SD SE st9 stA e3 h3 e4 h4 ec2 hC2 eA hA eLA epA epl eL rC2 n3 l3
      walk_at "st"
      refine lp_by (walk_tup (a := pl) (xs := ul)) (fun j σ' H' => ∃ x7 x8, σ' = [some (.ref a), some (.ref s), some (.int (0 + (i : Int))), some (.int b), some (.int (wd : Int)), some (.ref pl), some (.ref pt), x7, x8, x9, x10, x11, x12, x13] ∧ Same HE H')
        ⟨_, _, rfl, Same.refl _⟩ (fun j σ' H' _ z => SqT.of (z.choose_spec.choose_spec.2 _ _ epE)) (fun j x σ' HX HX' hj z y => ?_) (fun σ' HX z => ?_)
      · obtain ⟨y7, y8, rfl, sm⟩ := z
        obtain ⟨rfl, ex⟩ := y
        obtain ⟨r, er, cr, rfl, hcr⟩ := (eLE.same sm).2 j x ex
        have mr := List.mem_of_getElem? er
        have rr := okL r mr
        have etX := sm _ _ etE
        walk_at "st"
        refine lp_by (walk_tup (a := pt) (xs := ut)) (fun k σ' H' => ∃ x8, σ' = [some (.ref a), some (.ref s), some (.int (0 + (i : Int))), some (.int b), some (.int (wd : Int)), some (.ref pl), some (.ref pt), some (.ref cr), x8, x9, x10, x11, x12, x13] ∧ Same HX' H')
          ⟨_, rfl, Same.refl _⟩ (fun k σ' H' _ z => SqT.of (z.choose_spec.2 _ _ etX)) (fun k x σ' HY HY' hk z y => ?_) (fun σ' HY z => ?_)
        · obtain ⟨z8, rfl, sm2⟩ := z
          obtain ⟨rfl, ex2⟩ := y
          obtain ⟨r2, er2, cq, rfl, hcq⟩ := ((hTE.same sm).same sm2).2 k x ex2
          have mq := List.mem_of_getElem? er2
          have z := dot_zero okL nA mr mq
          have hcr2 := sm2 _ _ hcr
          walk_at "st"
          walk_at "if"
          refine ⟨cr, cq, r, r2, b, rfl, hcr2, hcq, by rw [rr.len]; omega, hb, rr.num, fun HZ sZ => ?_⟩
          rw [z]
          walk_at "st"
          refine r_iteB (fun h => by simp at h) (fun _ => ?_)
          walk_at "st"
          refine ⟨cr, cq, r, r2, b, rfl, sZ _ _ hcr2, sZ _ _ hcq, by rw [rr.len]; omega, hb, rr.num, fun HW sW => ?_⟩
          rw [z]
          walk_at "st"
          refine r_iteB (fun h => by simp at h) (fun _ => ?_)
          walk_at "st"
          exact ⟨_, rfl, sm2.trans (sZ.trans sW)⟩
        · obtain ⟨z8, rfl, sm2⟩ := z
          walk_at "st"
          exact ⟨_, _, rfl, sm.trans sm2⟩
      · obtain ⟨y7, y8, rfl, sm⟩ := z
        have stX := stE.same sm
        replace epE := sm _ _ epE
        replace eLE := eLE.same sm
        replace etE := sm _ _ etE
        replace hTE := hTE.same sm
        clear sm stE
        walk_at "st"
        refine ⟨s, c, wd, b, rfl, stX, by omega, hb, fun p1 n1 HA kA stA np1 ep1 hn1 => ?_⟩
        walk_at "st"
        refine ⟨s, c, wd, b, rfl, stA, by omega, hb, fun p2 n2 HB kB stB np2 ep2 hn2 => ?_⟩
        have r1 : Row b wd n1 := ⟨by have := hn1.1; omega, hn1.2⟩
        have r2 : Row b wd n2 := ⟨by have := hn2.1; omega, hn2.2⟩
        have LL : Lot HB pl rows := (Lot.kpSt ⟨ul, epE, eLE⟩ kA stX).kpSt kB stA
        have LT : Lot HB pt (C3.map (·.2)) := (Lot.kpSt ⟨ut, etE, hTE⟩ kA stX).kpSt kB stA
        have ep1B := kB _ _ ep1 (stA.tupOut ep1)
        clear epE eLE etE hTE kA kB stX stA np1 np2 hn1 hn2 ep1
        have dt := dot_turn r2.len r1.len
        walk_at "st"
        refine ⟨p1, p2, n1, n2, b, rfl, ep1B, ep2, by rw [r1.len]; omega, hb, r1.num, fun HC sC => ?_⟩
        walk_at "st"
        walk_at "if"
        refine ⟨p1, p2, n1, n2, b, rfl, sC _ _ ep1B, sC _ _ ep2, by rw [r1.len]; omega, hb, r1.num, fun HD sD => ?_⟩
        have SD := sC.trans sD
        walk_at "st"
        refine r_iteB (fun h => by simp at h) (fun _ => ?_)
        walk_at "st"
        refine ⟨p2, p1, n2, n1, b, rfl, SD _ _ ep2, SD _ _ ep1B, by rw [r2.len]; omega, hb, r2.num, fun HF sF => ?_⟩
        rw [dt]
        walk_at "st"
        refine r_iteB (fun h => by simp at h) (fun _ => ?_)
        have stF := stB.same (SD.trans sF)
        replace LL := LL.same (SD.trans sF)
        replace LT := LT.same (SD.trans sF)
        clear SD sC sD sF stB ep1B ep2 dt r1 r2
        walk_at "st"
        walk_at "if"
        refine ⟨b, wd, rfl, hb, fun HG sG => ?_⟩
        have stG := stF.same sG
        by_cases few : b.toNat ^ min wd 12 ≤ 400
        · rw [decide_eq_true few]
          have few2 := few_all hb.1 few
          obtain ⟨ul2, epl, RL⟩ := LL.same sG
          obtain ⟨ut2, ept, RT⟩ := LT.same sG
          clear LL LT stF sG
          have lut2 : ut2.length = C3.length := by rw [RT.1, List.length_map]
          have lul2 : ul2.length = rows.length := RL.1
          walk_at "st"
          refine ⟨pt, wd, b, ut2, C3.map (·.2), rfl, ept, RT, hb5, by omega, ?_, okC, fun d all HD sD nd ed AL l => ?_⟩
          · rw [List.length_map]
            exact Nat.le_trans (Nat.pow_le_pow_right (by omega) (show C3.length ≤ wd by omega)) few2
          walk_at "st"
          refine ⟨wd, b, rfl, hb, by omega, few2, fun m zs HE' sE em hm => ?_⟩
          have SE := sD.trans sE
          have eplE := SE _ _ epl
          have RLE := RL.same SE
          have edE := sE _ _ ed
          have stE := stG.same SE
          clear SE sE sD ed epl RL ept RT nd stG
          walk_at "st"
          refine lp_by (walk_list (a := m) (xs := zs)) (fun j σ' H' => ∃ x7 x12 x13, σ' = [some (.ref a), some (.ref s), some (.int (0 + (i : Int))), some (.int b), some (.int (wd : Int)), some (.ref pl), some (.ref pt), x7, some (.ref p2), some (.ref p1), some (.int (dotL n1 n2 % b)), some (.ref d), x12, x13] ∧ Same HE' H')
            ⟨_, _, _, rfl, Same.refl _⟩ (fun j σ' H' _ z => by obtain ⟨_, _, _, _, z1⟩ := z; exact SqL.of (z1 _ _ em)) (fun j x σ' HX HX' hj z y => ?_) (fun σ' HX z => ?_)
          · obtain ⟨z7, z12, z13, rfl, sm⟩ := z
            obtain ⟨rfl, ex⟩ := y
            obtain ⟨r, er, cr, rfl, hcr⟩ := (hm.same sm).2 j x ex
            have rr := every_row (show 0 ≤ b by omega) wd r (List.mem_of_getElem? er)
            have eplX := sm _ _ eplE
            have RLX := RLE.same sm
            walk_at "st"
            intro D hD
            refine lc_filt (walk_tup (a := pl) (xs := ul2)) (by omega) hD (fun k => !decide (dotL (rows.getD k []) r % b = 0)) (fun H' k => SqT.of (k _ _ eplX)) (fun i H1 x H2 y => by rw [y.1]; exact Same.refl _)
              (fun k x HQ HR' Y No hk sm2 y hY hN => ?_) (fun ys HQ ey ly sm2 eD => ?_)
            · obtain ⟨rfl, ex⟩ := y
              obtain ⟨r2, er2, pr⟩ := RLX.2 k x ex
              obtain ⟨g, rfl, hg⟩ := pr.same sm2
              have rr2 := okL r2 (List.mem_of_getElem? er2)
              have gd : rows.getD k [] = r2 := by rw [List.getD_eq_getElem?_getD, er2]; rfl
              rw [gd] at hY hN
              refine ⟨rfl, ?_⟩
              walk_at "st"
              refine ⟨g, cr, r2, r, b, rfl, hg, sm2 _ _ hcr, by rw [rr2.len]; omega, hb, rr2.num, fun HT sT => ?_⟩
              walk_at "st"
              have ed : decide (V.int (dotL r2 r % b) = V.int 0) = decide (dotL r2 r % b = 0) := decide_eq_decide.mpr ⟨fun h => by injection h, fun h => by rw [h]⟩
              rw [ed]
              cases hd : decide (dotL r2 r % b = 0) with
              | true =>
                rw [hd] at hN
                walk_at "st"
                exact hN rfl _ sT
              | false =>
                rw [hd] at hY
                walk_at "st"
                exact hY rfl _ _ sT
            have ey2 : ys.isEmpty = decide (r ∈ all) := by
              rw [ey, Bool.eq_iff_iff, List.all_eq_true, decide_eq_true_iff, ← all_due okL nA AL rr]
              have gd : ∀ k (h : k < rows.length), rows.getD k [] = rows[k] := fun k h => by rw [List.getD_eq_getElem?_getD, List.getElem?_eq_getElem h]; rfl
              constructor
              · intro h q hq
                obtain ⟨k, hk, e⟩ := List.getElem_of_mem hq
                have h2 := h k (List.mem_range.mpr (by omega))
                rw [Bool.not_not, gd k hk, e] at h2
                exact of_decide_eq_true h2
              · intro h k hk
                have hk := List.mem_range.mp hk
                rw [Bool.not_not, gd k (by omega)]
                exact decide_eq_true (h _ (List.getElem_mem _))
            walk_at "st"
            intro ln hln
            have eD2 := hl_new (u := .lst []) eD hln
            have sm3 : Same HX' (upd HQ ln (.lst [])) := sm2.trans (Same.upd_new hln)
            have eln : upd HQ ln (.lst []) ln = some (.lst []) := upd_same
            generalize upd HQ ln (.lst []) = HU at *
            walk_at "st"
            rw [ey2]
            walk_at "if"
            try (refine r_din ?_; walk_at "st")
            refine r_diT (sm3 _ _ (sm _ _ edE)) (sm3 _ _ hcr) ?_
            walk_at "st"
            refine r_iteB (fun h => by simp at h) (fun _ => ?_)
            walk_at "st"
            exact ⟨_, _, _, rfl, sm.trans sm3⟩
          · obtain ⟨z7, z12, z13, rfl, sm⟩ := z
            exact ⟨_, _, _, _, _, _, _, _, _, _, _, _, rfl, stE.same sm⟩
        · rw [decide_eq_false few]
          walk_at "st"
          exact ⟨_, _, _, _, _, _, _, _, _, _, _, _, rfl, stG⟩
    · obtain ⟨x2, x3, x4, x5, x6, x7, x8, x9, x10, x11, x12, x13, rfl, st2⟩ := p
      walk_at "st"
      intro q0 hq0
      have e0 : upd H2 q0 (.tup []) q0 = some (.tup []) := upd_same
      generalize upd H2 q0 (.tup []) = H3 at *
      obtain ⟨u0, f0, R0⟩ := Lot.nul e0
      walk_at "st"
      refine ⟨q0, 3, 2, u0, [], rfl, f0, R0, by decide, by decide, by decide, fun r m => (by cases m), fun c zs C HX sX ec hC lC nC => ?_⟩
      have eC := end_one nC
      subst eC
      walk_at "st"
      intro q1 hq1
      have e1 : upd HX q1 (.tup [.int 1, .int 0]) q1 = some (.tup [.int 1, .int 0]) := upd_same
      have s1' : Same HX (upd HX q1 (.tup [.int 1, .int 0])) := Same.upd_new hq1
      generalize upd HX q1 (.tup [.int 1, .int 0]) = H4 at *
      walk_at "st"
      intro q2 hq2
      have e2 : upd H4 q2 (.tup [.int 0, .int 1]) q2 = some (.tup [.int 0, .int 1]) := upd_same
      have s2' : Same H4 (upd H4 q2 (.tup [.int 0, .int 1])) := Same.upd_new hq2
      generalize upd H4 q2 (.tup [.int 0, .int 1]) = H5 at *
      walk_at "st"
      intro q3 hq3
      have e3 : upd H5 q3 (.tup [.ref q1, .ref q2]) q3 = some (.tup [.ref q1, .ref q2]) := upd_same
      have s3' : Same H5 (upd H5 q3 (.tup [.ref q1, .ref q2])) := Same.upd_new hq3
      generalize upd H5 q3 (.tup [.ref q1, .ref q2]) = H6 at *
      obtain ⟨u3, f3, R3⟩ := Lot.both (r := [1, 0]) (r' := [0, 1]) e3 (s3' _ _ (s2' _ _ e1)) (s3' _ _ e2)
      refine r_eqR (s3' _ _ (s2' _ _ (s1' _ _ ec))) (hC.same ((s1'.trans s2').trans s3')) f3 R3 ?_
      rw [show decide (List.map (fun x : Nat × List Int => x.2) [(0, [(1 : Int), 0]), (1, [0, 1])] = [[1, 0], [0, 1]]) = true from rfl]
      clear e0 f0 R0 ec hC e1 e2 e3 f3 R3 s1' s2' s3'
      walk_at "st"
      intro q4 hq4
      have e1 : upd H6 q4 (.tup [.int 1, .int 0]) q4 = some (.tup [.int 1, .int 0]) := upd_same
      generalize upd H6 q4 (.tup [.int 1, .int 0]) = H7 at *
      walk_at "st"
      intro q5 hq5
      have e2 : upd H7 q5 (.tup [.int 0, .int 1]) q5 = some (.tup [.int 0, .int 1]) := upd_same
      have s2' : Same H7 (upd H7 q5 (.tup [.int 0, .int 1])) := Same.upd_new hq5
      generalize upd H7 q5 (.tup [.int 0, .int 1]) = H8 at *
      walk_at "st"
      intro q6 hq6
      have e3 : upd H8 q6 (.tup [.ref q4, .ref q5]) q6 = some (.tup [.ref q4, .ref q5]) := upd_same
      have s3' : Same H8 (upd H8 q6 (.tup [.ref q4, .ref q5])) := Same.upd_new hq6
      generalize upd H8 q6 (.tup [.ref q4, .ref q5]) = H9 at *
      obtain ⟨u3, f3, R3⟩ := Lot.both (r := [1, 0]) (r' := [0, 1]) e3 (s3' _ _ (s2' _ _ e1)) (s3' _ _ e2)
      walk_at "st"
      refine ⟨q6, 3, 2, u3, [[1, 0], [0, 1]], rfl, f3, R3, by decide, by decide, by decide, fun r m => (by simp at m; rcases m with rfl | rfl <;> exact ⟨rfl, fun y n => by simp at n; omega⟩), fun c5 zs5 C5 HZ sZ ec5 hC5 lC5 nC5 => ?_⟩
      have eC := end_two nC5
      subst eC
      walk_at "st"
      intro q7 hq7
      have e7 : upd HZ q7 (.tup []) q7 = some (.tup []) := upd_same
      obtain ⟨u7, f7, R7⟩ := Lot.nul e7
      refine r_eqR ((Same.upd_new hq7) _ _ ec5) (hC5.same (Same.upd_new hq7)) f7 R7 ?_
      rw [show decide (List.map (fun x : Nat × List Int => x.2) [] = []) = true from rfl]
      exact q _
end
/-! ### what the top has written; the law -/
theorem all_mk {l : PySem.W.OpenLaw} {w : World} {K : PySem.W.Frag} {h : Heap} {mg : Str → Option Value} {fa : Addr} (X : K.In h) (G : h.Ns mainGlobals mg) (hfa : mg "law" = some (.ref fa))
    {od1 an1 : Option Addr} {sl1 : Array (Option Value)} {oc1 kV1 dc1 pm1 cd1 ct1 : Value} {f1 : Addr}
    {od2 an2 : Option Addr} {sl2 : Array (Option Value)} {oc2 kV2 dc2 pm2 cd2 ct2 : Value} {f2 : Addr}
    {od3 an3 : Option Addr} {sl3 : Array (Option Value)} {oc3 kV3 dc3 pm3 cd3 ct3 : Value} {f3 : Addr}
    {od4 an4 : Option Addr} {sl4 : Array (Option Value)} {oc4 kV4 dc4 pm4 cd4 ct4 : Value} {f4 : Addr}
    {od5 an5 : Option Addr} {sl5 : Array (Option Value)} {oc5 kV5 dc5 pm5 cd5 ct5 : Value} {f5 : Addr}
    {od6 an6 : Option Addr} {sl6 : Array (Option Value)} {oc6 kV6 dc6 pm6 cd6 ct6 : Value} {f6 : Addr}
    {od7 an7 : Option Addr} {sl7 : Array (Option Value)} {oc7 kV7 dc7 pm7 cd7 ct7 : Value} {f7 : Addr}
    {od8 an8 : Option Addr} {sl8 : Array (Option Value)} {oc8 kV8 dc8 pm8 cd8 ct8 : Value} {f8 : Addr}
    {od9 an9 : Option Addr} {sl9 : Array (Option Value)} {oc9 kV9 dc9 pm9 cd9 ct9 : Value} {f9 : Addr}
    {od10 an10 : Option Addr} {sl10 : Array (Option Value)} {oc10 kV10 dc10 pm10 cd10 ct10 : Value} {f10 : Addr}
    {od11 an11 : Option Addr} {sl11 : Array (Option Value)} {oc11 kV11 dc11 pm11 cd11 ct11 : Value} {f11 : Addr}
    {od12 an12 : Option Addr} {sl12 : Array (Option Value)} {oc12 kV12 dc12 pm12 cd12 ct12 : Value} {f12 : Addr}
    {od13 an13 : Option Addr} {sl13 : Array (Option Value)} {oc13 kV13 dc13 pm13 cd13 ct13 : Value} {f13 : Addr}
    {od14 an14 : Option Addr} {sl14 : Array (Option Value)} {oc14 kV14 dc14 pm14 cd14 ct14 : Value} {f14 : Addr}
    {od15 an15 : Option Addr} {sl15 : Array (Option Value)} {oc15 kV15 dc15 pm15 cd15 ct15 : Value} {f15 : Addr}
    {od16 an16 : Option Addr} {sl16 : Array (Option Value)} {oc16 kV16 dc16 pm16 cd16 ct16 : Value} {f16 : Addr}
    {od17 an17 : Option Addr} {sl17 : Array (Option Value)} {oc17 kV17 dc17 pm17 cd17 ct17 : Value} {f17 : Addr}
    {od18 an18 : Option Addr} {sl18 : Array (Option Value)} {oc18 kV18 dc18 pm18 cd18 ct18 : Value} {f18 : Addr}
    {od19 an19 : Option Addr} {sl19 : Array (Option Value)} {oc19 kV19 dc19 pm19 cd19 ct19 : Value} {f19 : Addr}
    {od20 an20 : Option Addr} {sl20 : Array (Option Value)} {oc20 kV20 dc20 pm20 cd20 ct20 : Value} {f20 : Addr}
    {od21 an21 : Option Addr} {sl21 : Array (Option Value)} {oc21 kV21 dc21 pm21 cd21 ct21 : Value} {f21 : Addr}
    {od22 an22 : Option Addr} {sl22 : Array (Option Value)} {oc22 kV22 dc22 pm22 cd22 ct22 : Value} {f22 : Addr}
    {od23 an23 : Option Addr} {sl23 : Array (Option Value)} {oc23 kV23 dc23 pm23 cd23 ct23 : Value} {f23 : Addr}
    {od24 an24 : Option Addr} {sl24 : Array (Option Value)} {oc24 kV24 dc24 pm24 cd24 ct24 : Value} {f24 : Addr}
    (a1 : PySem.W.nsIn K mainGlobals "inverse" = some (some (.ref f1))) (l1 : K.lookup f1 = some ⟨oc1, od1, .func (PySem.W.fnOf "inverse" "inverse" (defArgs s_inverse) (defBody s_inverse) (defScope s_inverse) .none kV1 dc1 pm1 an1 cd1 ct1), sl1⟩) (c1 : PySem.W.codeIn K cd1 "inverse" = true) (k1 : PySem.W.keepIn K (.ref f1) = true)
    (a2 : PySem.W.nsIn K mainGlobals "reduced" = some (some (.ref f2))) (l2 : K.lookup f2 = some ⟨oc2, od2, .func (PySem.W.fnOf "reduced" "reduced" (defArgs s_reduced) (defBody s_reduced) (defScope s_reduced) .none kV2 dc2 pm2 an2 cd2 ct2), sl2⟩) (c2 : PySem.W.codeIn K cd2 "reduced" = true) (k2 : PySem.W.keepIn K (.ref f2) = true)
    (a3 : PySem.W.nsIn K mainGlobals "first_place" = some (some (.ref f3))) (l3 : K.lookup f3 = some ⟨oc3, od3, .func (PySem.W.fnOf "first_place" "first_place" (defArgs s_first_place) (defBody s_first_place) (defScope s_first_place) .none kV3 dc3 pm3 an3 cd3 ct3), sl3⟩) (c3 : PySem.W.codeIn K cd3 "first_place" = true) (k3 : PySem.W.keepIn K (.ref f3) = true)
    (a4 : PySem.W.nsIn K mainGlobals "less" = some (some (.ref f4))) (l4 : K.lookup f4 = some ⟨oc4, od4, .func (PySem.W.fnOf "less" "less" (defArgs s_less) (defBody s_less) (defScope s_less) .none kV4 dc4 pm4 an4 cd4 ct4), sl4⟩) (c4 : PySem.W.codeIn K cd4 "less" = true) (k4 : PySem.W.keepIn K (.ref f4) = true)
    (a5 : PySem.W.nsIn K mainGlobals "times_row" = some (some (.ref f5))) (l5 : K.lookup f5 = some ⟨oc5, od5, .func (PySem.W.fnOf "times_row" "times_row" (defArgs s_times_row) (defBody s_times_row) (defScope s_times_row) .none kV5 dc5 pm5 an5 cd5 ct5), sl5⟩) (c5 : PySem.W.codeIn K cd5 "times_row" = true) (k5 : PySem.W.keepIn K (.ref f5) = true)
    (a6 : PySem.W.nsIn K mainGlobals "rest_of" = some (some (.ref f6))) (l6 : K.lookup f6 = some ⟨oc6, od6, .func (PySem.W.fnOf "rest_of" "rest_of" (defArgs s_rest_of) (defBody s_rest_of) (defScope s_rest_of) .none kV6 dc6 pm6 an6 cd6 ct6), sl6⟩) (c6 : PySem.W.codeIn K cd6 "rest_of" = true) (k6 : PySem.W.keepIn K (.ref f6) = true)
    (a7 : PySem.W.nsIn K mainGlobals "product_of" = some (some (.ref f7))) (l7 : K.lookup f7 = some ⟨oc7, od7, .func (PySem.W.fnOf "product_of" "product_of" (defArgs s_product_of) (defBody s_product_of) (defScope s_product_of) .none kV7 dc7 pm7 an7 cd7 ct7), sl7⟩) (c7 : PySem.W.codeIn K cd7 "product_of" = true) (k7 : PySem.W.keepIn K (.ref f7) = true)
    (a8 : PySem.W.nsIn K mainGlobals "nulls_of" = some (some (.ref f8))) (l8 : K.lookup f8 = some ⟨oc8, od8, .func (PySem.W.fnOf "nulls_of" "nulls_of" (defArgs s_nulls_of) (defBody s_nulls_of) (defScope s_nulls_of) .none kV8 dc8 pm8 an8 cd8 ct8), sl8⟩) (c8 : PySem.W.codeIn K cd8 "nulls_of" = true) (k8 : PySem.W.keepIn K (.ref f8) = true)
    (a9 : PySem.W.nsIn K mainGlobals "_law_state" = some (some (.ref f9))) (l9 : K.lookup f9 = some ⟨oc9, od9, .func (PySem.W.fnOf "_law_state" "_law_state" (defArgs s_law_state) (defBody s_law_state) (defScope s_law_state) .none kV9 dc9 pm9 an9 cd9 ct9), sl9⟩) (c9 : PySem.W.codeIn K cd9 "_law_state" = true) (k9 : PySem.W.keepIn K (.ref f9) = true)
    (a10 : PySem.W.nsIn K mainGlobals "_law_draw" = some (some (.ref f10))) (l10 : K.lookup f10 = some ⟨oc10, od10, .func (PySem.W.fnOf "_law_draw" "_law_draw" (defArgs s_law_draw) (defBody s_law_draw) (defScope s_law_draw) .none kV10 dc10 pm10 an10 cd10 ct10), sl10⟩) (c10 : PySem.W.codeIn K cd10 "_law_draw" = true) (k10 : PySem.W.keepIn K (.ref f10) = true)
    (a11 : PySem.W.nsIn K mainGlobals "_law_prime" = some (some (.ref f11))) (l11 : K.lookup f11 = some ⟨oc11, od11, .func (PySem.W.fnOf "_law_prime" "_law_prime" (defArgs s_law_prime) (defBody s_law_prime) (defScope s_law_prime) .none kV11 dc11 pm11 an11 cd11 ct11), sl11⟩) (c11 : PySem.W.codeIn K cd11 "_law_prime" = true) (k11 : PySem.W.keepIn K (.ref f11) = true)
    (a12 : PySem.W.nsIn K mainGlobals "_law_row" = some (some (.ref f12))) (l12 : K.lookup f12 = some ⟨oc12, od12, .func (PySem.W.fnOf "_law_row" "_law_row" (defArgs s_law_row) (defBody s_law_row) (defScope s_law_row) .none kV12 dc12 pm12 an12 cd12 ct12), sl12⟩) (c12 : PySem.W.codeIn K cd12 "_law_row" = true) (k12 : PySem.W.keepIn K (.ref f12) = true)
    (a13 : PySem.W.nsIn K mainGlobals "_law_times" = some (some (.ref f13))) (l13 : K.lookup f13 = some ⟨oc13, od13, .func (PySem.W.fnOf "_law_times" "_law_times" (defArgs s_law_times) (defBody s_law_times) (defScope s_law_times) .none kV13 dc13 pm13 an13 cd13 ct13), sl13⟩) (c13 : PySem.W.codeIn K cd13 "_law_times" = true) (k13 : PySem.W.keepIn K (.ref f13) = true)
    (a14 : PySem.W.nsIn K mainGlobals "_law_together" = some (some (.ref f14))) (l14 : K.lookup f14 = some ⟨oc14, od14, .func (PySem.W.fnOf "_law_together" "_law_together" (defArgs s_law_together) (defBody s_law_together) (defScope s_law_together) .none kV14 dc14 pm14 an14 cd14 ct14), sl14⟩) (c14 : PySem.W.codeIn K cd14 "_law_together" = true) (k14 : PySem.W.keepIn K (.ref f14) = true)
    (a15 : PySem.W.nsIn K mainGlobals "_law_rows" = some (some (.ref f15))) (l15 : K.lookup f15 = some ⟨oc15, od15, .func (PySem.W.fnOf "_law_rows" "_law_rows" (defArgs s_law_rows) (defBody s_law_rows) (defScope s_law_rows) .none kV15 dc15 pm15 an15 cd15 ct15), sl15⟩) (c15 : PySem.W.codeIn K cd15 "_law_rows" = true) (k15 : PySem.W.keepIn K (.ref f15) = true)
    (a16 : PySem.W.nsIn K mainGlobals "_law_inverse" = some (some (.ref f16))) (l16 : K.lookup f16 = some ⟨oc16, od16, .func (PySem.W.fnOf "_law_inverse" "_law_inverse" (defArgs s_law_inverse) (defBody s_law_inverse) (defScope s_law_inverse) .none kV16 dc16 pm16 an16 cd16 ct16), sl16⟩) (c16 : PySem.W.codeIn K cd16 "_law_inverse" = true) (k16 : PySem.W.keepIn K (.ref f16) = true)
    (a17 : PySem.W.nsIn K mainGlobals "_law_reduced" = some (some (.ref f17))) (l17 : K.lookup f17 = some ⟨oc17, od17, .func (PySem.W.fnOf "_law_reduced" "_law_reduced" (defArgs s_law_reduced) (defBody s_law_reduced) (defScope s_law_reduced) .none kV17 dc17 pm17 an17 cd17 ct17), sl17⟩) (c17 : PySem.W.codeIn K cd17 "_law_reduced" = true) (k17 : PySem.W.keepIn K (.ref f17) = true)
    (a18 : PySem.W.nsIn K mainGlobals "_law_alike" = some (some (.ref f18))) (l18 : K.lookup f18 = some ⟨oc18, od18, .func (PySem.W.fnOf "_law_alike" "_law_alike" (defArgs s_law_alike) (defBody s_law_alike) (defScope s_law_alike) .none kV18 dc18 pm18 an18 cd18 ct18), sl18⟩) (c18 : PySem.W.codeIn K cd18 "_law_alike" = true) (k18 : PySem.W.keepIn K (.ref f18) = true)
    (a19 : PySem.W.nsIn K mainGlobals "_law_is_few" = some (some (.ref f19))) (l19 : K.lookup f19 = some ⟨oc19, od19, .func (PySem.W.fnOf "_law_is_few" "_law_is_few" (defArgs s_law_is_few) (defBody s_law_is_few) (defScope s_law_is_few) .none kV19 dc19 pm19 an19 cd19 ct19), sl19⟩) (c19 : PySem.W.codeIn K cd19 "_law_is_few" = true) (k19 : PySem.W.keepIn K (.ref f19) = true)
    (a20 : PySem.W.nsIn K mainGlobals "_law_all" = some (some (.ref f20))) (l20 : K.lookup f20 = some ⟨oc20, od20, .func (PySem.W.fnOf "_law_all" "_law_all" (defArgs s_law_all) (defBody s_law_all) (defScope s_law_all) .none kV20 dc20 pm20 an20 cd20 ct20), sl20⟩) (c20 : PySem.W.codeIn K cd20 "_law_all" = true) (k20 : PySem.W.keepIn K (.ref f20) = true)
    (a21 : PySem.W.nsIn K mainGlobals "_law_product" = some (some (.ref f21))) (l21 : K.lookup f21 = some ⟨oc21, od21, .func (PySem.W.fnOf "_law_product" "_law_product" (defArgs s_law_product) (defBody s_law_product) (defScope s_law_product) .none kV21 dc21 pm21 an21 cd21 ct21), sl21⟩) (c21 : PySem.W.codeIn K cd21 "_law_product" = true) (k21 : PySem.W.keepIn K (.ref f21) = true)
    (a22 : PySem.W.nsIn K mainGlobals "_law_every" = some (some (.ref f22))) (l22 : K.lookup f22 = some ⟨oc22, od22, .func (PySem.W.fnOf "_law_every" "_law_every" (defArgs s_law_every) (defBody s_law_every) (defScope s_law_every) .none kV22 dc22 pm22 an22 cd22 ct22), sl22⟩) (c22 : PySem.W.codeIn K cd22 "_law_every" = true) (k22 : PySem.W.keepIn K (.ref f22) = true)
    (a23 : PySem.W.nsIn K mainGlobals "_law_longer" = some (some (.ref f23))) (l23 : K.lookup f23 = some ⟨oc23, od23, .func (PySem.W.fnOf "_law_longer" "_law_longer" (defArgs s_law_longer) (defBody s_law_longer) (defScope s_law_longer) .none kV23 dc23 pm23 an23 cd23 ct23), sl23⟩) (c23 : PySem.W.codeIn K cd23 "_law_longer" = true) (k23 : PySem.W.keepIn K (.ref f23) = true)
    (a24 : PySem.W.nsIn K mainGlobals "law" = some (some (.ref f24))) (l24 : K.lookup f24 = some ⟨oc24, od24, .func (PySem.W.fnOf "law" "law" (defArgs s_law) (defBody s_law) (defScope s_law) .none kV24 dc24 pm24 an24 cd24 ct24), sl24⟩) (c24 : PySem.W.codeIn K cd24 "law" = true) (k24 : PySem.W.keepIn K (.ref f24) = true)
    (z_abs : PySem.W.nsIn K mainGlobals "abs" = some none)
    (z_bool : PySem.W.nsIn K mainGlobals "bool" = some none)
    (z_enumerate : PySem.W.nsIn K mainGlobals "enumerate" = some none)
    (z_isinstance : PySem.W.nsIn K mainGlobals "isinstance" = some none)
    (z_len : PySem.W.nsIn K mainGlobals "len" = some none)
    (z_list : PySem.W.nsIn K mainGlobals "list" = some none)
    (z_min : PySem.W.nsIn K mainGlobals "min" = some none)
    (z_range : PySem.W.nsIn K mainGlobals "range" = some none)
    (z_sorted : PySem.W.nsIn K mainGlobals "sorted" = some none)
    (z_sum : PySem.W.nsIn K mainGlobals "sum" = some none)
    (z_tuple : PySem.W.nsIn K mainGlobals "tuple" = some none)
    (z_zip : PySem.W.nsIn K mainGlobals "zip" = some none) :
    ∃ fd : FuncData, (∀ (s : Shared) (v : Value), BindsTo s fd ⟨[v], []⟩ [("script", v)]) ∧ ∀ base : Heap, K.In base → base.Ns mainGlobals mg → FnOk l.prog w K mg base CX0 5 fa fd ["script"] (sp_law K) := by
  have e := hfa.symm.trans (PySem.W.mg_of X G a24)
  cases e
  have G1 := fun_mk (st := s_inverse) l1 c1 k1
  have F1 : Here K mg "inverse" s_inverse ["n", "p"] f1 _ := ⟨G1, PySem.W.mg_of X G a1, G1.binds (ps := ["n", "p"]) fun _ _ _ _ _ _ us hl => match us, hl with | [_, _], _ => rfl⟩
  have G2 := fun_mk (st := s_reduced) l2 c2 k2
  have F2 : Here K mg "reduced" s_reduced ["rows", "p"] f2 _ := ⟨G2, PySem.W.mg_of X G a2, G2.binds (ps := ["rows", "p"]) fun _ _ _ _ _ _ us hl => match us, hl with | [_, _], _ => rfl⟩
  have G3 := fun_mk (st := s_first_place) l3 c3 k3
  have F3 : Here K mg "first_place" s_first_place ["row"] f3 _ := ⟨G3, PySem.W.mg_of X G a3, G3.binds (ps := ["row"]) fun _ _ _ _ _ _ us hl => match us, hl with | [_], _ => rfl⟩
  have G4 := fun_mk (st := s_less) l4 c4 k4
  have F4 : Here K mg "less" s_less ["row", "base", "k", "p"] f4 _ := ⟨G4, PySem.W.mg_of X G a4, G4.binds (ps := ["row", "base", "k", "p"]) fun _ _ _ _ _ _ us hl => match us, hl with | [_, _, _, _], _ => rfl⟩
  have G5 := fun_mk (st := s_times_row) l5 c5 k5
  have F5 : Here K mg "times_row" s_times_row ["row", "k", "p"] f5 _ := ⟨G5, PySem.W.mg_of X G a5, G5.binds (ps := ["row", "k", "p"]) fun _ _ _ _ _ _ us hl => match us, hl with | [_, _, _], _ => rfl⟩
  have G6 := fun_mk (st := s_rest_of) l6 c6 k6
  have F6 : Here K mg "rest_of" s_rest_of ["row", "bases", "p"] f6 _ := ⟨G6, PySem.W.mg_of X G a6, G6.binds (ps := ["row", "bases", "p"]) fun _ _ _ _ _ _ us hl => match us, hl with | [_, _, _], _ => rfl⟩
  have G7 := fun_mk (st := s_product_of) l7 c7 k7
  have F7 : Here K mg "product_of" s_product_of ["row", "other", "p"] f7 _ := ⟨G7, PySem.W.mg_of X G a7, G7.binds (ps := ["row", "other", "p"]) fun _ _ _ _ _ _ us hl => match us, hl with | [_, _, _], _ => rfl⟩
  have G8 := fun_mk (st := s_nulls_of) l8 c8 k8
  have F8 : Here K mg "nulls_of" s_nulls_of ["rows", "width", "p"] f8 _ := ⟨G8, PySem.W.mg_of X G a8, G8.binds (ps := ["rows", "width", "p"]) fun _ _ _ _ _ _ us hl => match us, hl with | [_, _, _], _ => rfl⟩
  have G9 := fun_mk (st := s_law_state) l9 c9 k9
  have F9 : Here K mg "_law_state" s_law_state ["script"] f9 _ := ⟨G9, PySem.W.mg_of X G a9, G9.binds (ps := ["script"]) fun _ _ _ _ _ _ us hl => match us, hl with | [_], _ => rfl⟩
  have G10 := fun_mk (st := s_law_draw) l10 c10 k10
  have F10 : Here K mg "_law_draw" s_law_draw ["state", "many"] f10 _ := ⟨G10, PySem.W.mg_of X G a10, G10.binds (ps := ["state", "many"]) fun _ _ _ _ _ _ us hl => match us, hl with | [_, _], _ => rfl⟩
  have G11 := fun_mk (st := s_law_prime) l11 c11 k11
  have F11 : Here K mg "_law_prime" s_law_prime ["state"] f11 _ := ⟨G11, PySem.W.mg_of X G a11, G11.binds (ps := ["state"]) fun _ _ _ _ _ _ us hl => match us, hl with | [_], _ => rfl⟩
  have G12 := fun_mk (st := s_law_row) l12 c12 k12
  have F12 : Here K mg "_law_row" s_law_row ["state", "wideness", "base"] f12 _ := ⟨G12, PySem.W.mg_of X G a12, G12.binds (ps := ["state", "wideness", "base"]) fun _ _ _ _ _ _ us hl => match us, hl with | [_, _, _], _ => rfl⟩
  have G13 := fun_mk (st := s_law_times) l13 c13 k13
  have F13 : Here K mg "_law_times" s_law_times ["line", "n", "base"] f13 _ := ⟨G13, PySem.W.mg_of X G a13, G13.binds (ps := ["line", "n", "base"]) fun _ _ _ _ _ _ us hl => match us, hl with | [_, _, _], _ => rfl⟩
  have G14 := fun_mk (st := s_law_together) l14 c14 k14
  have F14 : Here K mg "_law_together" s_law_together ["line", "two", "base"] f14 _ := ⟨G14, PySem.W.mg_of X G a14, G14.binds (ps := ["line", "two", "base"]) fun _ _ _ _ _ _ us hl => match us, hl with | [_, _, _], _ => rfl⟩
  have G15 := fun_mk (st := s_law_rows) l15 c15 k15
  have F15 : Here K mg "_law_rows" s_law_rows ["state", "wideness", "base", "many"] f15 _ := ⟨G15, PySem.W.mg_of X G a15, G15.binds (ps := ["state", "wideness", "base", "many"]) fun _ _ _ _ _ _ us hl => match us, hl with | [_, _, _, _], _ => rfl⟩
  have G16 := fun_mk (st := s_law_inverse) l16 c16 k16
  have F16 : Here K mg "_law_inverse" s_law_inverse ["n", "base"] f16 _ := ⟨G16, PySem.W.mg_of X G a16, G16.binds (ps := ["n", "base"]) fun _ _ _ _ _ _ us hl => match us, hl with | [_, _], _ => rfl⟩
  have G17 := fun_mk (st := s_law_reduced) l17 c17 k17
  have F17 : Here K mg "_law_reduced" s_law_reduced ["lot", "wideness", "base"] f17 _ := ⟨G17, PySem.W.mg_of X G a17, G17.binds (ps := ["lot", "wideness", "base"]) fun _ _ _ _ _ _ us hl => match us, hl with | [_, _, _], _ => rfl⟩
  have G18 := fun_mk (st := s_law_alike) l18 c18 k18
  have F18 : Here K mg "_law_alike" s_law_alike ["told", "wanted"] f18 _ := ⟨G18, PySem.W.mg_of X G a18, G18.binds (ps := ["told", "wanted"]) fun _ _ _ _ _ _ us hl => match us, hl with | [_, _], _ => rfl⟩
  have G19 := fun_mk (st := s_law_is_few) l19 c19 k19
  have F19 : Here K mg "_law_is_few" s_law_is_few ["base", "times"] f19 _ := ⟨G19, PySem.W.mg_of X G a19, G19.binds (ps := ["base", "times"]) fun _ _ _ _ _ _ us hl => match us, hl with | [_, _], _ => rfl⟩
  have G20 := fun_mk (st := s_law_all) l20 c20 k20
  have F20 : Here K mg "_law_all" s_law_all ["lot", "wideness", "base"] f20 _ := ⟨G20, PySem.W.mg_of X G a20, G20.binds (ps := ["lot", "wideness", "base"]) fun _ _ _ _ _ _ us hl => match us, hl with | [_, _, _], _ => rfl⟩
  have G21 := fun_mk (st := s_law_product) l21 c21 k21
  have F21 : Here K mg "_law_product" s_law_product ["line", "two", "base"] f21 _ := ⟨G21, PySem.W.mg_of X G a21, G21.binds (ps := ["line", "two", "base"]) fun _ _ _ _ _ _ us hl => match us, hl with | [_, _, _], _ => rfl⟩
  have G22 := fun_mk (st := s_law_every) l22 c22 k22
  have F22 : Here K mg "_law_every" s_law_every ["wideness", "base"] f22 _ := ⟨G22, PySem.W.mg_of X G a22, G22.binds (ps := ["wideness", "base"]) fun _ _ _ _ _ _ us hl => match us, hl with | [_, _], _ => rfl⟩
  have G23 := fun_mk (st := s_law_longer) l23 c23 k23
  have F23 : Here K mg "_law_longer" s_law_longer ["some", "base"] f23 _ := ⟨G23, PySem.W.mg_of X G a23, G23.binds (ps := ["some", "base"]) fun _ _ _ _ _ _ us hl => match us, hl with | [_, _], _ => rfl⟩
  have G24 := fun_mk (st := s_law) l24 c24 k24
  have F24 : Here K mg "law" s_law ["script"] fa _ := ⟨G24, PySem.W.mg_of X G a24, G24.binds (ps := ["script"]) fun _ _ _ _ _ _ us hl => match us, hl with | [_], _ => rfl⟩
  have T : Tx K mg := ⟨PySem.W.mg_none_of X G z_abs, PySem.W.mg_none_of X G z_bool, PySem.W.mg_none_of X G z_enumerate, PySem.W.mg_none_of X G z_isinstance, PySem.W.mg_none_of X G z_len, PySem.W.mg_none_of X G z_list, PySem.W.mg_none_of X G z_min, PySem.W.mg_none_of X G z_range, PySem.W.mg_none_of X G z_sorted, PySem.W.mg_none_of X G z_sum, PySem.W.mg_none_of X G z_tuple, PySem.W.mg_none_of X G z_zip⟩
  refine ⟨PySem.W.fnOf "law" "law" (defArgs s_law) (defBody s_law) (defScope s_law) .none kV24 dc24 pm24 an24 cd24 ct24, fun s v => .of_eq rfl, fun base _ _ => ?_⟩
  have C_law_state := ok_law_state (P := l.prog) (w := w) (base := base) T  F9
  have C_law_draw := ok_law_draw (P := l.prog) (w := w) (base := base) T  F10
  have C_law_prime := ok_law_prime (P := l.prog) (w := w) (base := base) T C_law_draw F11
  have C_law_row := ok_law_row (P := l.prog) (w := w) (base := base) T C_law_draw F12
  have C_law_times := ok_law_times (P := l.prog) (w := w) (base := base) T  F13
  have C_law_together := ok_law_together (P := l.prog) (w := w) (base := base) T  F14
  have C_law_rows := ok_law_rows (P := l.prog) (w := w) (base := base) T C_law_row C_law_draw C_law_times C_law_together F15
  have C_less := ok_less (P := l.prog) (w := w) (base := base) T  F4
  have C_rest_of := ok_rest_of (P := l.prog) (w := w) (base := base) T C_less F6
  have C_first_place := ok_first_place (P := l.prog) (w := w) (base := base) T  F3
  have C_times_row := ok_times_row (P := l.prog) (w := w) (base := base) T  F5
  have C_inverse := ok_inverse (P := l.prog) (w := w) (base := base) T  F1
  have C_reduced := ok_reduced (P := l.prog) (w := w) (base := base) T C_rest_of C_first_place C_times_row C_inverse C_less F2
  have C_nulls_of := ok_nulls_of (P := l.prog) (w := w) (base := base) T C_reduced C_first_place F8
  have C_law_product := ok_law_product (P := l.prog) (w := w) (base := base) T  F21
  have C_law_is_few := ok_law_is_few (P := l.prog) (w := w) (base := base) T  F19
  have C_law_all := ok_law_all (P := l.prog) (w := w) (base := base) T C_law_together C_law_times F20
  have C_law_longer := ok_law_longer (P := l.prog) (w := w) (base := base) T  F23
  have C_law_every := ok_law_every (P := l.prog) (w := w) (base := base) T C_law_longer F22
  have C_law_alike := ok_law_alike (P := l.prog) (w := w) (base := base) T  F18
  have C_product_of := ok_product_of (P := l.prog) (w := w) (base := base) T  F7
  have C_law_inverse := ok_law_inverse (P := l.prog) (w := w) (base := base) T  F16
  have C_law_reduced := ok_law_reduced (P := l.prog) (w := w) (base := base) T C_law_times C_law_inverse C_law_together F17
  have C_law := ok_law (P := l.prog) (w := w) (base := base) T C_law_state C_law_prime C_law_rows C_nulls_of C_law_product C_law_is_few C_law_draw C_law_row C_law_all C_law_every C_law_alike C_product_of C_law_reduced F24
  exact C_law.ok
end Z
open PySem PySem.W PyProof.Rows
set_option maxHeartbeats 0 in
theorem PySem.Challenge.cw_onetrace_k08_products_and_nulls_holds : PySem.Challenge.rw_onetrace_k08_products_and_nulls.Holds := by
  w_on; o_law; k_head; (case hw => w_witness2)
  k_fill
  refine L2.walk_of (l := PySem.Challenge.rw_onetrace_k08_products_and_nulls) (n := 63) (k := 5) (x := "script") (CX := fun _ => L2.CX0) (sp := fun w => Z.sp_law _) rfl (by decide) rfl ⟨rfl, by decide, by decide⟩ (fun w h Y => PySem.W.kIn_of Y) ?F (fun _ _ a ns hl _ hS => ⟨a, ns, rfl, hS, hl, fun _ => rfl⟩) (fun _ _ _ _ _ h => h)
  case F =>
    intro w mg fa h KX G hmg
    refine' Z.all_mk KX G hmg ?a1 ?l1 ?c1 ?k1 ?a2 ?l2 ?c2 ?k2 ?a3 ?l3 ?c3 ?k3 ?a4 ?l4 ?c4 ?k4 ?a5 ?l5 ?c5 ?k5 ?a6 ?l6 ?c6 ?k6 ?a7 ?l7 ?c7 ?k7 ?a8 ?l8 ?c8 ?k8 ?a9 ?l9 ?c9 ?k9 ?a10 ?l10 ?c10 ?k10 ?a11 ?l11 ?c11 ?k11 ?a12 ?l12 ?c12 ?k12 ?a13 ?l13 ?c13 ?k13 ?a14 ?l14 ?c14 ?k14 ?a15 ?l15 ?c15 ?k15 ?a16 ?l16 ?c16 ?k16 ?a17 ?l17 ?c17 ?k17 ?a18 ?l18 ?c18 ?k18 ?a19 ?l19 ?c19 ?k19 ?a20 ?l20 ?c20 ?k20 ?a21 ?l21 ?c21 ?k21 ?a22 ?l22 ?c22 ?k22 ?a23 ?l23 ?c23 ?k23 ?a24 ?l24 ?c24 ?k24 ?z_abs ?z_bool ?z_enumerate ?z_isinstance ?z_len ?z_list ?z_min ?z_range ?z_sorted ?z_sum ?z_tuple ?z_zip
    (case a1 => k_is)
    (case l1 => k_is)
    (case c1 => k_is)
    (case k1 => k_is)
    (case a2 => k_is)
    (case l2 => k_is)
    (case c2 => k_is)
    (case k2 => k_is)
    (case a3 => k_is)
    (case l3 => k_is)
    (case c3 => k_is)
    (case k3 => k_is)
    (case a4 => k_is)
    (case l4 => k_is)
    (case c4 => k_is)
    (case k4 => k_is)
    (case a5 => k_is)
    (case l5 => k_is)
    (case c5 => k_is)
    (case k5 => k_is)
    (case a6 => k_is)
    (case l6 => k_is)
    (case c6 => k_is)
    (case k6 => k_is)
    (case a7 => k_is)
    (case l7 => k_is)
    (case c7 => k_is)
    (case k7 => k_is)
    (case a8 => k_is)
    (case l8 => k_is)
    (case c8 => k_is)
    (case k8 => k_is)
    (case a9 => k_is)
    (case l9 => k_is)
    (case c9 => k_is)
    (case k9 => k_is)
    (case a10 => k_is)
    (case l10 => k_is)
    (case c10 => k_is)
    (case k10 => k_is)
    (case a11 => k_is)
    (case l11 => k_is)
    (case c11 => k_is)
    (case k11 => k_is)
    (case a12 => k_is)
    (case l12 => k_is)
    (case c12 => k_is)
    (case k12 => k_is)
    (case a13 => k_is)
    (case l13 => k_is)
    (case c13 => k_is)
    (case k13 => k_is)
    (case a14 => k_is)
    (case l14 => k_is)
    (case c14 => k_is)
    (case k14 => k_is)
    (case a15 => k_is)
    (case l15 => k_is)
    (case c15 => k_is)
    (case k15 => k_is)
    (case a16 => k_is)
    (case l16 => k_is)
    (case c16 => k_is)
    (case k16 => k_is)
    (case a17 => k_is)
    (case l17 => k_is)
    (case c17 => k_is)
    (case k17 => k_is)
    (case a18 => k_is)
    (case l18 => k_is)
    (case c18 => k_is)
    (case k18 => k_is)
    (case a19 => k_is)
    (case l19 => k_is)
    (case c19 => k_is)
    (case k19 => k_is)
    (case a20 => k_is)
    (case l20 => k_is)
    (case c20 => k_is)
    (case k20 => k_is)
    (case a21 => k_is)
    (case l21 => k_is)
    (case c21 => k_is)
    (case k21 => k_is)
    (case a22 => k_is)
    (case l22 => k_is)
    (case c22 => k_is)
    (case k22 => k_is)
    (case a23 => k_is)
    (case l23 => k_is)
    (case c23 => k_is)
    (case k23 => k_is)
    (case a24 => k_is)
    (case l24 => k_is)
    (case c24 => k_is)
    (case k24 => k_is)
    (case z_abs => k_is)
    (case z_bool => k_is)
    (case z_enumerate => k_is)
    (case z_isinstance => k_is)
    (case z_len => k_is)
    (case z_list => k_is)
    (case z_min => k_is)
    (case z_range => k_is)
    (case z_sorted => k_is)
    (case z_sum => k_is)
    (case z_tuple => k_is)
    (case z_zip => k_is)
