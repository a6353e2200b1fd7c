import PyProof.Rows.All
import Wide.All
import OpenK.AllK
import Wide.FinOn
import HandS.ForMost
import HandS.Wide
import HandS.Zip
import HandS.Walk
import HandS.IsInst
import HandS.TupAny
import HandS.Style
import HandS.SortOrd
import HandS.Remove
import KE.DataFind
import KE.GoesEnum
import HandS.TupMul
import HandS.More
import HandS.Small
import HandS.DictComp
import KE.KRevSl
import PyProof.StrOps2
import PyProof.NeKinds
import PySem.Challenge.RW_onetrace_k02_forms_known_and_made
set_option Elab.async false
set_option linter.all false
set_option maxRecDepth 100000
set_option maxHeartbeats 4000000
namespace Z
open PySem PySem.Spec PyProof.Rows L2 RZ
/-- a def that is called: where it stands, what it promises -/
structure Cal (P : Program) (w : World) (K : PySem.W.Frag) (mg : Str → Option Value) (base : Heap) (x : Str) (k : Nat) (ps : List Str) (sp : Sp) (st : Stmt) (f : Addr) (fd : FuncData) : Prop where
  ok : FnOk P w K mg base CX0 k f fd ps sp
  at_ : mg x = some (.ref f)
  kp : PySem.W.keepIn K (.ref f) = true
  b : Binds K fd ps []
  fn : Fun K x x st f fd
/-- a def as it stands behind the top -/
structure Here (K : PySem.W.Frag) (mg : Str → Option Value) (x : Str) (st : Stmt) (ps : List Str) (f : Addr) (fd : FuncData) : Prop where
  fn : Fun K x x st f fd
  at_ : mg x = some (.ref f)
  b : Binds K fd ps []
section
variable {P : Program} {w : World} {K : PySem.W.Frag} {mg : Str → Option Value} {base : Heap}
theorem Here.cal {x : Str} {st : Stmt} {ps N : List Str} {f : Addr} {fd : FuncData} {k : Nat} {sp : Sp} (F : Here K mg x st ps f fd) (S : FnScope N ps (defScope st)) (len : ∀ vs H Q E, sp vs H Q E → vs.length = ps.length)
    (hbody : ∀ (cdv : Value) (A : Around) (outer : List Env) (s : Shared) (H : Hp) (vs : List V) (Q : VK) (E : XK), Room k (A.deeper (envOfC x (defScope st) s.heap.objs.size f cdv)) → sp vs H Q E →
      ∃ t, PSs (cxOf CX0 P w K mg base N x (defScope st) f cdv A outer s H E).nox (defBody st) t ∧ t { nx := fun _ H' => Q .non H', rt := Q } (L2.start N vs) H) : Cal P w K mg base x (k + 1) ps sp st f fd :=
  ⟨F.fn.ok S len hbody, F.at_, F.fn.kp, F.b, F.fn⟩
end
/-! readings, rule by rule -/
def rLen (K : PySem.W.Frag) : List V → Hp → VK → Prop := fun xs H Q => ∃ p ys, xs = [.ref p] ∧ (SqL K H p ys ∨ SqT K H p ys) ∧ Q (.int ys.length) H
theorem cr_len {X : Cx} : CallR X (.builtin "len") (rLen X.K) := call_len_seq
theorem r_app0 {l : Addr} {xs : List V} {y : V} {H : Hp} {Q : VK} (h : H l = some (.lst xs)) (z : xs.length < sizeLine) (q : Q .non (upd H l (.lst (xs ++ [y])))) : rAppend (.ref l) [y] H Q := ⟨l, xs, y, rfl, rfl, h, z, q⟩
theorem r_ty {K : PySem.W.Frag} {l : Addr} {xs : List V} {H : Hp} {A : Prop} (h : H l = some (.lst xs)) (q : A) : tyV K "list" (.ref l) H ∧ A := ⟨.inl ⟨rfl, _, .inl (.inl h)⟩, q⟩
theorem r_all {K : PySem.W.Frag} {a : Addr} {bs : List Bool} {H : Hp} {Q : VK} (h : SqL K H a (bs.map V.bl)) (q : Q (.bl (bs.all id)) H) : rAll K [.ref a] H Q := ⟨a, bs, rfl, h, q⟩
theorem r_sum {K : PySem.W.Frag} {a : Addr} {ns : List Int} {H : Hp} {Q : VK} (h : SqL K H a (ns.map V.int)) (q : Q (.int ns.sum) H) : rSum K [.ref a] H Q := ⟨a, ns, rfl, h, q⟩
theorem r_isi {K : PySem.W.Frag} {x c : V} {t u : Value} {b : Bool} {H : Hp} {Q : VK} (h1 : ClsV c u) (h2 : TyX K H x t) (h3 : PySem.W.kitOne K t u = some b) (q : Q (.bl b) H) : rIsi K [x, c] H Q := ⟨x, c, t, u, b, rfl, h1, h2, h3, q⟩
def rAbs : List V → Hp → VK → Prop := fun xs H Q => ∃ i, xs = [.int i] ∧ Q (.int (if i < 0 then -i else i)) H
theorem cr_abs {X : Cx} : CallR X (.builtin "abs") rAbs := call_abs
def rListOf (K : PySem.W.Frag) : List V → Hp → VK → Prop := fun xs H Q => ∃ p ys, xs = [.ref p] ∧ (SqL K H p ys ∨ SqT K H p ys) ∧ ∀ l, H l = none → Q (.ref l) (upd H l (.lst ys))
theorem cr_listOf {X : Cx} : CallR X (.type "list") (rListOf X.K) := call_list_of
def rTupOf (K : PySem.W.Frag) : List V → Hp → VK → Prop := fun xs H Q => ∃ p ys, xs = [.ref p] ∧ ((SqL K H p ys ∧ ∀ l, H l = none → Q (.ref l) (upd H l (.tup ys))) ∨ (SqT K H p ys ∧ Q (.ref p) H))
theorem cr_tupOf {X : Cx} : CallR X (.type "tuple") (rTupOf X.K) := call_tuple_of
section
variable {K : PySem.W.Frag} {D : Ends} {σ : L2.St} {H : Hp} {Q : VK}
theorem r_seq {t u : TS} (h : t { D with nx := u D } σ H) : tSeq t u D σ H := h
theorem r_asg {te : TE} {g : TG} (h : te σ H fun x H1 => g x σ H1 D.nx) : tAsg te g D σ H := h
theorem r_gname {i : Nat} {v : V} {N : L2.St → Hp → Prop} (h : N (σ.set i (some v)) H) : gName i v σ H N := h
theorem r_var {i : Nat} {v : V} (e : σ[i]? = some (some v)) (h : Q v H) : tVar i σ H Q := ⟨v, e, h⟩
theorem r_c {v : V} (h : Q v H) : tC v σ H Q := h
theorem r_op {r : R2} {ta tb : TE} (h : ta σ H fun x H1 => tb σ H1 fun y H2 => r x y H2 Q) : tOp r ta tb σ H Q := h
theorem r_i0 {g : Int → Int → V} {i j : Int} (h : Q (g i j) H) : rI0 g (.int i) (.int j) H Q := ⟨i, j, rfl, rfl, h⟩
theorem r_i {C : Int → Int → Prop} {g : Int → Int → V} {i j : Int} (c : C i j) (h : Q (g i j) H) : rI C g (.int i) (.int j) H Q := ⟨i, j, rfl, rfl, c, h⟩
theorem r_ixl {p : Addr} {xs : List V} {i : Int} {v : V} (h : SqL K H p xs) (e : atI xs i = some v) (q : Q v H) : rIxL K (.ref p) (.int i) H Q := ⟨p, xs, i, v, rfl, rfl, h, e, q⟩
theorem r_ixt {p : Addr} {xs : List V} {i : Int} {v : V} (h : SqT K H p xs) (e : atI xs i = some v) (q : Q v H) : rIxT K (.ref p) (.int i) H Q := ⟨p, xs, i, v, rfl, rfl, h, e, q⟩
theorem r_cb {r : List V → Hp → VK → Prop} {t : TA} (h : t σ H fun vs H1 => r vs H1 Q) : tCB r t σ H Q := h
theorem r_cons {ta : TE} {tr : TA} {R : List V → Hp → Prop} (h : ta σ H fun x H1 => tr σ H1 fun xs H2 => R (x :: xs) H2) : tCons ta tr σ H R := h
theorem r_nil {R : List V → Hp → Prop} (h : R [] H) : tNil σ H R := h
theorem r_len {p : Addr} {ys : List V} (h : SqL K H p ys) (q : Q (.int ys.length) H) : rLen K [.ref p] H Q := ⟨p, ys, rfl, .inl h, q⟩
theorem r_lent {p : Addr} {ys : List V} (h : SqT K H p ys) (q : Q (.int ys.length) H) : rLen K [.ref p] H Q := ⟨p, ys, rfl, .inr h, q⟩
theorem r_abs {i : Int} (q : Q (.int (if i < 0 then -i else i)) H) : rAbs [.int i] H Q := ⟨i, rfl, q⟩
theorem r_listl {p : Addr} {ys : List V} (h : SqL K H p ys) (q : ∀ l, H l = none → Q (.ref l) (upd H l (.lst ys))) : rListOf K [.ref p] H Q := ⟨p, ys, rfl, .inl h, q⟩
theorem r_listt {p : Addr} {ys : List V} (h : SqT K H p ys) (q : ∀ l, H l = none → Q (.ref l) (upd H l (.lst ys))) : rListOf K [.ref p] H Q := ⟨p, ys, rfl, .inr h, q⟩
theorem r_tupl {p : Addr} {ys : List V} (h : SqL K H p ys) (q : ∀ l, H l = none → Q (.ref l) (upd H l (.tup ys))) : rTupOf K [.ref p] H Q := ⟨p, ys, rfl, .inl ⟨h, q⟩⟩
theorem r_tupt {p : Addr} {ys : List V} (h : SqT K H p ys) (q : Q (.ref p) H) : rTupOf K [.ref p] H Q := ⟨p, ys, rfl, .inr ⟨h, q⟩⟩
theorem r_if {c : TT} {t u : TS} (h : c σ H fun b H1 => if b = true then t D σ H1 else u D σ H1) : tIfS c t u D σ H := h
theorem r_ife {c : TT} {t u : TE} (h : c σ H fun b H1 => if b = true then t σ H1 Q else u σ H1 Q) : tIf c t u σ H Q := h
theorem r_test {te : TE} {R : Bool → Hp → Prop} (h : te σ H fun x H' => ∃ k, x = .bl k ∧ R k H') : tTest te σ H R := h
theorem r_bl {b : Bool} {R : Bool → Prop} (h : R b) : ∃ k, V.bl b = .bl k ∧ R k := ⟨b, rfl, h⟩
theorem r_ite {p : Prop} {inst : Decidable p} {A B : Prop} (h1 : p → A) (h2 : ¬p → B) : if decide p = true then A else B := by
  by_cases h : p
  · rw [if_pos (decide_eq_true h)]; exact h1 h
  · rw [if_neg (by simpa using h)]; exact h2 h
theorem r_tand {t u : TT} {R : Bool → Hp → Prop} (h : t σ H fun c H1 => if c = true then u σ H1 R else R false H1) : tAnd t u σ H R := h
theorem r_tor {t u : TT} {R : Bool → Hp → Prop} (h : t σ H fun c H1 => if c = true then R true H1 else u σ H1 R) : tOr t u σ H R := h
theorem r_tnot {t : TT} {R : Bool → Hp → Prop} (h : t σ H fun c H1 => R (!c) H1) : tNot t σ H R := h
theorem r_andv {ta tb : TE} (h : ta σ H fun x H1 => ∃ c, x = .bl c ∧ if c = true then tb σ H1 Q else Q (.bl false) H1) : tAndV ta tb σ H Q := h
theorem r_orv {ta tb : TE} (h : ta σ H fun x H1 => ∃ c, x = .bl c ∧ if c = true then Q (.bl true) H1 else tb σ H1 Q) : tOrV ta tb σ H Q := h
theorem r_notv {ta : TE} (h : ta σ H fun x H1 => ∃ c, x = .bl c ∧ Q (.bl (!c)) H1) : tNotV ta σ H Q := h
theorem r_chain {r r' : R2} {ta tb tc : TE} (h : ta σ H fun x H1 => tb σ H1 fun y H2 => r x y H2 fun z H3 => ∃ k, z = .bl k ∧ (if k = true then tc σ H3 fun w' H4 => r' y w' H4 Q else Q (.bl false) H3)) : tChain r r' ta tb tc σ H Q := h
theorem r_t {A B : Prop} (h : A) : if true = true then A else B := by rw [if_pos rfl]; exact h
theorem r_f {A B : Prop} (h : B) : if false = true then A else B := by rw [if_neg (by decide)]; exact h
theorem r_nt {A B : Prop} (h : B) : if (!true) = true then A else B := by rw [if_neg (by decide)]; exact h
theorem r_nf {A B : Prop} (h : A) : if (!false) = true then A else B := by rw [if_pos (by decide)]; exact h
theorem r_bm {T : String} {r : V → List V → Hp → VK → Prop} {to : TE} {t : TA} (h : to σ H fun x H1 => tyV K T x H1 ∧ t σ H1 fun xs H2 => r x xs H2 Q) : tBM K T r to t σ H Q := h
theorem r_sl {r : V → Option Int → Option Int → Hp → VK → Prop} {te : TE} {tl th : TO} (h : te σ H fun x H1 => tl σ H1 fun l H2 => th σ H2 fun u H3 => r x l u H3 Q) : tSl r te tl th σ H Q := h
theorem r_sll {a : Addr} {xs : List V} {lo hi : Option Int} (h : SqL K H a xs) (q : ∀ p, H p = none → Q (.ref p) (upd H p (.lst (cutV xs lo hi)))) : rSlL K (.ref a) lo hi H Q := ⟨a, xs, rfl, h, q⟩
theorem r_nopart {R : Option Int → Hp → Prop} (h : R none H) : tNoPart σ H R := h
theorem r_part {te : TE} {R : Option Int → Hp → Prop} (h : te σ H fun x H1 => ∃ i, x = .int i ∧ R (some i) H1) : tPart te σ H R := h
theorem r_parti {i : Int} {R : Int → Prop} (h : R i) : ∃ j, V.int i = .int j ∧ R j := ⟨i, rfl, h⟩
theorem r_yes {R : Bool → Hp → Prop} (h : R true H) : tYes σ H R := h
theorem r_sz {xs : List V} {B : Prop} (e : Nat.ble xs.length 1000 = true) (h : B) : xs.length ≤ sizeLine ∧ B := ⟨Nat.le_trans (Nat.le_of_ble_eq_true e) (by decide), h⟩
theorem r_iteB {b : Bool} {A B : Prop} (h1 : b = true → A) (h2 : b = false → B) : if b = true then A else B := by
  cases b with
  | true => rw [if_pos rfl]; exact h1 rfl
  | false => rw [if_neg (by decide)]; exact h2 rfl
theorem r_tb {t : TE} {R : Bool → Hp → Prop} (h : t σ H fun x H1 => ∃ c, x = .bl c ∧ R c H1) : tB t σ H R := h
theorem r_un {r : V → Hp → VK → Prop} {ta : TE} (h : ta σ H fun x H1 => r x H1 Q) : tUn r ta σ H Q := h
theorem r_u {g : Int → V} {i : Int} (h : Q (g i) H) : rU g (.int i) H Q := ⟨i, rfl, h⟩
theorem r_ret {te : TE} (h : te σ H D.rt) : tRet te D σ H := h
theorem r_gsub {to ti : TE} {t : TSet} {v : V} {N : L2.St → Hp → Prop} (h : to σ H fun o H1 => ti σ H1 fun i H2 => t o i v H2 fun H3 => N σ H3) : gSub to ti t v σ H N := h
theorem r_setl {p : Addr} {xs : List V} {k : Int} {j : Nat} {v : V} {R : Hp → Prop} (h : H p = some (.lst xs)) (e : ixN xs.length k = some j) (q : R (upd H p (.lst (xs.set j v)))) : rSetL (.ref p) (.int k) v H R := ⟨p, xs, k, j, rfl, rfl, h, e, q⟩
theorem r_next (h : D.nx σ H) : tNext D σ H := h
theorem r_call {sp : Sp} {dvs : List V} {E : XK} {t : TA} (h : t σ H fun vs H1 => sp (vs ++ dvs) H1 Q E) : tCall sp dvs E t σ H Q := h
theorem r_lst {t : TA} (h : t σ H fun xs H1 => xs.length ≤ sizeLine ∧ ∀ p, H1 p = none → Q (.ref p) (upd H1 p (.lst xs))) : tLst t σ H Q := h
theorem r_tup {t : TA} (h : t σ H fun xs H1 => xs.length ≤ sizeLine ∧ ∀ p, H1 p = none → Q (.ref p) (upd H1 p (.tup xs))) : tTup t σ H Q := h
theorem r_drop {te : TE} (h : te σ H fun _ H1 => D.nx σ H1) : tDrop te D σ H := h
theorem r_eq {x y : V} (s : scal x y = true) (q : Q (.bl (decide (x = y))) H) : rEq x y H Q := ⟨s, q⟩
theorem r_ne {x y : V} (s : scal x y = true) (q : Q (.bl (!decide (x = y))) H) : rNe x y H Q := ⟨s, q⟩
theorem hl_new {H : Hp} {a b : Addr} {o u : HO} (h : H a = some o) (n : H b = none) : upd H b u a = some o := (upd_ne (ne_of_none h n)).trans h
theorem hl_set {H : Hp} {a b : Addr} {o u : HO} (n : a ≠ b) (h : H a = some o) : upd H b u a = some o := (upd_ne n).trans h
end

/-! ### what stands at an address, over the heaps -/
def Kp (S : List Addr) (H H' : Hp) : Prop := ∀ b o, H b = some o → b ∉ S → H' b = some o
theorem Kp.refl {S : List Addr} {H : Hp} : Kp S H H := fun _ _ h _ => h
theorem Kp.trans {S : List Addr} {H H1 H2 : Hp} (a : Kp S H H1) (b : Kp S H1 H2) : Kp S H H2 := fun x o h n => b x o (a x o h n) n
theorem Kp.new {S : List Addr} {H : Hp} {p : Addr} {x : HO} (n : H p = none) : Kp S H (upd H p x) := fun b o h _ => hl_new h n
theorem Kp.set {S : List Addr} {H : Hp} {p : Addr} {x : HO} (m : p ∈ S) : Kp S H (upd H p x) := fun b o h n => hl_set (fun e => n (e ▸ m)) h
/-- a thing made since H is changed -/
theorem Kp.own {S : List Addr} {H H1 : Hp} {p : Addr} {x : HO} (k : Kp S H H1) (n : H p = none) : Kp S H (upd H1 p x) := fun b o h m => hl_set (ne_of_none h n) (k b o h m)
theorem Kp.sub {S S' : List Addr} {H H' : Hp} (k : Kp S H H') (m : ∀ a ∈ S, a ∈ S') : Kp S' H H' := fun b o h n => k b o h fun z => n (m b z)
theorem Kp.ofSame {S : List Addr} {H H' : Hp} (k : Same H H') : Kp S H H' := fun b o h _ => k b o h
theorem Kp.nil {H H' : Hp} (k : Kp [] H H') : Same H H' := fun b o h => k b o h (by simp)
theorem Kp.free {S : List Addr} {H H' : Hp} (k : Kp S H H') {p : Addr} (n : H' p = none) (m : p ∉ S) : H p = none := by
  cases q : H p with
  | none => rfl
  | some o => rw [k p o q m] at n; cases n
theorem Same.upd_new {H : Hp} {p : Addr} {x : HO} (n : H p = none) : Same H (upd H p x) := fun b o h => hl_new h n
theorem hl_kp {S : List Addr} {H H' : Hp} {a : Addr} {o : HO} (k : Kp S H H') (n : a ∉ S) (h : H a = some o) : H' a = some o := k _ _ h n
theorem hl_same {H H' : Hp} {a : Addr} {o : HO} (k : Same H H') (h : H a = some o) : H' a = some o := k _ _ h
/-- every object outside S stands, outside S' -/
def Lft (S : List Addr) (H : Hp) (S' : List Addr) (H' : Hp) : Prop := ∀ a o, H a = some o → a ∉ S → H' a = some o ∧ a ∉ S'
theorem Lft.refl {S : List Addr} {H : Hp} : Lft S H S H := fun _ _ h n => ⟨h, n⟩
theorem Lft.trans {S S1 S2 : List Addr} {H H1 H2 : Hp} (a : Lft S H S1 H1) (b : Lft S1 H1 S2 H2) : Lft S H S2 H2 := fun x o h n => b x o (a x o h n).1 (a x o h n).2
theorem Lft.new {S : List Addr} {H : Hp} {p : Addr} {x : HO} (n : H p = none) : Lft S H S (upd H p x) := fun _ _ h m => ⟨hl_new h n, m⟩
theorem Lft.set {S : List Addr} {H : Hp} {p : Addr} {x : HO} (m : p ∈ S) : Lft S H S (upd H p x) := fun _ _ h n => ⟨hl_set (fun e => n (e ▸ m)) h, n⟩
theorem Lft.kp {S S1 : List Addr} {H H1 : Hp} (k : Kp S H H1) (m : ∀ a ∈ S, a ∈ S1) : Lft S1 H S1 H1 := fun b o h n => ⟨k b o h fun z => n (m b z), n⟩
theorem Lft.same {S : List Addr} {H H1 : Hp} (k : Same H H1) : Lft S H S H1 := fun b o h n => ⟨k b o h, n⟩
theorem Lft.own {S : List Addr} {H : Hp} {p : Addr} {x : HO} (n : H p = none) : Lft S H (p :: S) (upd H p x) := fun a _ h m => ⟨hl_new h n, fun z => by
  rcases List.mem_cons.mp z with e | e
  · exact ne_of_none h n e
  · exact m e⟩
theorem Lft.sub {S S' : List Addr} {H : Hp} (m : ∀ a ∈ S', a ∈ S) : Lft S H S' H := fun a _ h n => ⟨h, fun z => n (m a z)⟩
/-- plain data -/
inductive O where
  | non | bl (b : Bool) | int (i : Int) | str (x : Str) | tup (os : List O) | lst (os : List O) | dct
mutual
inductive Rep (S : List Addr) (H : Hp) : V → O → Prop
  | non : Rep S H .non .non
  | bl (b : Bool) : Rep S H (.bl b) (.bl b)
  | int (i : Int) : Rep S H (.int i) (.int i)
  | str (x : Str) : Rep S H (.str x) (.str x)
  | tup {a : Addr} {xs : List V} {os : List O} : H a = some (.tup xs) → a ∉ S → RepAll S H xs os → Rep S H (.ref a) (.tup os)
  | lst {a : Addr} {xs : List V} {os : List O} : H a = some (.lst xs) → a ∉ S → RepAll S H xs os → Rep S H (.ref a) (.lst os)
  | dct {a : Addr} {kvs : List (Key × V)} : H a = some (.dK kvs) → a ∉ S → Rep S H (.ref a) .dct
inductive RepAll (S : List Addr) (H : Hp) : List V → List O → Prop
  | nil : RepAll S H [] []
  | cons {v : V} {vs : List V} {o : O} {os : List O} : Rep S H v o → RepAll S H vs os → RepAll S H (v :: vs) (o :: os)
end
mutual
theorem Rep.to {S S' : List Addr} {H H' : Hp} (k : Lft S H S' H') : ∀ {v : V} {o : O}, Rep S H v o → Rep S' H' v o
  | _, _, .non => .non
  | _, _, .bl b => .bl b
  | _, _, .int i => .int i
  | _, _, .str x => .str x
  | _, _, .tup h n r => .tup (k _ _ h n).1 (k _ _ h n).2 (RepAll.to k r)
  | _, _, .lst h n r => .lst (k _ _ h n).1 (k _ _ h n).2 (RepAll.to k r)
  | _, _, .dct h n => .dct (k _ _ h n).1 (k _ _ h n).2
theorem RepAll.to {S S' : List Addr} {H H' : Hp} (k : Lft S H S' H') : ∀ {vs : List V} {os : List O}, RepAll S H vs os → RepAll S' H' vs os
  | _, _, .nil => .nil
  | _, _, .cons r t => .cons (Rep.to k r) (RepAll.to k t)
end
section
variable {S : List Addr} {H : Hp}
theorem RepAll.length : ∀ {vs : List V} {os : List O}, RepAll S H vs os → vs.length = os.length
  | _, _, .nil => rfl
  | _, _, .cons _ t => congrArg (· + 1) (RepAll.length t)
theorem RepAll.get : ∀ {vs : List V} {os : List O} {i : Nat} {v : V}, RepAll S H vs os → vs[i]? = some v → ∃ o, os[i]? = some o ∧ Rep S H v o
  | _, _, _, _, .nil, e => by simp at e
  | _, _, 0, _, .cons r _, e => by simp at e; subst e; exact ⟨_, rfl, r⟩
  | _, _, i + 1, v, .cons _ t, e => by
    obtain ⟨o, h1, h2⟩ := RepAll.get (i := i) (v := v) t (by simpa using e)
    exact ⟨o, by simpa using h1, h2⟩
theorem RepAll.append : ∀ {vs us : List V} {os qs : List O}, RepAll S H vs os → RepAll S H us qs → RepAll S H (vs ++ us) (os ++ qs)
  | _, _, _, _, .nil, s => s
  | _, _, _, _, .cons r t, s => .cons r (RepAll.append t s)
theorem RepAll.take : ∀ {vs : List V} {os : List O} (n : Nat), RepAll S H vs os → RepAll S H (vs.take n) (os.take n)
  | _, _, 0, _ => .nil
  | _, _, _ + 1, .nil => .nil
  | _, _, n + 1, .cons r t => .cons r (RepAll.take n t)
theorem RepAll.drop : ∀ {vs : List V} {os : List O} (n : Nat), RepAll S H vs os → RepAll S H (vs.drop n) (os.drop n)
  | _, _, 0, r => r
  | _, _, _ + 1, .nil => .nil
  | _, _, n + 1, .cons _ t => RepAll.drop n t
theorem RepAll.ints : ∀ (ns : List Int), RepAll S H (ns.map V.int) (ns.map O.int)
  | [] => .nil
  | n :: ns => .cons (.int n) (RepAll.ints ns)
theorem RepAll.ints_inv : ∀ {ns : List Int} {vs : List V}, RepAll S H vs (ns.map O.int) → vs = ns.map V.int
  | [], _, .nil => rfl
  | n :: ns, _, .cons r t => by cases r; rw [RepAll.ints_inv t]; rfl
theorem Rep.tupInv {v : V} {os : List O} (r : Rep S H v (.tup os)) : ∃ a xs, v = .ref a ∧ H a = some (.tup xs) ∧ a ∉ S ∧ RepAll S H xs os := by
  cases r with
  | tup h n t => exact ⟨_, _, rfl, h, n, t⟩
end
/-! ### the drawn state -/
structure StAt (s c : Addr) (H : Hp) (cs : List Int) (j r : Int) : Prop where
  hs : H s = some (.lst [.ref c, .int j, .int r])
  hc : H c = some (.lst (cs.map .int))
  ne : cs ≠ []
  nn : ∀ x ∈ cs, 0 ≤ x
  len : cs.length ≤ 1000
  hj : 0 ≤ j
  hr : 0 ≤ r
  hr' : r < 2147483647
def St (s c : Addr) (H : Hp) : Prop := s ≠ c ∧ ∃ cs j r, StAt s c H cs j r
theorem St.out {s c p : Addr} {H : Hp} (h : St s c H) (n : H p = none) : p ∉ [s, c] := by
  obtain ⟨_, cs, j, r, h⟩ := h
  intro z
  rcases List.mem_cons.mp z with e | z
  · rw [e, h.hs] at n; cases n
  · rw [List.mem_singleton.mp z, h.hc] at n; cases n
theorem St.same {s c : Addr} {H H' : Hp} (h : St s c H) (k : Same H H') : St s c H' := by
  obtain ⟨n, cs, j, r, h⟩ := h
  exact ⟨n, cs, j, r, k _ _ h.hs, k _ _ h.hc, h.ne, h.nn, h.len, h.hj, h.hr, h.hr'⟩
theorem St.new {s c p : Addr} {H : Hp} {x : HO} (h : St s c H) (n : H p = none) : St s c (upd H p x) := h.same (Same.upd_new n)
theorem St.set {s c p : Addr} {H : Hp} {x : HO} (h : St s c H) (n : p ∉ [s, c]) : St s c (upd H p x) := by
  obtain ⟨n0, cs, j, r, h⟩ := h
  exact ⟨n0, cs, j, r, hl_set (fun e => n (by simp [e])) h.hs, hl_set (fun e => n (by simp [e])) h.hc, h.ne, h.nn, h.len, h.hj, h.hr, h.hr'⟩
/-! ### loops and comprehensions -/
section
variable {K : PySem.W.Frag} {D : Ends} {σ : L2.St} {H : Hp} {Q : VK}
def Lp (J : It) (g : TG) (tb : TS) (D : Ends) (σ : L2.St) (H1 : Hp) : Prop := ∃ W : Nat → Nat → L2.St → Hp → Prop, (∃ m, W 0 m σ H1) ∧ ∀ i m σ H, W i m σ H →
  (J.stop i H ∧ D.nx σ H) ∨ (J.go i H ∧ ∃ N : L2.St → Hp → Prop, (∀ σ' H', N σ' H' → ∃ m', m' < m ∧ W (i + 1) m' σ' H') ∧ ∀ x H', J.yld i H x H' → g x σ H' fun σ2 H2 => tb { D with nx := N, ct := N, bk := D.nx } σ2 H2)
theorem r_for {wi : TI} {g : TG} {tb : TS} (h : wi σ H fun J H1 => Lp J g tb D σ H1) : tFor wi g tb D σ H := h
def Rg1 (R : It → Hp → Prop) (vs : List V) (H : Hp) : Prop := ∃ j : Int, vs = [.int j] ∧ -(2 ^ 62) ≤ j ∧ j < 2 ^ 62 ∧ R (Itr 0 j.toNat) H
theorem r_irng1 {ta : TA} {R : It → Hp → Prop} (h : ta σ H (Rg1 R)) : iRng1 ta σ H R := h
theorem r_rg1 {R : It → Hp → Prop} {j : Int} (c : -(2 ^ 62) ≤ j ∧ j < 2 ^ 62) (h : R (Itr 0 j.toNat) H) : Rg1 R [.int j] H := ⟨j, rfl, c.1, c.2, h⟩
def Rg2 (R : It → Hp → Prop) (vs : List V) (H : Hp) : Prop := ∃ i j : Int, vs = [.int i, .int j] ∧ (-(2 ^ 62) ≤ i ∧ i < 2 ^ 62 ∧ -(2 ^ 62) ≤ j ∧ j < 2 ^ 62) ∧ R (Itr i (j - i).toNat) H
theorem r_irng2 {ta : TA} {R : It → Hp → Prop} (h : ta σ H (Rg2 R)) : iRng2 ta σ H R := h
theorem r_rg2 {R : It → Hp → Prop} {i j : Int} (c : -(2 ^ 62) ≤ i ∧ i < 2 ^ 62 ∧ -(2 ^ 62) ≤ j ∧ j < 2 ^ 62) (h : R (Itr i (j - i).toNat) H) : Rg2 R [.int i, .int j] H := ⟨i, j, rfl, c, h⟩
def IlR (K : PySem.W.Frag) (R : It → Hp → Prop) (x : V) (H : Hp) : Prop := ∃ a, x = .ref a ∧ (∃ xs, SqL K H a xs) ∧ R (Itl K a) H
theorem r_ilist {tl : TE} {R : It → Hp → Prop} (h : tl σ H (IlR K R)) : iList K tl σ H R := h
theorem r_il {R : It → Hp → Prop} {a : Addr} {xs : List V} (e : SqL K H a xs) (h : R (Itl K a) H) : IlR K R (.ref a) H := ⟨a, rfl, ⟨xs, e⟩, h⟩
def ItR (K : PySem.W.Frag) (R : It → Hp → Prop) (x : V) (H : Hp) : Prop := ∃ a, x = .ref a ∧ (∃ xs, SqT K H a xs) ∧ R (Itt K a) H
theorem r_itup {tl : TE} {R : It → Hp → Prop} (h : tl σ H (ItR K R)) : iTup K tl σ H R := h
theorem r_it {R : It → Hp → Prop} {a : Addr} {xs : List V} (e : SqT K H a xs) (h : R (Itt K a) H) : ItR K R (.ref a) H := ⟨a, rfl, ⟨xs, e⟩, h⟩
def IzR (K : PySem.W.Frag) (R : It → Hp → Prop) (vs : List V) (H1 : Hp) : Prop := ∃ a b xs ys, vs = [.ref a, .ref b] ∧ ((SqL K H1 a xs ∧ SqL K H1 b ys ∧ R (Itz K a b) H1) ∨ (SqT K H1 a xs ∧ SqT K H1 b ys ∧ R (ItzT K a b) H1))
theorem r_izip {ta : TA} {R : It → Hp → Prop} (h : ta σ H (IzR K R)) : iZipA K ta σ H R := h
theorem r_izt {R : It → Hp → Prop} {a b : Addr} {xs ys : List V} (e1 : SqT K H a xs) (e2 : SqT K H b ys) (h : R (ItzT K a b) H) : IzR K R [.ref a, .ref b] H := ⟨a, b, xs, ys, rfl, .inr ⟨e1, e2, h⟩⟩
theorem lp_by {J : It} {n : Nat} {G : Hp → Prop} {Y : Nat → Hp → V → Hp → Prop} (w : Walk J n G Y) {g : TG} {tb : TS} (Pv : Nat → L2.St → Hp → Prop) (h0 : Pv 0 σ H) (hG : ∀ i σ H, i ≤ n → Pv i σ H → G H)
    (hs : ∀ i x σ H H', i < n → Pv i σ H → Y i H x H' → g x σ H' fun σ2 H2 => tb { D with nx := Pv (i + 1), ct := Pv (i + 1), bk := D.nx } σ2 H2) (hd : ∀ σ H, Pv n σ H → D.nx σ H) : Lp J g tb D σ H := for_it w Pv h0 hG hs hd
/-- ways that meet: what holds of slots and heap where they do -/
theorem r_join {c : TT} {t u : TS} (G : L2.St → Hp → Prop) (h2 : ∀ σ' H', G σ' H' → D.nx σ' H') (h1 : ∀ N : L2.St → Hp → Prop, (∀ σ' H', G σ' H' → N σ' H') → tIfS c t u { D with nx := N } σ H) : tIfS c t u D σ H := h1 D.nx h2
theorem r_joinE {te : TE} (G : V → Hp → Prop) (h2 : ∀ v H', G v H' → Q v H') (h1 : ∀ Q' : VK, (∀ v H', G v H' → Q' v H') → te σ H Q') : te σ H Q := h1 Q h2
theorem r_joinT {te : TT} {R : Bool → Hp → Prop} (G : Bool → Hp → Prop) (h2 : ∀ v H', G v H' → R v H') (h1 : ∀ R' : Bool → Hp → Prop, (∀ v H', G v H' → R' v H') → te σ H R') : te σ H R := h1 R h2
theorem walk_zipT {a b : Addr} {xs ys : List V} {n : Nat} (hn : n = min xs.length ys.length) : Walk (ItzT K a b) n (fun H => SqT K H a xs ∧ SqT K H b ys) (YPair (fun i => xs[i]?) (fun i => ys[i]?)) where
  goes := fun i H hi h => ⟨xs, ys, xs[i]'(by omega), ys[i]'(by omega), h.1, h.2, List.getElem?_eq_getElem (by omega), List.getElem?_eq_getElem (by omega)⟩
  stops := fun H h => ⟨xs, ys, h.1, h.2, by omega⟩
  yields := fun i H x H' _ h y => by
    obtain ⟨T, x1, y1, e1, e2, e3, e4, e5⟩ := y
    exact ⟨T, x1, y1, e1, e2, e3, e4 xs h.1, e5 ys h.2⟩
/-- a comprehension's turns -/
def Lc (J : It) (g : TG) (tt : TT) (te : TE) (vs : List Nat) (σ : L2.St) (D : Addr) (Q : VK) (H1 : Hp) : Prop := ∃ W : Nat → Nat → Hp → Prop, (∃ m, W 0 m (upd H1 D (.lst []))) ∧ ∀ i m H, W i m H →
  (J.stop i H ∧ Q (.ref D) H) ∨ (J.go i H ∧ ∃ Nx : Hp → Prop, (∀ H', Nx H' → ∃ m', m' < m ∧ W (i + 1) m' H') ∧ ∀ x H', J.yld i H x H' → g x (wipe σ vs) H' fun σ2 H2 => wipe σ2 vs = wipe σ vs ∧ tt σ2 H2 fun b H3 =>
    if b = true then te σ2 H3 fun y H4 => ∃ acc, H4 D = some (.lst acc) ∧ acc.length < sizeLine ∧ Nx (upd H4 D (.lst (acc ++ [y]))) else Nx H3)
theorem r_lc {wi : TI} {g : TG} {tt : TT} {te : TE} {vs : List Nat} (h : wi σ H fun J H1 => ∀ D, H1 D = none → Lc J g tt te vs σ D Q H1) : tLc wi g tt te vs σ H Q := h
/-- what an item's part of a turn is to reach: kept with a value, or not kept -/
def LcT (g : TG) (tt : TT) (te : TE) (vs : List Nat) (σ : L2.St) (x : V) (H : Hp) (Y : V → Hp → Prop) (No : Hp → Prop) : Prop :=
  g x (wipe σ vs) H fun σ2 H2 => wipe σ2 vs = wipe σ vs ∧ tt σ2 H2 fun b H3 => if b = true then te σ2 H3 Y else No H3
/-- the list is made of the values kept: R i says what the i-th turn's part is -/
theorem lc_by {J : It} {n : Nat} {G : Hp → Prop} {Yd : Nat → Hp → V → Hp → Prop} (w : Walk J n G Yd) {g : TG} {tt : TT} {te : TE} {vs : List Nat} {D : Addr} (Pv : Nat → Hp → Prop) (h0 : Pv 0 (upd H D (.lst []))) (hG : ∀ i H, i ≤ n → Pv i H → G H)
    (hs : ∀ i x H H', i < n → Pv i H → Yd i H x H' → LcT g tt te vs σ x H' (fun y H4 => ∃ acc, H4 D = some (.lst acc) ∧ acc.length < sizeLine ∧ Pv (i + 1) (upd H4 D (.lst (acc ++ [y])))) (fun H3 => Pv (i + 1) H3)) (hd : ∀ H, Pv n H → Q (.ref D) H) : Lc J g tt te vs σ D Q H := by
  refine ⟨fun i m H => m = n - i ∧ i ≤ n ∧ Pv i H, ⟨n, by simp, Nat.zero_le _, h0⟩, ?_⟩
  rintro i m H ⟨rfl, hi, p⟩
  by_cases hlt : i < n
  · exact .inr ⟨w.goes i H hlt (hG i H hi p), Pv (i + 1), fun H' p' => ⟨n - (i + 1), by omega, rfl, hlt, p'⟩, fun x H' y => hs i x H H' hlt p (w.yields i H x H' hlt (hG i H hi p) y)⟩
  · have e : i = n := by omega
    subst e
    exact .inl ⟨w.stops H (hG _ H hi p), hd H p⟩
/-- every item is kept; its value is told by R, which new objects leave true; the source is left as it is -/
theorem lc_map {J : It} {n : Nat} {G : Hp → Prop} {Yd : Nat → Hp → V → Hp → Prop} (w : Walk J n G Yd) (hn : n ≤ 1000000) {g : TG} {tt : TT} {te : TE} {vs : List Nat} {D : Addr} (nD : H D = none) (R : Nat → V → Hp → Prop) (hR : ∀ i v H H', R i v H → Same H H' → R i v H')
    (hRD : ∀ i v H' acc acc', R i v H' → H' D = some (.lst acc) → R i v (upd H' D (.lst acc'))) (hG : ∀ H', Same H H' → G H') (hY : ∀ i H1 x H2, Yd i H1 x H2 → Same H1 H2)
    (hs : ∀ i x H1 H2 (Y : V → Hp → Prop) (No : Hp → Prop), i < n → Same H H1 → Yd i H1 x H2 → (∀ y H4, Same H2 H4 → R i y H4 → Y y H4) → LcT g tt te vs σ x H2 Y No)
    (hd : ∀ ys H', ys.length = n → Same H H' → H' D = some (.lst ys) → (∀ i y, ys[i]? = some y → R i y H') → Q (.ref D) H') : Lc J g tt te vs σ D Q H := by
  refine lc_by w (fun i H' => Same H H' ∧ ∃ ys : List V, ys.length = i ∧ H' D = some (.lst ys) ∧ ∀ j y, ys[j]? = some y → R j y H') ⟨Same.upd_new nD, [], rfl, upd_same, fun j y e => by simp at e⟩ (fun i H' _ p => hG H' p.1) (fun i x H1 H2 hi p y => ?_) (fun H' p => ?_)
  · obtain ⟨sm, ys, el, eD, hr⟩ := p
    have s2 := hY _ _ _ _ y
    refine hs i x H1 H2 _ _ hi sm y (fun v H4 q1 q2 => ?_)
    have s4 : Same H1 H4 := s2.trans q1
    have e4 : H4 D = some (.lst ys) := s4 _ _ eD
    refine ⟨ys, e4, by rw [el]; exact Nat.lt_of_lt_of_le (Nat.lt_of_lt_of_le hi hn) (by decide), fun b o e => ?_, ys ++ [v], by simp [el], upd_same, fun j y' e => ?_⟩
    · exact hl_set (ne_of_none e nD) (s4 _ _ (sm _ _ e))
    · by_cases hj : j < ys.length
      · rw [List.getElem?_append_left hj] at e
        exact hRD _ _ _ _ _ (hR _ _ _ _ (hr j y' e) s4) e4
      · rw [List.getElem?_append_right (by omega)] at e
        have hj2 : j - ys.length = 0 := by
          cases h : j - ys.length with
          | zero => rfl
          | succ m => rw [h] at e; simp at e
        rw [hj2] at e
        simp at e
        subst e
        have : j = i := by omega
        subst this
        exact hRD _ _ _ _ _ q2 e4
  · obtain ⟨sm, ys, el, eD, hr⟩ := p
    exact hd ys H' el sm eD hr
/-- items are kept or not: t tells which -/
theorem lc_filt {J : It} {n : Nat} {G : Hp → Prop} {Yd : Nat → Hp → V → Hp → Prop} (w : Walk J n G Yd) (hn : n ≤ 1000000) {g : TG} {tt : TT} {te : TE} {vs : List Nat} {D : Addr} (nD : H D = none) (t : Nat → Bool) (hG : ∀ H', Same H H' → G H') (hY : ∀ i H1 x H2, Yd i H1 x H2 → Same H1 H2)
    (hs : ∀ i x H1 H2 (Y : V → Hp → Prop) (No : Hp → Prop), i < n → Same H H1 → Yd i H1 x H2 → (t i = true → ∀ y H4, Same H2 H4 → Y y H4) → (t i = false → ∀ H4, Same H2 H4 → No H4) → LcT g tt te vs σ x H2 Y No)
    (hd : ∀ ys H', ys.isEmpty = (List.range n).all (fun i => !t i) → ys.length ≤ n → Same H H' → H' D = some (.lst ys) → Q (.ref D) H') : Lc J g tt te vs σ D Q H := by
  refine lc_by w (fun i H' => Same H H' ∧ ∃ ys : List V, ys.isEmpty = (List.range i).all (fun i => !t i) ∧ ys.length ≤ i ∧ H' D = some (.lst ys)) ⟨Same.upd_new nD, [], rfl, Nat.le_refl _, upd_same⟩ (fun i H' _ p => hG H' p.1) (fun i x H1 H2 hi p y => ?_) (fun H' p => ?_)
  · obtain ⟨sm, ys, ee, el, eD⟩ := p
    have s2 := hY _ _ _ _ y
    refine hs i x H1 H2 _ _ hi sm y (fun ht v H4 q => ?_) (fun ht H4 q => ?_)
    · have s4 : Same H1 H4 := s2.trans q
      refine ⟨ys, s4 _ _ eD, Nat.lt_of_le_of_lt el (Nat.lt_of_lt_of_le hi (Nat.le_trans hn (by decide))), fun b o e => hl_set (ne_of_none e nD) (s4 _ _ (sm _ _ e)), ys ++ [v], ?_, by simp; omega, upd_same⟩
      rw [List.range_succ, List.all_append, List.all_cons, ht]
      cases ys <;> simp
    · have s4 : Same H1 H4 := s2.trans q
      refine ⟨sm.trans s4, ys, ?_, by omega, s4 _ _ eD⟩
      rw [List.range_succ, List.all_append, List.all_cons, ht, ee]
      simp
  · obtain ⟨sm, ys, ee, el, eD⟩ := p
    exact hd ys H' ee el sm eD
theorem range_all {α : Type} (f : α → Bool) (d : α) : ∀ os : List α, (List.range os.length).all (fun i => f (os.getD i d)) = os.all f
  | [] => rfl
  | o :: os => by
    rw [List.length_cons, List.range_succ_eq_map, List.all_cons, List.all_map, List.all_cons, ← range_all f d os]
    rfl
end
/-! ### the rules with the written part told -/
section
variable {X : Cx} {K : PySem.W.Frag} {e l tg : Expr} {tl te : TE} {t ta : TA}
theorem ix_listK (q : X.K = K := by rfl) : IxR X (rIxL K) := q ▸ ix_list
theorem ix_tupK (q : X.K = K := by rfl) : IxR X (rIxT K) := q ▸ ix_tup
theorem pi_listK (h : PE X l tl) (q : X.K = K := by rfl) : PI X tg l (iList K tl) := q ▸ pi_list h
theorem pi_tupK (h : PE X l tl) (q : X.K = K := by rfl) : PI X tg l (iTup K tl) := q ▸ pi_tup h
theorem cr_lenK (q : X.K = K := by rfl) : CallR X (.builtin "len") (rLen K) := q ▸ cr_len
theorem cr_listOfK (q : X.K = K := by rfl) : CallR X (.type "list") (rListOf K) := q ▸ cr_listOf
theorem cr_tupOfK (q : X.K = K := by rfl) : CallR X (.type "tuple") (rTupOf K) := q ▸ cr_tupOf
theorem cr_allK (hc : X.calm = true) (q : X.K = K := by rfl) : CallR X (.builtin "all") (rAll K) := q ▸ cr_all hc
theorem cr_sumK (hc : X.calm = true) (q : X.K = K := by rfl) : CallR X (.builtin "sum") (rSum K) := q ▸ cr_sum hc
theorem cr_isiK (q : X.K = K := by rfl) : CallR X (.builtin "isinstance") (rIsi K) := q ▸ call_isi
theorem sl_listK (q : X.K = K := by rfl) : SlR X (rSlL K) := q ▸ sl_list
theorem sl_tupAK (q : X.K = K := by rfl) : SlR X (rSlA K) := q ▸ sl_tupA
theorem op_catAK (q : X.K = K := by rfl) : OpR X (binaryOp .Add) (rCatA K) := q ▸ op_catA
theorem castBM {e : Expr} {T : String} {r : V → List V → Hp → VK → Prop} {to : TE} (h : PE X e (tBM X.K T r to t)) (q : X.K = K := by rfl) : PE X e (tBM K T r to t) := q ▸ h
theorem castBM0 {e : Expr} {T : String} {r : V → List V → Hp → VK → Prop} {to : TE} (h : PE X e (tBM0 X.K T r to)) (q : X.K = K := by rfl) : PE X e (tBM0 K T r to) := q ▸ h
theorem castPI {iter : Expr} {wi : PySem.W.Frag → TI} (h : PI X tg iter (wi X.K)) (q : X.K = K := by rfl) : PI X tg iter (wi K) := q ▸ h
theorem castPG {n : Nat} {tg : Expr} {g : TGs} (h : PG X tg (gTup X.K n g)) (q : X.K = K := by rfl) : PG X tg (gTup K n g) := q ▸ h
end
/-! ### calls by keywords alone; keywords in any order -/
theorem pe_callK0 {X : Cx} {CX : CXT} {k : Nat} {f : Addr} {fd : FuncData} {ps ks : List Str} {sp : Sp} {E : XK} {x : Str} {p pos : Pos} {kws : List Keyword} {tk : TA} {g : List Value → List Value → List Value} {gV : List V → List V → List V}
    (F : FnOk X.prog X.w X.K X.mg X.base CX k f fd ps sp) (hr : Room k X.A) (hg : Gl X x) (hm : X.mg x = some (.ref f)) (hk : PySem.W.keepIn X.K (.ref f) = true) (hb : KBinds X.K fd ps ks g gV) (hx : Passes CX X E)
    (hkw : PK X kws tk) (hall : (backToKw pos (keywordEach kws X.env)).all (·.1.isSome) = true := by rfl) (hks : (backToKw pos (keywordEach kws X.env)).filterMap (·.1) = ks := by rfl)
    (hdb : (x == ("__debug__" : Str)) = false := by decide) (hpl : ((backTo pos (starEach [] X.env)).any (·.1) || (backToKw pos (keywordEach kws X.env)).any (·.1.isNone)) = false := by rfl) :
    PE X (.Call (.Name x p) [] kws pos) (tCallK sp gV E tNil tk) := by
  refine ⟨fun pins s σ H Q I h => wpAny_Call_Name_kw (ld_glob I hg hm ?_ hdb)⟩
  refine PySem.W.callWith_KW0 (h₀ := X.base) I.ok.mod.kin hk hall (thn (hkw.run pos pins s σ H _ I h) fun ws s2 ⟨zs, H2, I2, rz, q2⟩ => ⟨I2.kIn, ?_⟩) hpl
  rw [hks]
  exact run_fnk (us := []) F hr hb hx I2 .nil rz q2
def permV (na nb : Nat) (is : List Nat) (vs zs : List V) : List V := if vs.length = na ∧ zs.length = nb then is.map fun i => (vs ++ zs).getD i .non else []
def permU (na nb : Nat) (is : List Nat) (vs zs : List Value) : List Value := if vs.length = na ∧ zs.length = nb then is.map fun i => (vs ++ zs).getD i .none else []
theorem vals_getD : ∀ {xs : List V} {us : List Value} (i : Nat), Vals xs us → RelV (xs.getD i .non) (us.getD i .none)
  | _, _, _, .nil => rfl
  | _, _, 0, .cons r _ => r
  | _, _, i + 1, .cons _ t => by
    have := vals_getD i t
    simpa using this
theorem vals_map {xs : List V} {us : List Value} (r : Vals xs us) : ∀ is : List Nat, Vals (is.map fun i => xs.getD i .non) (is.map fun i => us.getD i .none)
  | [] => .nil
  | i :: is => .cons (vals_getD i r) (vals_map r is)
theorem kb_perm {K : PySem.W.Frag} {fd : FuncData} {ps ks : List Str} {us0 ws0 : Nat} {is : List Nat} (h0 : ps ≠ [])
    (h : ∀ (us ws : List Value), us.length = us0 → ws.length = ws0 → ∀ s : Shared, BindsTo s fd ⟨us, ks.zip ws⟩ (ps.zip (is.map fun i => (us ++ ws).getD i .none))) : KBinds K fd ps ks (permU us0 ws0 is) (permV us0 ws0 is) where
  to := fun s us ws _ hl => by
    unfold permU at hl ⊢
    by_cases c : us.length = us0 ∧ ws.length = ws0
    · rw [if_pos c]
      exact h us ws c.1 c.2 s
    · rw [if_neg c] at hl
      cases ps with
      | nil => exact absurd rfl h0
      | cons _ _ => simp at hl
  rel := fun {vs us zs ws} r1 r2 => by
    unfold permU permV
    rw [r1.length, r2.length]
    by_cases c : us.length = us0 ∧ ws.length = ws0
    · rw [if_pos c, if_pos c]
      exact vals_map (r1.append r2) is
    · rw [if_neg c, if_neg c]
      exact .nil
section
variable {K : PySem.W.Frag} {D : Ends} {σ : L2.St} {H : Hp} {Q : VK}
theorem r_callk {sp : Sp} {gV : List V → List V → List V} {E : XK} {t tk : TA} (h : t σ H fun vs H1 => tk σ H1 fun zs H2 => sp (gV vs zs) H2 Q E) : tCallK sp gV E t tk σ H Q := h
theorem r_perm {sp : Sp} {E : XK} {na nb : Nat} {is : List Nat} {vs zs : List V} (h1 : vs.length = na) (h2 : zs.length = nb) (h : sp (is.map fun i => (vs ++ zs).getD i .non) H Q E) : sp (permV na nb is vs zs) H Q E := by
  unfold permV; rw [if_pos ⟨h1, h2⟩]; exact h
end
theorem hu_of64 {A : Around} {k : Nat} (hr : Room k A) : A.units + 64 < cLine := hr.units
/-! ### against the empty list, the empty tuple -/
def rNil (K : PySem.W.Frag) (g : Bool → Bool) : R2 := fun x y H Q => ∃ a b xs, x = .ref a ∧ y = .ref b ∧ SqL K H a xs ∧ SqL K H b [] ∧ Q (.bl (g xs.isEmpty)) H
def rNilT (K : PySem.W.Frag) (g : Bool → Bool) : R2 := fun x y H Q => ∃ a b xs, x = .ref a ∧ y = .ref b ∧ SqT K H a xs ∧ SqT K H b [] ∧ Q (.bl (g xs.isEmpty)) H
theorem op_eqNil {X : Cx} (hu : X.A.units + 64 < cLine) : OpR X (compareOp .Eq) (rNil X.K id) := by
  intro pins s σ H x y v u Q I rx ry h
  obtain ⟨a, b, xs, rfl, rfl, h1, h2, q⟩ := h
  cases rx; cases ry
  obtain ⟨its, rv, p1, _⟩ := I.list h1
  obtain ⟨its2, rv2, p2, _⟩ := I.list h2
  cases rv2
  have e1 : xs.length = its.length := rv.length
  cases xs with
  | nil =>
    cases rv
    exact PySem.SeqAt.eq_listAt (e := fun _ => true) p1.isList p2.isList rfl (by omega) (fun j h => absurd h (Nat.not_lt_zero j)) ⟨.bl _, H, I, rfl, q⟩
  | cons z zs =>
    cases its with
    | nil => simp at e1
    | cons _ _ => exact PySem.SeqAt.eq_list_lengthsAt p1.isList p2.isList rfl (by omega) ⟨.bl false, H, I, rfl, q⟩
theorem op_neNil {X : Cx} (hu : X.A.units + 64 < cLine) : OpR X (compareOp .NotEq) (rNil X.K not) := by
  intro pins s σ H x y v u Q I rx ry h
  obtain ⟨a, b, xs, rfl, rfl, h1, h2, q⟩ := h
  cases rx; cases ry
  obtain ⟨its, rv, p1, _⟩ := I.list h1
  obtain ⟨its2, rv2, p2, _⟩ := I.list h2
  cases rv2
  have e1 : xs.length = its.length := rv.length
  cases xs with
  | nil =>
    cases rv
    exact PySem.SeqAt.RcNeAt.lists (e := fun _ => true) p1.isList p2.isList rfl (by omega) (fun j h => absurd h (Nat.not_lt_zero j)) _ _ _ _ ⟨.bl _, H, I, rfl, q⟩
  | cons z zs =>
    cases its with
    | nil => simp at e1
    | cons _ _ => exact PySem.SeqAt.RcNeAt.lists_lengths p1.isList p2.isList rfl (by omega) _ _ _ _ ⟨.bl true, H, I, rfl, q⟩
theorem op_eqNilT {X : Cx} (hu : X.A.units + 64 < cLine) : OpR X (compareOp .Eq) (rNilT X.K id) := by
  intro pins s σ H x y v u Q I rx ry h
  obtain ⟨a, b, xs, rfl, rfl, h1, h2, q⟩ := h
  cases rx; cases ry
  obtain ⟨its, rv, p1, _⟩ := I.tuple h1
  obtain ⟨its2, rv2, p2, _⟩ := I.tuple h2
  cases rv2
  have e1 : xs.length = its.length := rv.length
  refine PySem.SeqAt.eq_tupleAt (e := fun _ => true) (show s.heap.IsTuple a its.toArray from p1) (show s.heap.IsTuple b #[] from p2) (by omega) (fun j _ h => absurd h (Nat.not_lt_zero j)) ⟨.bl xs.isEmpty, H, I, ?_, q⟩
  cases xs with
  | nil =>
    cases rv
    rfl
  | cons z zs =>
    cases its with
    | nil => simp at e1
    | cons _ _ => rfl
theorem op_eqNilK {X : Cx} {K : PySem.W.Frag} (hu : X.A.units + 64 < cLine) (q : X.K = K := by rfl) : OpR X (compareOp .Eq) (rNil K id) := q ▸ op_eqNil hu
theorem op_neNilK {X : Cx} {K : PySem.W.Frag} (hu : X.A.units + 64 < cLine) (q : X.K = K := by rfl) : OpR X (compareOp .NotEq) (rNil K not) := q ▸ op_neNil hu
theorem op_eqNilTK {X : Cx} {K : PySem.W.Frag} (hu : X.A.units + 64 < cLine) (q : X.K = K := by rfl) : OpR X (compareOp .Eq) (rNilT K id) := q ▸ op_eqNilT hu
section
variable {K : PySem.W.Frag} {H : Hp} {Q : VK}
theorem r_nilL {g : Bool → Bool} {a b : Addr} {xs : List V} (h1 : SqL K H a xs) (h2 : SqL K H b []) (q : Q (.bl (g xs.isEmpty)) H) : rNil K g (.ref a) (.ref b) H Q := ⟨a, b, xs, rfl, rfl, h1, h2, q⟩
theorem r_nilT {g : Bool → Bool} {a b : Addr} {xs : List V} (h1 : SqT K H a xs) (h2 : SqT K H b []) (q : Q (.bl (g xs.isEmpty)) H) : rNilT K g (.ref a) (.ref b) H Q := ⟨a, b, xs, rfl, rfl, h1, h2, q⟩
end
theorem kt_NoneType_int {K : PySem.W.Frag} : PySem.W.kitOne K (.type "NoneType") (.type "int") = some false := kit_ty (by decide +kernel)
theorem kt_bool_int {K : PySem.W.Frag} : PySem.W.kitOne K (.type "bool") (.type "int") = some true := kit_ty (by decide +kernel)
theorem kt_int_int {K : PySem.W.Frag} : PySem.W.kitOne K (.type "int") (.type "int") = some true := kit_ty (by decide +kernel)
theorem kt_str_int {K : PySem.W.Frag} : PySem.W.kitOne K (.type "str") (.type "int") = some false := kit_ty (by decide +kernel)
theorem kt_tuple_int {K : PySem.W.Frag} : PySem.W.kitOne K (.type "tuple") (.type "int") = some false := kit_ty (by decide +kernel)
theorem kt_list_int {K : PySem.W.Frag} : PySem.W.kitOne K (.type "list") (.type "int") = some false := kit_ty (by decide +kernel)
theorem kt_dict_int {K : PySem.W.Frag} : PySem.W.kitOne K (.type "dict") (.type "int") = some false := kit_ty (by decide +kernel)
theorem kt_NoneType_bool {K : PySem.W.Frag} : PySem.W.kitOne K (.type "NoneType") (.type "bool") = some false := kit_ty (by decide +kernel)
theorem kt_bool_bool {K : PySem.W.Frag} : PySem.W.kitOne K (.type "bool") (.type "bool") = some true := kit_ty (by decide +kernel)
theorem kt_int_bool {K : PySem.W.Frag} : PySem.W.kitOne K (.type "int") (.type "bool") = some false := kit_ty (by decide +kernel)
theorem kt_str_bool {K : PySem.W.Frag} : PySem.W.kitOne K (.type "str") (.type "bool") = some false := kit_ty (by decide +kernel)
theorem kt_tuple_bool {K : PySem.W.Frag} : PySem.W.kitOne K (.type "tuple") (.type "bool") = some false := kit_ty (by decide +kernel)
theorem kt_list_bool {K : PySem.W.Frag} : PySem.W.kitOne K (.type "list") (.type "bool") = some false := kit_ty (by decide +kernel)
theorem kt_dict_bool {K : PySem.W.Frag} : PySem.W.kitOne K (.type "dict") (.type "bool") = some false := kit_ty (by decide +kernel)
theorem kt_NoneType_tuple {K : PySem.W.Frag} : PySem.W.kitOne K (.type "NoneType") (.type "tuple") = some false := kit_ty (by decide +kernel)
theorem kt_bool_tuple {K : PySem.W.Frag} : PySem.W.kitOne K (.type "bool") (.type "tuple") = some false := kit_ty (by decide +kernel)
theorem kt_int_tuple {K : PySem.W.Frag} : PySem.W.kitOne K (.type "int") (.type "tuple") = some false := kit_ty (by decide +kernel)
theorem kt_str_tuple {K : PySem.W.Frag} : PySem.W.kitOne K (.type "str") (.type "tuple") = some false := kit_ty (by decide +kernel)
theorem kt_tuple_tuple {K : PySem.W.Frag} : PySem.W.kitOne K (.type "tuple") (.type "tuple") = some true := kit_ty (by decide +kernel)
theorem kt_list_tuple {K : PySem.W.Frag} : PySem.W.kitOne K (.type "list") (.type "tuple") = some false := kit_ty (by decide +kernel)
theorem kt_dict_tuple {K : PySem.W.Frag} : PySem.W.kitOne K (.type "dict") (.type "tuple") = some false := kit_ty (by decide +kernel)
theorem kt_NoneType_str {K : PySem.W.Frag} : PySem.W.kitOne K (.type "NoneType") (.type "str") = some false := kit_ty (by decide +kernel)
theorem kt_bool_str {K : PySem.W.Frag} : PySem.W.kitOne K (.type "bool") (.type "str") = some false := kit_ty (by decide +kernel)
theorem kt_int_str {K : PySem.W.Frag} : PySem.W.kitOne K (.type "int") (.type "str") = some false := kit_ty (by decide +kernel)
theorem kt_str_str {K : PySem.W.Frag} : PySem.W.kitOne K (.type "str") (.type "str") = some true := kit_ty (by decide +kernel)
theorem kt_tuple_str {K : PySem.W.Frag} : PySem.W.kitOne K (.type "tuple") (.type "str") = some false := kit_ty (by decide +kernel)
theorem kt_list_str {K : PySem.W.Frag} : PySem.W.kitOne K (.type "list") (.type "str") = some false := kit_ty (by decide +kernel)
theorem kt_dict_str {K : PySem.W.Frag} : PySem.W.kitOne K (.type "dict") (.type "str") = some false := kit_ty (by decide +kernel)
theorem kt_NoneType_list {K : PySem.W.Frag} : PySem.W.kitOne K (.type "NoneType") (.type "list") = some false := kit_ty (by decide +kernel)
theorem kt_bool_list {K : PySem.W.Frag} : PySem.W.kitOne K (.type "bool") (.type "list") = some false := kit_ty (by decide +kernel)
theorem kt_int_list {K : PySem.W.Frag} : PySem.W.kitOne K (.type "int") (.type "list") = some false := kit_ty (by decide +kernel)
theorem kt_str_list {K : PySem.W.Frag} : PySem.W.kitOne K (.type "str") (.type "list") = some false := kit_ty (by decide +kernel)
theorem kt_tuple_list {K : PySem.W.Frag} : PySem.W.kitOne K (.type "tuple") (.type "list") = some false := kit_ty (by decide +kernel)
theorem kt_list_list {K : PySem.W.Frag} : PySem.W.kitOne K (.type "list") (.type "list") = some true := kit_ty (by decide +kernel)
theorem kt_dict_list {K : PySem.W.Frag} : PySem.W.kitOne K (.type "dict") (.type "list") = some false := kit_ty (by decide +kernel)
theorem kt_NoneType_dict {K : PySem.W.Frag} : PySem.W.kitOne K (.type "NoneType") (.type "dict") = some false := kit_ty (by decide +kernel)
theorem kt_bool_dict {K : PySem.W.Frag} : PySem.W.kitOne K (.type "bool") (.type "dict") = some false := kit_ty (by decide +kernel)
theorem kt_int_dict {K : PySem.W.Frag} : PySem.W.kitOne K (.type "int") (.type "dict") = some false := kit_ty (by decide +kernel)
theorem kt_str_dict {K : PySem.W.Frag} : PySem.W.kitOne K (.type "str") (.type "dict") = some false := kit_ty (by decide +kernel)
theorem kt_tuple_dict {K : PySem.W.Frag} : PySem.W.kitOne K (.type "tuple") (.type "dict") = some false := kit_ty (by decide +kernel)
theorem kt_list_dict {K : PySem.W.Frag} : PySem.W.kitOne K (.type "list") (.type "dict") = some false := kit_ty (by decide +kernel)
theorem kt_dict_dict {K : PySem.W.Frag} : PySem.W.kitOne K (.type "dict") (.type "dict") = some true := kit_ty (by decide +kernel)
local macro_rules | `(tactic| walk_at "ne") => `(tactic| first | assumption | (refine' Ne.symm ?h1; (case h1 => assumption)))
local macro_rules | `(tactic| walk_at "nin") => `(tactic| first | assumption | exact List.not_mem_nil)
local macro_rules | `(tactic| walk_at "hl") => `(tactic| first
  | assumption
  | exact upd_same
  | (refine' hl_new ?h1 ?h2; (case h2 => assumption); (case h1 => walk_at "hl"))
  | (refine' hl_set ?h2 ?h1; (case h2 => walk_at "ne"); (case h1 => walk_at "hl"))
  | (refine' hl_same ?h2 ?h1; (case h2 => assumption); (case h1 => walk_at "hl"))
  | (refine' hl_kp ?h2 ?h3 ?h1; (case h2 => assumption); (case h3 => walk_at "nin"); (case h1 => walk_at "hl")))
local macro_rules | `(tactic| walk_at "sq") => `(tactic| first | assumption | (refine' SqL.of ?h1; (case h1 => walk_at "hl")) | (refine' SqT.of ?h1; (case h1 => walk_at "hl")))
local macro_rules | `(tactic| walk_at "sc") => `(tactic| first | assumption | omega | (dsimp only; omega) | decide | exact .inl ⟨by omega, by omega⟩ | exact .inr ⟨by omega, by omega⟩ | exact ⟨by omega, by decide⟩)
local macro_rules | `(tactic| walk_at "sz") => `(tactic| first | assumption | ((try simp only [List.length_map, List.length_append, List.length_cons, List.length_nil]); have : (1000000 : Nat) ≤ sizeLine := (by decide); omega))
local macro_rules | `(tactic| walk_at "ty") => `(tactic| first | assumption | exact TyX.base (.int _) | exact TyX.base (.bl _) | exact TyX.base .non | exact TyX.base (.str _) | (refine' TyX.base (.tup ?h1); (case h1 => walk_at "hl")) | (refine' TyX.base (.lst ?h1); (case h1 => walk_at "hl")) | (refine' TyX.base (.dK ?h1); (case h1 => walk_at "hl")))
local macro_rules | `(tactic| walk_at "mem") => `(tactic| first | assumption | (simp; done) | (intro _ h; simp at h ⊢; first | exact h | exact .inr h | exact .inr (.inr h) | (rcases h with h | h <;> simp [h])))
local macro_rules | `(tactic| walk_at "stt") => `(tactic| first | assumption | (refine' St.new ?h1 ?h2; (case h2 => assumption); (case h1 => walk_at "stt")) | (refine' St.set ?h1 ?h2; (case h2 => assumption); (case h1 => walk_at "stt")) | (refine' St.same ?h1 ?h2; (case h2 => assumption); (case h1 => walk_at "stt")))
local macro_rules | `(tactic| walk_at "in") => `(tactic| first | assumption | exact List.mem_cons_self | exact List.mem_cons_of_mem _ List.mem_cons_self | exact List.mem_cons_of_mem _ (List.mem_cons_of_mem _ List.mem_cons_self))
local macro_rules | `(tactic| walk_at "kp") => `(tactic| first
  | exact Kp.refl
  | assumption
  | (refine' Kp.trans ?h1 (Kp.new ?h2); (case h2 => assumption); (case h1 => walk_at "kp"))
  | (refine' Kp.trans ?h1 (Kp.set ?h2); (case h2 => walk_at "in"); (case h1 => walk_at "kp"))
  | (refine' Kp.own ?h1 ?h2; (case h2 => assumption); (case h1 => walk_at "kp"))
  | (refine' Kp.trans ?h1 (Kp.sub ?h2 ?h3); (case h2 => assumption); (case h3 => walk_at "mem"); (case h1 => walk_at "kp"))
  | (refine' Kp.trans ?h1 (Kp.ofSame ?h2); (case h2 => assumption); (case h1 => walk_at "kp")))
local macro_rules | `(tactic| walk_at "sm") => `(tactic| first
  | exact Same.refl _
  | assumption
  | (refine' Same.trans ?h1 (Same.upd_new ?h2); (case h2 => assumption); (case h1 => walk_at "sm"))
  | (refine' Same.trans ?h1 ?h2; (case h2 => assumption); (case h1 => walk_at "sm")))
local macro_rules | `(tactic| walk_at "lf") => `(tactic| first
  | exact Lft.refl
  | (refine' Lft.trans ?h1 (Lft.new ?h2); (case h2 => assumption); (case h1 => walk_at "lf"))
  | (refine' Lft.trans ?h1 (Lft.set ?h2); (case h2 => walk_at "in"); (case h1 => walk_at "lf"))
  | (refine' Lft.trans ?h1 (Lft.kp ?h2 ?h3); (case h2 => assumption); (case h3 => walk_at "mem"); (case h1 => walk_at "lf"))
  | (refine' Lft.trans ?h1 (Lft.same ?h2); (case h2 => assumption); (case h1 => walk_at "lf"))
  | (refine' Lft.trans ?h1 (Lft.own ?h2); (case h2 => assumption); (case h1 => walk_at "lf")))
local macro_rules | `(tactic| walk_at "kt") => `(tactic| first | exact kt_NoneType_int | exact kt_bool_int | exact kt_int_int | exact kt_str_int | exact kt_tuple_int | exact kt_list_int | exact kt_dict_int | exact kt_NoneType_bool | exact kt_bool_bool | exact kt_int_bool | exact kt_str_bool | exact kt_tuple_bool | exact kt_list_bool | exact kt_dict_bool | exact kt_NoneType_tuple | exact kt_bool_tuple | exact kt_int_tuple | exact kt_str_tuple | exact kt_tuple_tuple | exact kt_list_tuple | exact kt_dict_tuple | exact kt_NoneType_str | exact kt_bool_str | exact kt_int_str | exact kt_str_str | exact kt_tuple_str | exact kt_list_str | exact kt_dict_str | exact kt_NoneType_list | exact kt_bool_list | exact kt_int_list | exact kt_str_list | exact kt_tuple_list | exact kt_list_list | exact kt_dict_list | exact kt_NoneType_dict | exact kt_bool_dict | exact kt_int_dict | exact kt_str_dict | exact kt_tuple_dict | exact kt_list_dict | exact kt_dict_dict)
local macro_rules | `(tactic| walk_at "st1") => `(tactic| first
  | with_reducible refine r_seq ?_
  | with_reducible refine r_for ?_
  | with_reducible refine r_irng1 ?_
  | ((with_reducible refine r_rg1 ?e1 ?_); (case e1 => omega))
  | with_reducible refine r_irng2 ?_
  | ((with_reducible refine r_rg2 ?e1 ?_); (case e1 => omega))
  | with_reducible refine r_ilist ?_
  | ((with_reducible refine' r_il ?e1 ?_); (case e1 => walk_at "sq"))
  | with_reducible refine r_itup ?_
  | ((with_reducible refine' r_it ?e1 ?_); (case e1 => walk_at "sq"))
  | with_reducible refine r_izip ?_
  | ((with_reducible refine' r_izt ?e1 ?e2 ?_); (case e1 => walk_at "sq"); (case e2 => walk_at "sq"))
  | with_reducible refine r_lc ?_
  | with_reducible refine r_tand ?_
  | with_reducible refine r_tor ?_
  | with_reducible refine r_tnot ?_
  | with_reducible refine r_andv ?_
  | with_reducible refine r_orv ?_
  | with_reducible refine r_notv ?_
  | with_reducible refine r_chain ?_
  | with_reducible refine' r_t ?_
  | with_reducible refine' r_f ?_
  | with_reducible refine r_bm ?_
  | with_reducible refine r_tb ?_
  | with_reducible refine r_yes ?_
  | ((with_reducible refine r_sz ?e1 ?_); (case e1 => rfl))
  | with_reducible refine r_sl ?_
  | ((with_reducible refine' r_sll ?e1 ?_); (case e1 => walk_at "sq"))
  | with_reducible refine r_nopart ?_
  | with_reducible refine r_part ?_
  | with_reducible refine r_parti ?_
  | with_reducible refine r_callk ?_
  | with_reducible refine r_perm (by rfl) (by rfl) ?_
  | ((with_reducible refine' r_nilL ?e1 ?e2 ?_); (case e1 => walk_at "sq"); (case e2 => walk_at "sq"))
  | ((with_reducible refine' r_nilT ?e1 ?e2 ?_); (case e1 => walk_at "sq"); (case e2 => walk_at "sq"))
  | ((with_reducible refine' r_app0 ?e1 ?e2 ?_); (case e1 => walk_at "hl"); (case e2 => walk_at "sz"))
  | ((with_reducible refine' r_ty ?e1 ?_); (case e1 => walk_at "hl"))
  | ((with_reducible refine' r_all ?e1 ?_); (case e1 => walk_at "sq"))
  | ((with_reducible refine' r_sum ?e1 ?_); (case e1 => walk_at "sq"))
  | ((with_reducible refine' r_isi ?e1 ?e2 ?e3 ?_); (case e1 => exact .ty _); (case e2 => walk_at "ty"); (case e3 => walk_at "kt"))
  | with_reducible refine r_asg ?_
  | with_reducible refine r_gname ?_
  | ((with_reducible refine' r_var ?e1 ?_); (case e1 => rfl))
  | with_reducible refine r_c ?_
  | with_reducible refine r_op ?_
  | with_reducible refine r_i0 ?_
  | ((with_reducible refine' r_i ?e1 ?_); (case e1 => walk_at "sc"))
  | ((with_reducible refine' r_ixl ?e1 ?e2 ?_); (case e1 => walk_at "sq"); (case e2 => first | assumption | rfl))
  | ((with_reducible refine' r_ixt ?e1 ?e2 ?_); (case e1 => walk_at "sq"); (case e2 => first | assumption | rfl))
  | with_reducible refine r_cb ?_
  | with_reducible refine r_cons ?_
  | with_reducible refine r_nil ?_
  | ((with_reducible refine' r_len ?e1 ?_); (case e1 => walk_at "sq"))
  | ((with_reducible refine' r_lent ?e1 ?_); (case e1 => walk_at "sq"))
  | with_reducible refine r_abs ?_
  | ((with_reducible refine' r_listl ?e1 ?_); (case e1 => walk_at "sq"))
  | ((with_reducible refine' r_listt ?e1 ?_); (case e1 => walk_at "sq"))
  | ((with_reducible refine' r_tupl ?e1 ?_); (case e1 => walk_at "sq"))
  | ((with_reducible refine' r_tupt ?e1 ?_); (case e1 => walk_at "sq"))
  | with_reducible refine r_ife ?_
  | with_reducible refine r_test ?_
  | with_reducible refine r_bl ?_
  | with_reducible refine r_ret ?_
  | with_reducible refine r_gsub ?_
  | ((with_reducible refine' r_setl ?e1 ?e2 ?_); (case e1 => walk_at "hl"); (case e2 => first | assumption | rfl))
  | with_reducible refine r_next ?_
  | with_reducible refine r_call ?_
  | with_reducible refine r_lst ?_
  | with_reducible refine r_tup ?_
  | with_reducible refine r_drop ?_
  | ((with_reducible refine' r_eq ?e1 ?_); (case e1 => rfl))
  | ((with_reducible refine' r_ne ?e1 ?_); (case e1 => rfl)))
local macro_rules | `(tactic| walk_at "st") => `(tactic| repeat (walk_at "st1"))
local macro_rules | `(tactic| walk_at "if") => `(tactic| ((first | refine r_if ?_ | (simp only []; refine r_if ?_)); walk_at "st"))
structure Tx (K : PySem.W.Frag) (mg : Str → Option Value) : Prop where
  c_FIGURES : ∃ t, mg "FIGURES" = some (.str "0123456789" t)
  c_LETTERS : ∃ t, mg "LETTERS" = some (.str "abcdefghijklmnopqrstuvwxyz" t)
  c_LONGEST_PLACE : ∃ t, mg "LONGEST_PLACE" = some (.int 40 t)
  m_abs : mg "abs" = none
  m_all : mg "all" = none
  m_bool : mg "bool" = none
  m_dict : mg "dict" = none
  m_int : mg "int" = none
  m_isinstance : mg "isinstance" = none
  m_len : mg "len" = none
  m_list : mg "list" = none
  m_range : mg "range" = none
  m_repr : mg "repr" = none
  m_sorted : mg "sorted" = none
  m_str : mg "str" = none
  m_sum : mg "sum" = none
  m_tuple : mg "tuple" = none
  m_zip : mg "zip" = none
def topS (i : Nat) : Stmt := PySem.Challenge.pw_onetrace_k02_forms_known_and_made.main.body.getD i (.Pass ⟨0, 0, 0, 0⟩)
abbrev s_is_whole : Stmt := topS 4
theorem sc_is_whole : FnScope ["thing"] ["thing"] (defScope s_is_whole) := ⟨rfl, rfl, rfl, by decide +kernel, rfl, by decide +kernel, by decide +kernel⟩
abbrev s_is_number : Stmt := topS 5
theorem sc_is_number : FnScope ["thing", "p"] ["thing", "p"] (defScope s_is_number) := ⟨rfl, rfl, rfl, by decide +kernel, rfl, by decide +kernel, by decide +kernel⟩
abbrev s_is_place : Stmt := topS 6
theorem sc_is_place : FnScope ["thing"] ["thing"] (defScope s_is_place) := ⟨rfl, rfl, rfl, by decide +kernel, rfl, by decide +kernel, by decide +kernel⟩
abbrev s_has_only : Stmt := topS 7
theorem sc_has_only : FnScope ["text", "signs", "sign"] ["text", "signs"] (defScope s_has_only) := ⟨rfl, rfl, rfl, by decide +kernel, rfl, by decide +kernel, by decide +kernel⟩
abbrev s_is_tuple : Stmt := topS 8
theorem sc_is_tuple : FnScope ["thing", "least", "most"] ["thing", "least", "most"] (defScope s_is_tuple) := ⟨rfl, rfl, rfl, by decide +kernel, rfl, by decide +kernel, by decide +kernel⟩
abbrev s_do_rise : Stmt := topS 9
theorem sc_do_rise : FnScope ["things", "one", "other"] ["things"] (defScope s_do_rise) := ⟨rfl, rfl, rfl, by decide +kernel, rfl, by decide +kernel, by decide +kernel⟩
abbrev s_is_form : Stmt := topS 11
theorem sc_is_form : FnScope ["thing", "p", "n", "terms", "term", "place", "_"] ["thing", "p"] (defScope s_is_form) := ⟨rfl, rfl, rfl, by decide +kernel, rfl, by decide +kernel, by decide +kernel⟩
abbrev s_is_term : Stmt := topS 12
theorem sc_is_term : FnScope ["thing", "p"] ["thing", "p"] (defScope s_is_term) := ⟨rfl, rfl, rfl, by decide +kernel, rfl, by decide +kernel, by decide +kernel⟩
abbrev s_new_form : Stmt := topS 13
theorem sc_new_form : FnScope ["n", "pairs", "p", "worths", "place", "k"] ["n", "pairs", "p"] (defScope s_new_form) := ⟨rfl, rfl, rfl, by decide +kernel, rfl, by decide +kernel, by decide +kernel⟩
abbrev s_places_in : Stmt := topS 14
theorem sc_places_in : FnScope ["form", "place", "_"] ["form"] (defScope s_places_in) := ⟨rfl, rfl, rfl, by decide +kernel, rfl, by decide +kernel, by decide +kernel⟩
abbrev s_law_begun : Stmt := topS 16
theorem sc_law_begun : FnScope ["script", "cell"] ["script"] (defScope s_law_begun) := ⟨rfl, rfl, rfl, by decide +kernel, rfl, by decide +kernel, by decide +kernel⟩
abbrev s_law_draw : Stmt := topS 17
theorem sc_law_draw : FnScope ["state", "many", "cells", "at", "cell"] ["state", "many"] (defScope s_law_draw) := ⟨rfl, rfl, rfl, by decide +kernel, rfl, by decide +kernel, by decide +kernel⟩
abbrev s_law_prime : Stmt := topS 18
theorem sc_law_prime : FnScope ["state", "some"] ["state"] (defScope s_law_prime) := ⟨rfl, rfl, rfl, by decide +kernel, rfl, by decide +kernel, by decide +kernel⟩
abbrev s_law_place : Stmt := topS 19
theorem sc_law_place : FnScope ["state", "signs", "size", "word"] ["state"] (defScope s_law_place) := ⟨rfl, rfl, rfl, by decide +kernel, rfl, by decide +kernel, by decide +kernel⟩
abbrev s_law_places : Stmt := topS 20
theorem sc_law_places : FnScope ["state", "many", "some", "k", "place"] ["state", "many"] (defScope s_law_places) := ⟨rfl, rfl, rfl, by decide +kernel, rfl, by decide +kernel, by decide +kernel⟩
abbrev s_law_form : Stmt := topS 21
theorem sc_law_form : FnScope ["state", "places", "q", "terms", "place", "times"] ["state", "places", "q"] (defScope s_law_form) := ⟨rfl, rfl, rfl, by decide +kernel, rfl, by decide +kernel, by decide +kernel⟩
abbrev s_law_is_place : Stmt := topS 22
theorem sc_law_is_place : FnScope ["what", "letters", "sign"] ["what"] (defScope s_law_is_place) := ⟨rfl, rfl, rfl, by decide +kernel, rfl, by decide +kernel, by decide +kernel⟩
abbrev s_law_good : Stmt := topS 23
theorem sc_law_good : FnScope ["what", "q", "numbers", "last", "term", "odd", "one"] ["what", "q"] (defScope s_law_good) := ⟨rfl, rfl, rfl, by decide +kernel, rfl, by decide +kernel, by decide +kernel⟩
abbrev s_law_bent : Stmt := topS 24
theorem sc_law_bent : FnScope ["state", "lot", "q", "num", "terms", "odd", "name", "some", "at", "place", "times", "pieces", "one"] ["state", "lot", "q"] (defScope s_law_bent) := ⟨rfl, rfl, rfl, by decide +kernel, rfl, by decide +kernel, by decide +kernel⟩
abbrev s_law_pairs : Stmt := topS 25
theorem sc_law_pairs : FnScope ["state", "places", "q", "couples", "k", "place", "far"] ["state", "places", "q"] (defScope s_law_pairs) := ⟨rfl, rfl, rfl, by decide +kernel, rfl, by decide +kernel, by decide +kernel⟩
abbrev s_law : Stmt := topS 26
theorem sc_law : FnScope ["script", "state", "turn", "q", "places", "lot", "what", "k", "told", "num", "couples", "kept", "sums", "place", "one", "times", "owed", "made", "term"] ["script"] (defScope s_law) := ⟨rfl, rfl, rfl, by decide +kernel, rfl, by decide +kernel, by decide +kernel⟩
theorem kb_is_form_1_0 {K : PySem.W.Frag} {f : Addr} {fd : FuncData} (F : Fun K "is_form" "is_form" s_is_form f fd) : ∀ (us ws : List Value), us.length = 0 → ws.length = 2 → ∀ s : Shared, BindsTo s fd ⟨us, (["p", "thing"] : List Str).zip ws⟩ ((["thing", "p"] : List Str).zip (([1, 0] : List Nat).map fun i => (us ++ ws).getD i .none)) := by
  obtain ⟨oc, od, kV, doc, pm, an, cdv, ct, osl, rfl, lk, hcd⟩ := F.ex
  intro us ws h1 h2 s
  match us, h1, ws, h2 with
  | [], _, [w0, w1], _ => exact .of_eq rfl
theorem kb_new_form_2_1_0 {K : PySem.W.Frag} {f : Addr} {fd : FuncData} (F : Fun K "new_form" "new_form" s_new_form f fd) : ∀ (us ws : List Value), us.length = 0 → ws.length = 3 → ∀ s : Shared, BindsTo s fd ⟨us, (["p", "pairs", "n"] : List Str).zip ws⟩ ((["n", "pairs", "p"] : List Str).zip (([2, 1, 0] : List Nat).map fun i => (us ++ ws).getD i .none)) := by
  obtain ⟨oc, od, kV, doc, pm, an, cdv, ct, osl, rfl, lk, hcd⟩ := F.ex
  intro us ws h1 h2 s
  match us, h1, ws, h2 with
  | [], _, [w0, w1, w2], _ => exact .of_eq rfl
theorem kb_places_in_0 {K : PySem.W.Frag} {f : Addr} {fd : FuncData} (F : Fun K "places_in" "places_in" s_places_in f fd) : ∀ (us ws : List Value), us.length = 0 → ws.length = 1 → ∀ s : Shared, BindsTo s fd ⟨us, (["form"] : List Str).zip ws⟩ ((["form"] : List Str).zip (([0] : List Nat).map fun i => (us ++ ws).getD i .none)) := by
  obtain ⟨oc, od, kV, doc, pm, an, cdv, ct, osl, rfl, lk, hcd⟩ := F.ex
  intro us ws h1 h2 s
  match us, h1, ws, h2 with
  | [], _, [w0], _ => exact .of_eq rfl
/-! ### defs that run while nothing is being shown (repr): the list of guards is empty -/
structure FnG (P : Program) (w : World) (K : PySem.W.Frag) (mg : Str → Option Value) (base : Heap) (k : Nat) (f : Addr) (fd : FuncData) (ps : List Str) (sp : Sp) : Prop where
  len : ∀ vs H Q E, sp vs H Q E → vs.length = ps.length
  run : ∀ (A : Around) (outer : List Env) (s : Shared) (H : Hp) (args : Args) (us : List Value) (vs : List V) (Q : VK) (E : XK), A.guards = some [] → Room k A → Env0 P w K mg base A outer s H → BindsTo s fd args (ps.zip us) → Vals vs us → sp vs H Q E →
    codeAny (model P w) A (.call (.ref f) args) (CR CX0 outer P w H s Q E) s
section
variable {P : Program} {w : World} {K : PySem.W.Frag} {mg : Str → Option Value} {base : Heap}
theorem fnG_of {k : Nat} {x qual : Str} {st : Stmt} {f : Addr} {fd : FuncData} {N ps : List Str} {sp : Sp} (F : Fun K x qual st f fd) (S : FnScope N ps (defScope st)) (hlen : ∀ vs H Q E, sp vs H Q E → vs.length = ps.length)
    (body : ∀ (cdv : Value) (A : Around) (outer : List Env) (s : Shared) (H : Hp) (vs : List V) (Q : VK) (E : XK), A.guards = some [] → Room k (A.deeper (envOfC qual (defScope st) s.heap.objs.size f cdv)) → sp vs H Q E →
      ∃ t, PSs (cxOf CX0 P w K mg base N qual (defScope st) f cdv A outer s H E).nox (defBody st) t ∧ t { nx := fun _ H' => Q .non H', rt := Q } (L2.start N vs) H) : FnG P w K mg base (k + 1) f fd ps sp := by
  obtain ⟨oc, od, kV, doc, pm, an, cdv, ct, osl, rfl, lk, hcd⟩ := F.ex
  refine ⟨hlen, fun A outer s H args us vs Q E hga hr e0 hb r hsp => ?_⟩
  have inK : K.In s.heap := e0.mod.kin.keeps (fun b o q => (e0.bs b o q).1)
  have nl : s.heap.NoLimit := e0.mod.nolimit.keeps (fun b o q => (e0.bs b o q).1)
  have kinds : ∀ y ∈ ps.zip us, (defScope st).names.lookup y.1 = some .local ∨ ((defScope st).names.lookup y.1 = some .cell ∧ ((cellsFrom (s.heap.objs.size + 1) (defScope st).names []).lookup y.1).isSome = true) := by
    intro y hy
    have := S.par y.1 (List.of_mem_zip (a := y.1) (b := y.2) hy).1
    exact this.elim .inl (fun z => .inr ⟨z, PySem.W.cellsFrom_some _ _ _ (.inl z)⟩)
  apply codeAny_call_function hr.depth (inK _ _ lk) rfl S.co S.gen rfl (PySem.W.codeRec_of inK hcd)
  apply hb
  apply wpAny_newFunctionEnv_cells S.kind kinds
  intro env he s1 x
  subst he
  refine ⟨nl.keeps x.toInCall.keep, codeAny_func ?_⟩
  obtain ⟨t, ht, hq⟩ := body cdv A outer s H vs Q E hga (hr.deeper _) hsp
  have J0 := inv_start (CX := CX0) (E := E) S hr.hd e0 (hlen _ _ _ _ hsp) r x
  refine wpAny_mono (ht.nox.run [] s1 (L2.start N vs) H _ J0 hq) (fun fl s' hs => ?_) (fun e s' hs => hs)
  match fl, hs with
  | .ret u, ⟨v, σ', H', J, rv, q⟩ => exact ⟨v, H', J.os, J.bare, J.base, J.hok, rv, q⟩
  | .next, ⟨σ', H', J, q⟩ => exact ⟨V.non, H', J.os, J.bare, J.base, J.hok, rfl, q⟩
  | .brk, ⟨_, _, _, q⟩ => exact q.elim
  | .cont, ⟨_, _, _, q⟩ => exact q.elim
end
/-! ### the law's own call, where nothing is being shown -/
section
variable {P : Program} {w : World} {K : PySem.W.Frag} {mg mb : Str → Option Value} {k : Nat} {fa a : Addr} {fd : FuncData} {x : Str} {sp : Sp} {g0 : Shared} {vs : List Value} {ns : List Int}
/-- from a heap H that tracks nothing but, at most, the script -/
theorem lawG_from (inK : K.In g0.heap) (hns : g0.heap.Ns mainGlobals mg) (hb : g0.heap.Ns builtinsNs mb) (hbb : ∀ x : Str, x ≠ "__name__" → mb x = bootBuiltins x) (nl : g0.heap.NoLimit) (hg : g0.gens = #[])
    (ha : g0.heap.get? a = some { cls := .type "list", data := .seq vs.toArray }) (hr : Room k callerA)
    (F : ∀ base : Heap, K.In base → base.Ns mainGlobals mg → FnG P w K mg base k fa fd [x] sp) (hbind : ∀ (s : Shared) (u : Value), BindsTo s fd ⟨[u], []⟩ [(x, u)])
    (hsp : ∀ H : Hp, Only H → SqL K H a (ns.map V.int) → sp [.ref a] H (fun v _ => v = .bl true) fun _ _ _ => False)
    (H : Hp) (onl : Only H) (script : SqL K H a (ns.map V.int)) (ok : HOk P w H g0.heap) (at_ : ∀ b, H b ≠ none → b = a) (off : H a ≠ none → K.lookup a = none) :
    codeAny (model P w) callerA (.call (.ref fa) ⟨[.ref a], []⟩) (fun r s' => r = .ok (.ret (.bool true)) ∧ OldK g0.heap s'.heap ∧ s'.os = g0.os ∧ AllBare s'.gens) g0 := by
  have free_dict : ∀ (b : Addr) (o : Obj) (es : Array DictEntry) (ep : Nat), g0.heap.get? b = some o → o.data = .dict es ep → H b = none := by
    intro b o es ep e d
    by_cases q : H b = none
    · exact q
    · obtain rfl := at_ b q
      rw [e] at ha
      injection ha with ha
      rw [ha] at d
      cases d
  have to_base : ∀ (b : Addr) (m : Str → Option Value), g0.heap.Ns b m → (hidT g0.heap H).Ns b m := by
    intro b m n
    obtain ⟨o, es, ep, e, d, r⟩ := n
    exact ⟨o, es, ep, hidT_get e (free_dict b o es ep e d), d, r⟩
  have baseK : K.In (hidT g0.heap H) := by
    intro b o e
    refine hidT_get (inK b o e) ?_
    by_cases q : H b = none
    · exact q
    · obtain rfl := at_ b q
      rw [off q] at e
      cases e
  obtain ⟨mc, n1, n2⟩ := nl
  have M : Mod K mg (hidT g0.heap H) := ⟨baseK, to_base _ _ hns, ⟨mb, to_base _ _ hb, hbb⟩, ⟨mc, to_base _ _ n1, n2⟩⟩
  have env : Env0 P w K mg (hidT g0.heap H) callerA [] g0 H :=
    { frames := rfl, mod := M, bs := fun b o e => of_hidT e, bsz := Nat.le_of_eq (hidT_size _ _), funs := trivial, frf := fun b z => (by cases z), hok := ok, bare := .of_eq hg }
  have run := (F _ baseK (to_base _ _ hns)).run callerA [] g0 H ⟨[.ref a], []⟩ [.ref a] [.ref a] _ _ rfl hr env (hbind g0 (.ref a)) (.cons rfl .nil) (hsp H onl script)
  refine codeAny_mono run (fun r s' z => ?_)
  match r, z with
  | .ok (.ret u), z =>
    obtain ⟨v, H', os, bare, un, ok', rv, q⟩ := z
    have q : v = .bl true := q
    subst q
    obtain rfl : u = Value.bool true := rv
    refine ⟨rfl, OldK.of_keep (fun b o e => ?_), os, bare⟩
    by_cases q : H b = none
    · exact un.keep b o e q (by intro z; cases z) (by intro z; cases z)
    · rcases onl b with z | ⟨ob, xs, z⟩
      · exact absurd z q
      · have e1 := (ok b _ z).1
        have e2 := (ok' b _ (un.frzs b ob _ z)).1
        rw [e] at e1
        injection e1 with e1
        rw [e1]
        exact e2
theorem lawG_call (inK : K.In g0.heap) (hns : g0.heap.Ns mainGlobals mg) (hb : g0.heap.Ns builtinsNs mb) (hbb : ∀ x : Str, x ≠ "__name__" → mb x = bootBuiltins x) (nl : g0.heap.NoLimit) (hg : g0.gens = #[])
    (ha : g0.heap.get? a = some { cls := .type "list", data := .seq vs.toArray }) (hi : IntsAre vs ns) (hl : ns.length ≤ sizeLine) (hr : Room k callerA)
    (F : ∀ base : Heap, K.In base → base.Ns mainGlobals mg → FnG P w K mg base k fa fd [x] sp) (hbind : ∀ (s : Shared) (u : Value), BindsTo s fd ⟨[u], []⟩ [(x, u)])
    (hsp : ∀ H : Hp, Only H → SqL K H a (ns.map V.int) → sp [.ref a] H (fun v _ => v = .bl true) fun _ _ _ => False) :
    codeAny (model P w) callerA (.call (.ref fa) ⟨[.ref a], []⟩) (fun r s' => r = .ok (.ret (.bool true)) ∧ OldK g0.heap s'.heap ∧ s'.os = g0.os ∧ AllBare s'.gens) g0 := by
  have rv : Vals (ns.map V.int) vs := vals_ints hi
  have el : vs.length = ns.length := hi.length
  by_cases hk : K.lookup a = none
  · refine lawG_from inK hns hb hbb nl hg ha hr F hbind hsp (fun b => if b = a then some (.frz { cls := .type "list", data := .seq vs.toArray } (.lst (ns.map V.int))) else none) (fun b => ?_) (.inl (.inr ⟨_, if_pos rfl⟩)) (fun b o e => ?_) (fun b z => ?_) (fun _ => hk)
    · by_cases q : b = a
      · exact .inr ⟨_, _, if_pos q⟩
      · exact .inl (if_neg q)
    · by_cases q : b = a
      · subst q
        have e := (if_pos rfl).symm.trans e
        injection e with e
        rw [← e]
        exact ⟨ha, by rw [List.length_map]; exact hl, vs, _, rv, ha⟩
      · have e := (if_neg q).symm.trans e
        cases e
    · by_cases q : b = a
      · exact q
      · exact absurd (if_neg q) z
  · obtain ⟨o, ho⟩ := Option.ne_none_iff_exists'.mp hk
    have e := inK a o ho
    rw [ha] at e
    injection e with e
    subst e
    exact lawG_from inK hns hb hbb nl hg ha hr F hbind hsp (fun _ => none) (fun _ => .inl rfl) (.inr ⟨_, vs.toArray, _, ho, rfl, rfl, rfl, by rw [List.size_toArray, el]; exact hl, by simpa using rv⟩) (fun b o e => by cases e) (fun b z => absurd rfl z) (fun z => absurd rfl z)
end
theorem walkG_of {l : PySem.W.OpenLaw} {n k : Nat} {q : Program} {loose : List Str} {XP : (Str → Option Value) → Heap → Prop} {YP : World → Heap → Prop} {d : DefRec} {K : Params → PySem.W.Frag} {sp : World → Sp} {x : Str}
    (hn : l.most = some n) (hn2 : n ≤ sizeLine) (hdf : d.params.defaults = []) (hr : Room k callerA) (hY : ∀ (w : World) (h : Heap), YP w h → (K w.params).In h)
    (F : ∀ (w : World) (mg : Str → Option Value) (fa : Addr) (h : Heap), (K w.params).In h → h.Ns mainGlobals mg → mg d.name = some (.ref fa) →
      ∃ fd : FuncData, (∀ (s : Shared) (u : Value), BindsTo s fd ⟨[u], []⟩ [(x, u)]) ∧ ∀ base : Heap, (K w.params).In base → base.Ns mainGlobals mg → FnG l.prog w (K w.params) mg base k fa fd [x] (sp w))
    (hsp : ∀ (w : World) (H : Hp) (a : Addr) (ns : List Int), ns.length ≤ n → Only H → SqL (K w.params) H a (ns.map V.int) → sp w [.ref a] H (fun v _ => v = .bl true) fun _ _ _ => False) :
    PySem.W.WalkO q loose XP YP l.row.toRowW d [] (fun f vs => PySem.call f vs) := by
  apply Att.attach_call hn hdf
  intro w s₀ s₁ mg mb fa o pm cd doc a vs ns G Y ho hd hcd hmg hobj hints hlen hg
  obtain ⟨fd, b, f⟩ := F w mg fa _ (hY w _ Y) G.T.g hmg
  exact lawG_call (hY w _ Y) G.T.g G.T.b G.T.builtins G.T.nolimit hg hobj hints (Nat.le_trans hlen hn2) hr f b (fun H o s => hsp w H a ns hlen o s)
/-! ### the law's own: draws -/
def sp_law_draw (_ : PySem.W.Frag) : Sp := fun vs H Q _ => ∃ (s c : Addr) (m : Int), vs = [.ref s, .int m] ∧ St s c H ∧ (0 < m ∧ m < 1073741824) ∧
  ∀ d H', Kp [s, c] H H' → St s c H' → 0 ≤ d ∧ d < m → Q (.int d) H'
theorem St.nil0 {s c : Addr} {H : Hp} (h : St s c H) : H s ≠ none ∧ H c ≠ none := by
  obtain ⟨_, cs, j, r, h⟩ := h
  exact ⟨by rw [h.hs]; simp, by rw [h.hc]; simp⟩
theorem ints_of_all {p : Int → Prop} : ∀ {ys : List V}, (∀ y ∈ ys, ∃ n : Int, y = .int n ∧ p n) → ∃ cs : List Int, ys = cs.map .int ∧ ∀ n ∈ cs, p n
  | [], _ => ⟨[], rfl, by simp⟩
  | y :: ys, h => by
    obtain ⟨n, rfl, hn⟩ := h y List.mem_cons_self
    obtain ⟨cs, rfl, hc⟩ := ints_of_all (ys := ys) fun z hz => h z (List.mem_cons_of_mem _ hz)
    exact ⟨n :: cs, rfl, fun m hm => by
      rcases List.mem_cons.mp hm with rfl | hm
      · exact hn
      · exact hc m hm⟩
theorem atI_in {α : Type} {xs : List α} {i : Int} (h0 : 0 ≤ i) (h1 : i < xs.length) : ∃ v, atI xs i = some v ∧ v ∈ xs := by
  obtain ⟨j, rfl⟩ : ∃ j : Nat, i = j := ⟨i.toNat, by omega⟩
  have h2 : j < xs.length := by omega
  exact ⟨xs[j], atI_nat (List.getElem?_eq_getElem h2), List.getElem_mem h2⟩
section
variable {P : Program} {w : World} {K : PySem.W.Frag} {mg : Str → Option Value} {base : Heap}
theorem ok_law_draw (T : Tx K mg)  {f : Addr} {fd : FuncData} (F : Here K mg "_law_draw" s_law_draw ["state", "many"] f fd) : Cal P w K mg base "_law_draw" 1 ["state", "many"] (sp_law_draw K) s_law_draw f fd := by
  refine F.cal sc_law_draw (fun vs H Q E h => ?_) (fun cdv A outer s H vs Q E hr h => ?_)
  · obtain ⟨s, c, m, rfl, _⟩ := h
    rfl
  · obtain ⟨s, c, m, rfl, hst, ⟨m0, m1⟩, q⟩ := h
    refine ⟨_, (pss_cons (ps_set (i := 2) sc_law_draw.nd rfl (by first | exact .inl rfl | exact .inr rfl) (pe_ix (ix_listK (K := K)) (pv 0) pe_int (fun _ _ => rfl)))
      (pss_cons (ps_set (i := 3) sc_law_draw.nd rfl (by first | exact .inl rfl | exact .inr rfl) (pe_op op_mod (pe_ix (ix_listK (K := K)) (pv 0) pe_int (fun _ _ => rfl)) (pe_callB (cr_lenK (K := K)) (by rfl) T.m_len (by decide +kernel) (pa_cons (pv 2) pa_nil))))
      (pss_cons (ps_set (i := 4) sc_law_draw.nd rfl (by first | exact .inl rfl | exact .inr rfl) (pe_ix (ix_listK (K := K)) (pv 2) (pv 3) (fun _ _ => rfl)))
      (pss_cons (ps_if (pt_cmpR op_ge (pv 4) pe_int (nomark _)) (pss_cons (ps_asg (pe_op op_fdivW (pv 4) (pv 1)) (pg_sub (pv 2) (pv 3) set_list))
      (pss_one (ps_ret (pe_op op_mod (pv 4) (pv 1))))) pss_nil)
      (pss_cons (ps_asg (pe_op op_add (pe_ix (ix_listK (K := K)) (pv 0) pe_int (fun _ _ => rfl)) pe_int) (pg_sub (pv 0) pe_int set_list))
      (pss_cons (ps_asg (pe_op op_mod (pe_op op_add (pe_op op_add (pe_op op_mul (pe_ix (ix_listK (K := K)) (pv 0) pe_int (fun _ _ => rfl)) pe_int) (pv 4)) pe_int) pe_int) (pg_sub (pv 0) pe_int set_list))
      (pss_one (ps_ret (pe_op op_mod (pe_op op_fdivW (pe_op op_mod (pe_op op_mul (pe_ix (ix_listK (K := K)) (pv 0) pe_int (fun _ _ => rfl)) (pe_ix (ix_listK (K := K)) (pv 0) pe_int (fun _ _ => rfl))) pe_int) pe_int) (pv 1)))))))))), ?_⟩
    obtain ⟨hne, cs, j, r, hs, hc, ne, nn, len, hj, hr0, hr1⟩ := hst
    have hl : 0 < (cs.map V.int).length := by rw [List.length_map]; exact List.length_pos_iff.mpr ne
    obtain ⟨i, hi, ei⟩ : ∃ i : Nat, i < cs.length ∧ j % ((cs.map V.int).length : Int) = i := by
      have h1 := Int.emod_nonneg j (show ((cs.map V.int).length : Int) ≠ 0 by omega)
      have h2 := Int.emod_lt_of_pos j (show (0 : Int) < ((cs.map V.int).length : Int) by omega)
      rw [List.length_map] at h1 h2 ⊢
      exact ⟨(j % (cs.length : Int)).toNat, by omega, by omega⟩
    have hx : atI (cs.map V.int) (j % ((cs.map V.int).length : Int)) = some (.int cs[i]) := by
      rw [ei]; exact atI_nat (by rw [List.getElem?_map, List.getElem?_eq_getElem hi]; rfl)
    have hx0 : 0 ≤ cs[i] := nn _ (List.getElem_mem hi)
    have hxi : ixN (cs.map V.int).length (j % ((cs.map V.int).length : Int)) = some i := by
      rw [ei]; unfold ixN; rw [if_pos (by omega), if_pos (by rw [List.length_map]; omega)]; rfl
    have hw : CDivW cs[i] m := wide_div (b := 30) m0 (by omega) (by decide) (by decide)
    walk_at "st"
    walk_at "if"
    refine r_ite (fun hge => ?_) (fun hlt => ?_)
    · walk_at "st"
      refine q _ _ (fun b o e hb => ?_) ⟨hne, cs.set i (cs[i] / m), j, r, ?_, ?_, ?_, ?_, ?_, hj, hr0, hr1⟩ ⟨Int.emod_nonneg _ (by omega), Int.emod_lt_of_pos _ m0⟩
      · rw [upd_ne (by intro z; exact hb (by simp [z]))]; exact e
      · walk_at "hl"
      · rw [upd_same, List.map_set]
      · intro z; exact ne (by simpa using congrArg List.length z)
      · intro x hx
        rcases List.mem_or_eq_of_mem_set hx with h | h
        · exact nn _ h
        · rw [h]; exact Int.ediv_nonneg hx0 (by omega)
      · simpa using len
    · walk_at "st"
      refine q _ _ (fun b o e hb => ?_) ⟨hne, cs, j + 1, (r * 48271 + cs[i] + 12345) % 2147483647, upd_same, ?_, ne, nn, len, by omega, Int.emod_nonneg _ (by decide), Int.emod_lt_of_pos _ (by decide)⟩ ⟨Int.emod_nonneg _ (by omega), Int.emod_lt_of_pos _ m0⟩
      · rw [upd_ne (by intro z; exact hb (by simp [z])), upd_ne (by intro z; exact hb (by simp [z]))]; exact e
      · rw [upd_ne hne.symm, upd_ne hne.symm]; exact hc
end
def rInt1 : List V → Hp → VK → Prop := fun xs H Q => (∃ i, xs = [.int i] ∧ Q (.int i) H) ∨ ∃ k, xs = [.bl k] ∧ Q (.int (if k then 1 else 0)) H
theorem cr_int1 {X : Cx} : CallR X (.type "int") rInt1 := call_int1
section
variable {K : PySem.W.Frag} {σ : L2.St} {H : Hp} {Q : VK}
theorem r_int1b {k : Bool} (h : Q (.int (if k then 1 else 0)) H) : rInt1 [.bl k] H Q := .inr ⟨k, rfl, h⟩
theorem r_int1i {k : Int} (h : Q (.int k) H) : rInt1 [.int k] H Q := .inl ⟨k, rfl, h⟩
theorem r_cat {a b : Addr} {xs ys : List V} (h : H a = some (.lst xs)) (h2 : H b = some (.lst ys)) (z : xs.length + ys.length ≤ sizeLine) (q : ∀ p, H p = none → Q (.ref p) (upd H p (.lst (xs ++ ys)))) : rCat (.ref a) (.ref b) H Q := ⟨a, b, xs, ys, rfl, rfl, h, h2, z, q⟩
theorem r_rep {a : Addr} {k : Int} {xs : List V} (h : H a = some (.lst xs)) (c : -(2 ^ 63) ≤ k ∧ k < 2 ^ 63) (z : xs.length * k.toNat ≤ sizeLine) (q : ∀ p, H p = none → Q (.ref p) (upd H p (.lst (List.replicate k.toNat xs).flatten))) : rRep (.ref a) (.int k) H Q := ⟨a, k, xs, rfl, rfl, h, c.1, c.2, z, q⟩
end
local macro_rules | `(tactic| walk_at "st1") => `(tactic| first
  | with_reducible refine r_int1b ?_
  | with_reducible refine r_int1i ?_)
def sp_law_begun (K : PySem.W.Frag) : Sp := fun vs H Q _ => ∃ (a : Addr) (ns : List Int), vs = [.ref a] ∧ SqL K H a (ns.map .int) ∧ ns.length ≤ 63 ∧
  ∀ s c H', Same H H' → St s c H' → Q (.ref s) H'
section
variable {P : Program} {w : World} {K : PySem.W.Frag} {mg : Str → Option Value} {base : Heap}
theorem ok_law_begun (T : Tx K mg)  {f : Addr} {fd : FuncData} (F : Here K mg "_law_begun" s_law_begun ["script"] f fd) : Cal P w K mg base "_law_begun" 1 ["script"] (sp_law_begun K) s_law_begun f fd := by
  refine F.cal sc_law_begun (fun vs H Q E h => ?_) (fun cdv A outer s H vs Q E hr h => ?_)
  · obtain ⟨a, ns, rfl, _⟩ := h
    rfl
  · obtain ⟨a, ns, rfl, hS, hlen, q⟩ := h
    refine ⟨_, (pss_one (ps_ret (pe_lst (pa_cons (pe_op op_cat (pe_lc rfl sc_law_begun.nd (pi_listK (K := K) (pv 0)) (blkOk_by (own := [("cell", 1)]) (N := ["script", "cell"]) (sc := (defScope s_law_begun)) (by decide +kernel)) (fun _ _ _ _ _ => (pg_name (i := 1) sc_law_begun.nd rfl (by first | exact .inl rfl | exact .inr rfl))) (fun _ _ _ _ _ => pts_nil) (fun _ _ _ _ _ => (pe_callB cr_abs (by rfl) T.m_abs (by decide +kernel) (pa_cons (pv 1) pa_nil)))) (pe_op op_rep (pe_lst (pa_cons pe_int pa_nil)) (pe_callTy cr_int1 (by rfl) T.m_int (by decide +kernel) (pa_cons (pe_cmpR op_eq (pe_callB (cr_lenK (K := K)) (by rfl) T.m_len (by decide +kernel) (pa_cons (pv 0) pa_nil)) pe_int (nomark _)) pa_nil)))) (pa_cons pe_int (pa_cons pe_int pa_nil)))))), ?_⟩
    walk_at "st"
    intro D hD
    refine lc_map (walk_list (a := a) (xs := ns.map V.int)) (by rw [List.length_map]; omega) hD (fun i y _ => ∃ n : Int, y = .int n ∧ 0 ≤ n) (fun _ _ _ _ h _ => h) (fun _ _ _ _ _ h _ => h) (fun H' k => k.seq hS) (fun i H1 x H2 y => by rw [y.1]; exact Same.refl _)
      (fun i x H1 H2 Y No hi sm y hY => ?_) (fun ys H' el sm eD hys => ?_)
    · obtain ⟨rfl, ex⟩ := y
      rw [List.getElem?_map] at ex
      cases en : ns[i]? with
      | none => rw [en] at ex; cases ex
      | some n =>
        rw [en] at ex; cases ex
        refine ⟨rfl, ?_⟩
        walk_at "st"
        refine hY _ _ (Same.refl _) ⟨_, rfl, ?_⟩
        split <;> omega
    · have hall : ∀ y ∈ ys, ∃ n : Int, y = .int n ∧ 0 ≤ n := fun y hy => by
        obtain ⟨i, e⟩ := List.getElem?_of_mem hy
        exact hys i y e
      obtain ⟨cs, rfl, hcs⟩ := ints_of_all hall
      have e2 : cs.length = ns.length := by rw [List.length_map, List.length_map] at el; exact el
      walk_at "st"
      intro l1 hl1
      have hS2 : SqL K (upd H' l1 (.lst [.int 1])) a (ns.map .int) := (sm.trans (Same.upd_new hl1)).seq hS
      walk_at "st"
      rw [List.length_map]
      have fin : ∀ (p : Addr) (H2 : Hp) (zs : List Int), Same H H2 → H2 p = some (.lst (zs.map .int)) → zs ≠ [] → (∀ z ∈ zs, 0 ≤ z) → zs.length ≤ 100 → ∀ s, H2 s = none → Q (.ref s) (upd H2 s (.lst [.ref p, .int 0, .int 1])) := fun p H2 zs s2 ep ne nn ln s hs => by
        have nps : s ≠ p := (ne_of_none ep hs).symm
        exact q s p _ (s2.trans (Same.upd_new hs)) ⟨nps, zs, 0, 1, upd_same, hl_set nps.symm ep, ne, nn, by omega, by omega, by omega, by omega⟩
      have szl : (1000000 : Nat) ≤ sizeLine := by decide
      by_cases h0 : ns.length = 0
      · have e0 : decide (V.int (ns.length : Int) = V.int 0) = true := decide_eq_true (by rw [h0]; rfl)
        rw [e0]
        refine r_rep upd_same (by decide) (by decide) (fun l2 hl2 => ?_)
        refine r_cat (by walk_at "hl") upd_same (by rw [List.length_map]; simp; omega) (fun l3 hl3 => ?_)
        walk_at "st"
        intro s hs
        refine fin l3 _ (cs ++ [1]) (by walk_at "sm") (by rw [upd_same, List.map_append]; rfl) (by simp) (fun z hz => ?_) (by simp; omega) s hs
        rcases List.mem_append.mp hz with h | h
        · exact hcs z h
        · rw [List.mem_singleton.mp h]; decide
      · have e0 : decide (V.int (ns.length : Int) = V.int 0) = false := decide_eq_false (by simp; intro z; rw [z] at h0; exact h0 rfl)
        rw [e0]
        refine r_rep upd_same (by decide) (by decide) (fun l2 hl2 => ?_)
        refine r_cat (by walk_at "hl") upd_same (by rw [List.length_map]; simp; omega) (fun l3 hl3 => ?_)
        walk_at "st"
        intro s hs
        refine fin l3 _ cs (by walk_at "sm") (by rw [upd_same]; simp) (fun z => h0 (by rw [← e2, z]; rfl)) hcs (by omega) s hs
end
/-! ### texts -/
def rLenS : List V → Hp → VK → Prop := fun xs H Q => ∃ z, xs = [.str z] ∧ z.length ≤ sizeLine ∧ Q (.int z.length) H
theorem cr_lenS {X : Cx} : CallR X (.builtin "len") rLenS := call_len_str
def rInS : R2 := fun x y H Q => ∃ (c : Nat) (z : Str), x = .str ⟨#[c]⟩ ∧ y = .str z ∧ Q (.bl (decide (c ∈ z.cps.toList))) H
theorem op_inS {X : Cx} : OpR X (compareOp .In) rInS := op_in_sign
def rNinS : R2 := fun x y H Q => ∃ (c : Nat) (z : Str), x = .str ⟨#[c]⟩ ∧ y = .str z ∧ Q (.bl (!decide (c ∈ z.cps.toList))) H
theorem op_ninS {X : Cx} : OpR X (compareOp .NotIn) rNinS := op_notIn_sign
def rAddS : R2 := fun x y H Q => ∃ i j, x = .str i ∧ y = .str j ∧ i.length + j.length ≤ sizeLine ∧ Q (.str (i ++ j)) H
theorem op_addS {X : Cx} : OpR X (binaryOp .Add) rAddS := op_add_str
section
variable {K : PySem.W.Frag} {σ : L2.St} {H : Hp} {Q : VK}
theorem r_lenS {z : Str} (h : z.length ≤ sizeLine) (q : Q (.int z.length) H) : rLenS [.str z] H Q := ⟨z, rfl, h, q⟩
theorem r_inS {c : Nat} {z : Str} (q : Q (.bl (decide (c ∈ z.cps.toList))) H) : rInS (.str ⟨#[c]⟩) (.str z) H Q := ⟨c, z, rfl, rfl, q⟩
theorem r_ninS {c : Nat} {z : Str} (q : Q (.bl (!decide (c ∈ z.cps.toList))) H) : rNinS (.str ⟨#[c]⟩) (.str z) H Q := ⟨c, z, rfl, rfl, q⟩
theorem r_addS {a b : Str} (h : a.length + b.length ≤ sizeLine) (q : Q (.str (a ++ b)) H) : rAddS (.str a) (.str b) H Q := ⟨a, b, rfl, rfl, h, q⟩
theorem r_ixS {z : Str} {i : Int} {c : Nat} (h : z.length ≤ sizeLine) (e : atI z.cps.toList i = some c) (q : Q (.str ⟨#[c]⟩) H) : rIxS (.str z) (.int i) H Q := ⟨z, i, c, rfl, rfl, h, e, q⟩
def IsR (R : It → Hp → Prop) (v : V) (H : Hp) : Prop := ∃ x, v = .str x ∧ R (Its x) H
theorem r_istr {te : TE} {R : It → Hp → Prop} (h : te σ H (IsR R)) : iStr te σ H R := h
theorem r_is {R : It → Hp → Prop} {x : Str} (h : R (Its x) H) : IsR R (.str x) H := ⟨x, rfl, h⟩
end
theorem str_small {z : Str} (h : z.length ≤ 1000) : z.length ≤ sizeLine := Nat.le_trans h (by decide)
local macro_rules | `(tactic| walk_at "ssz") => `(tactic| first | decide | exact str_small (by assumption) | (have : (1000000 : Nat) ≤ sizeLine := (by decide); omega))
local macro_rules | `(tactic| walk_at "st1") => `(tactic| first
  | with_reducible refine' r_nt ?_ | with_reducible refine' r_nf ?_
  | ((with_reducible refine r_lenS ?e1 ?_); (case e1 => walk_at "ssz"))
  | with_reducible refine r_inS ?_
  | with_reducible refine r_ninS ?_
  | ((with_reducible refine r_addS ?e1 ?_); (case e1 => walk_at "ssz"))
  | ((with_reducible refine' r_ixS ?e1 ?e2 ?_); (case e1 => walk_at "ssz"); (case e2 => first | assumption | rfl))
  | with_reducible refine r_istr ?_
  | with_reducible refine r_is ?_
  | with_reducible refine r_un ?_
  | with_reducible refine r_u ?_)
def cs (x : Str) : List Nat := x.cps.toList
def onlyIn (x z : Str) : Bool := (cs x).all (fun c => decide (c ∈ cs z))
def nameO : O → Bool
  | .str x => decide (1 ≤ x.length) && (decide (x.length ≤ 8) && onlyIn x "abcdefghijklmnopqrstuvwxyz")
  | _ => false
def firstIn (x z : Str) : Bool := match cs x with
  | [] => false
  | c :: _ => decide (c ∈ cs z)
def placeO : O → Bool
  | .str x => decide (1 ≤ x.length) && (decide (x.length ≤ 40) && (firstIn x "abcdefghijklmnopqrstuvwxyz" && onlyIn x "abcdefghijklmnopqrstuvwxyz0123456789."))
  | _ => false
def namedO (m : Int) (more : Str) : O → Bool
  | .str x => decide (1 ≤ x.length) && (decide ((x.length : Int) ≤ m) && (firstIn x "abcdefghijklmnopqrstuvwxyz" && onlyIn x ("abcdefghijklmnopqrstuvwxyz" ++ more)))
  | _ => false
def smallS : O → Prop
  | .str x => x.length ≤ 1000
  | _ => True
def sp_has_only (_ : PySem.W.Frag) : Sp := fun vs H Q _ => ∃ x z : Str, vs = [.str x, .str z] ∧ x.length ≤ 1000 ∧ ∀ H', Same H H' → Q (.bl (onlyIn x z)) H'
def sp_is_place (_ : PySem.W.Frag) : Sp := fun vs H Q _ => ∃ (S : List Addr) (v : V) (o : O), vs = [v] ∧ Rep S H v o ∧ smallS o ∧ ∀ H', Same H H' → Q (.bl (placeO o)) H'
section
variable {P : Program} {w : World} {K : PySem.W.Frag} {mg : Str → Option Value} {base : Heap}
theorem ok_has_only (T : Tx K mg)  {f : Addr} {fd : FuncData} (F : Here K mg "has_only" s_has_only ["text", "signs"] f fd) : Cal P w K mg base "has_only" 1 ["text", "signs"] (sp_has_only K) s_has_only f fd := by
  refine F.cal sc_has_only (fun vs H Q E h => ?_) (fun cdv A outer s H vs Q E hr h => ?_)
  · obtain ⟨x, z, rfl, _⟩ := h
    rfl
  · obtain ⟨x, z, rfl, hx, q⟩ := h
    refine ⟨_, (pss_one (ps_ret (pe_callB (cr_allK (K := K) rfl) (by rfl) T.m_all (by decide +kernel) (pa_cons (pe_lc rfl sc_has_only.nd (pi_str (pv 0)) (blkOk_by (own := [("sign", 2)]) (N := ["text", "signs", "sign"]) (sc := (defScope s_has_only)) (by decide +kernel)) (fun _ _ _ _ _ => (pg_name (i := 2) sc_has_only.nd rfl (by first | exact .inl rfl | exact .inr rfl))) (fun _ _ _ _ _ => pts_nil) (fun _ _ _ _ _ => (pe_cmpR op_inS (pv 2) (pv 1) (by rfl)))) pa_nil)))), ?_⟩
    walk_at "st"
    intro D hD
    have hx2 : x.cps.size ≤ 1000 := hx
    refine lc_map (walk_str (z := x)) (by omega) hD (fun i y _ => ∃ c, x.cps[i]? = some c ∧ y = .bl (decide (c ∈ cs z))) (fun _ _ _ _ h _ => h) (fun _ _ _ _ _ h _ => h) (fun _ _ => trivial) (fun i H1 x H2 y => by rw [y.1]; exact Same.refl _)
      (fun i x' H1 H2 Y No hi sm y hY => ?_) (fun ys H' el sm eD hys => ?_)
    · obtain ⟨rfl, c, ec, rfl⟩ := y
      refine ⟨rfl, ?_⟩
      walk_at "st"
      exact hY _ _ (Same.refl _) ⟨c, ec, rfl⟩
    · have eys : ys = ((cs x).map fun c => decide (c ∈ cs z)).map V.bl := by
        apply List.ext_getElem?
        intro i
        cases e2 : ys[i]? with
        | none =>
          rw [List.getElem?_eq_none_iff] at e2
          rw [List.getElem?_eq_none_iff.mpr (by simp [cs]; omega)]
        | some y =>
          obtain ⟨c, ec, rfl⟩ := hys i y e2
          have : (cs x)[i]? = some c := by unfold cs; rw [Array.getElem?_toList]; exact ec
          rw [List.getElem?_map, List.getElem?_map, this]; rfl
      subst eys
      walk_at "st"
      have := q H' sm
      rw [List.all_map]
      exact this
end
local macro_rules | `(tactic| walk_at "ssz") => `(tactic| first | decide | exact str_small (by assumption) | (have : (1000000 : Nat) ≤ sizeLine := (by decide); omega))
local macro_rules | `(tactic| walk_at "st1") => `(tactic| first
  | with_reducible refine' r_nt ?_ | with_reducible refine' r_nf ?_
  | ((with_reducible refine r_lenS ?e1 ?_); (case e1 => walk_at "ssz"))
  | with_reducible refine r_inS ?_
  | with_reducible refine r_ninS ?_
  | ((with_reducible refine r_addS ?e1 ?_); (case e1 => walk_at "ssz"))
  | ((with_reducible refine' r_ixS ?e1 ?e2 ?_); (case e1 => walk_at "ssz"); (case e2 => first | assumption | rfl))
  | with_reducible refine r_istr ?_
  | with_reducible refine r_is ?_
  | with_reducible refine r_un ?_
  | with_reducible refine r_u ?_)
theorem cs_append (x y : Str) : cs (x ++ y) = cs x ++ cs y := by
  show (x.cps ++ y.cps).toList = _
  rw [Array.toList_append]; rfl
theorem cs_len (x : Str) : (cs x).length = x.length := by
  show x.cps.toList.length = x.cps.size
  rw [Array.length_toList]
theorem first_at {x : Str} (h : 1 ≤ x.length) : ∃ c, atI x.cps.toList 0 = some c ∧ ∀ z, firstIn x z = decide (c ∈ cs z) := by
  have hl := cs_len x
  cases e : cs x with
  | nil => rw [e] at hl; simp at hl; omega
  | cons c r =>
    refine ⟨c, ?_, fun z => ?_⟩
    · have : x.cps.toList = c :: r := e
      rw [this]; exact atI_nat (j := 0) rfl
    · unfold firstIn; rw [e]
section
variable {P : Program} {w : World} {K : PySem.W.Frag} {mg : Str → Option Value} {base : Heap}
theorem ok_is_place (T : Tx K mg) {f_has_only : Addr} {fd_has_only : FuncData} (C_has_only : Cal P w K mg base "has_only" 1 ["text", "signs"] (sp_has_only K) s_has_only f_has_only fd_has_only) {f : Addr} {fd : FuncData} (F : Here K mg "is_place" s_is_place ["thing"] f fd) : Cal P w K mg base "is_place" 2 ["thing"] (sp_is_place K) s_is_place f fd := by
  refine F.cal sc_is_place (fun vs H Q E h => ?_) (fun cdv A outer s H vs Q E hr h => ?_)
  · obtain ⟨S, v, o, rfl, _⟩ := h
    rfl
  · obtain ⟨S, v, o, rfl, r, sm0, q⟩ := h
    refine ⟨_, (pss_cons (ps_if (PW.pt (pw_or (pt_not (pt_val (pe_callB (cr_isiK (K := K)) (by rfl) T.m_isinstance (by decide +kernel) (pa_cons (pv 0) (pa_cons (pe_bltn (v := .ty "str") (by rfl) T.m_str (by decide +kernel) rfl) pa_nil))))) (pw_or1 (pt_not (pt_chain op_le op_le pe_int (pe_callB cr_lenS (by rfl) T.m_len (by decide +kernel) (pa_cons (pv 0) pa_nil)) (pe_glob (v := .int 40) (by rfl) (T.c_LONGEST_PLACE).choose_spec ⟨_, rfl⟩)))))) (pss_one (ps_ret pe_bl)) pss_nil)
      (pss_one (ps_ret (pe_and (pe_cmpR op_inS (pe_ix ix_str (pv 0) pe_int (fun _ _ => rfl)) (pe_glob (v := .str "abcdefghijklmnopqrstuvwxyz") (by rfl) (T.c_LETTERS).choose_spec ⟨_, rfl⟩) (by rfl)) (pe_one (pe_call C_has_only.ok (hr.mono (by decide)) (by rfl) C_has_only.at_ C_has_only.kp C_has_only.b .nil pass0 (pa_cons (pv 0) (pa_cons (pe_op op_addS (pe_op op_addS (pe_glob (v := .str "abcdefghijklmnopqrstuvwxyz") (by rfl) (T.c_LETTERS).choose_spec ⟨_, rfl⟩) (pe_glob (v := .str "0123456789") (by rfl) (T.c_FIGURES).choose_spec ⟨_, rfl⟩)) pe_str) pa_nil)))))))), ?_⟩
    cases r with
    | str x =>
      have hx : x.length ≤ 1000 := sm0
      walk_at "st"
      refine r_join (fun σ' H' => σ' = [some (.str x)] ∧ H' = H ∧ 1 ≤ x.length ∧ x.length ≤ 40) (fun σ' H' g => ?_) (fun N hN => ?_)
      · obtain ⟨rfl, rfl, g1, g2⟩ := g
        obtain ⟨c, ec, hc⟩ := first_at g1
        walk_at "st"
        refine r_iteB (fun h2 => ?_) (fun h2 => ?_)
        · walk_at "st"
          refine ⟨x, _, rfl, hx, fun H' sm => ?_⟩
          have := q H' sm
          have e : placeO (.str x) = onlyIn x ("abcdefghijklmnopqrstuvwxyz" ++ "0123456789" ++ ".") := by
            have e1 : firstIn x "abcdefghijklmnopqrstuvwxyz" = true := by rw [hc]; exact h2
            show (decide (1 ≤ x.length) && (decide (x.length ≤ 40) && (firstIn x "abcdefghijklmnopqrstuvwxyz" && _))) = _
            rw [e1, decide_eq_true g1, decide_eq_true g2]
            rfl
          rw [e] at this
          exact this
        · have := q H' (Same.refl _)
          have e : placeO (.str x) = false := by
            have e1 : firstIn x "abcdefghijklmnopqrstuvwxyz" = false := by rw [hc]; exact h2
            show (decide (1 ≤ x.length) && (decide (x.length ≤ 40) && (firstIn x "abcdefghijklmnopqrstuvwxyz" && _))) = _
            rw [e1]; simp
          rw [e] at this
          exact this
      · have no : ¬(1 ≤ x.length ∧ x.length ≤ 40) → Q (.bl false) H := fun z => by
          have := q H (Same.refl _)
          have e : placeO (.str x) = false := by
            by_cases h1 : 1 ≤ x.length
            · have h2 : ¬ x.length ≤ 40 := fun z2 => z ⟨h1, z2⟩
              simp [placeO, h2]
            · simp [placeO, h1]
          rw [e] at this
          exact this
        walk_at "if"
        refine r_ite (fun h1 => ?_) (fun h1 => ?_)
        · walk_at "st"
          by_cases h2 : (x.length : Int) ≤ 40
          · rw [decide_eq_true h2]
            walk_at "st"
            exact hN _ _ ⟨rfl, rfl, by omega, by omega⟩
          · rw [decide_eq_false h2]
            walk_at "st"
            exact no (by omega)
        · walk_at "st"
          exact no (by omega)
    | _ => (walk_at "st"; walk_at "if"; exact q H (Same.refl _))
end
def wholeO : O → Bool
  | .int _ => true
  | _ => false
def numO (p : Int) : O → Bool
  | .int n => decide (0 ≤ n) && decide (n < p)
  | _ => false
def sp_is_whole (_ : PySem.W.Frag) : Sp := fun vs H Q _ => ∃ (S : List Addr) (v : V) (o : O), vs = [v] ∧ Rep S H v o ∧ Q (.bl (wholeO o)) H
def sp_is_number (_ : PySem.W.Frag) : Sp := fun vs H Q _ => ∃ (S : List Addr) (v : V) (o : O) (p : Int), vs = [v, .int p] ∧ Rep S H v o ∧ Q (.bl (numO p o)) H
section
variable {P : Program} {w : World} {K : PySem.W.Frag} {mg : Str → Option Value} {base : Heap}
theorem ok_is_whole (T : Tx K mg)  {f : Addr} {fd : FuncData} (F : Here K mg "is_whole" s_is_whole ["thing"] f fd) : Cal P w K mg base "is_whole" 1 ["thing"] (sp_is_whole K) s_is_whole f fd := by
  refine F.cal sc_is_whole (fun vs H Q E h => ?_) (fun cdv A outer s H vs Q E hr h => ?_)
  · obtain ⟨S, v, o, rfl, _⟩ := h
    rfl
  · obtain ⟨S, v, o, rfl, r, q⟩ := h
    refine ⟨_, (pss_one (ps_ret (pe_and (pe_callB (cr_isiK (K := K)) (by rfl) T.m_isinstance (by decide +kernel) (pa_cons (pv 0) (pa_cons (pe_bltn (v := .ty "int") (by rfl) T.m_int (by decide +kernel) rfl) pa_nil))) (pe_one (pe_not (pe_callB (cr_isiK (K := K)) (by rfl) T.m_isinstance (by decide +kernel) (pa_cons (pv 0) (pa_cons (pe_bltn (v := .ty "bool") (by rfl) T.m_bool (by decide +kernel) rfl) pa_nil)))))))), ?_⟩
    cases r <;> (walk_at "st"; exact q)
theorem ok_is_number (T : Tx K mg) {f_is_whole : Addr} {fd_is_whole : FuncData} (C_is_whole : Cal P w K mg base "is_whole" 1 ["thing"] (sp_is_whole K) s_is_whole f_is_whole fd_is_whole) {f : Addr} {fd : FuncData} (F : Here K mg "is_number" s_is_number ["thing", "p"] f fd) : Cal P w K mg base "is_number" 2 ["thing", "p"] (sp_is_number K) s_is_number f fd := by
  refine F.cal sc_is_number (fun vs H Q E h => ?_) (fun cdv A outer s H vs Q E hr h => ?_)
  · obtain ⟨S, v, o, p, rfl, _⟩ := h
    rfl
  · obtain ⟨S, v, o, p, rfl, r, q⟩ := h
    refine ⟨_, (pss_one (ps_ret (pe_and (pe_call C_is_whole.ok (hr.mono (by decide)) (by rfl) C_is_whole.at_ C_is_whole.kp C_is_whole.b .nil pass0 (pa_cons (pv 0) pa_nil)) (pe_one (pe_chain op_le op_lt pe_int (pv 0) (pv 1)))))), ?_⟩
    walk_at "st"
    refine ⟨S, v, o, rfl, r, ?_⟩
    cases r with
    | int n =>
      walk_at "st"
      refine r_iteB (fun _ => ?_) (fun z => by cases z)
      walk_at "st"
      refine r_ite (fun h1 => ?_) (fun h1 => ?_)
      · walk_at "st"
        simpa [numO, h1] using q
      · simpa [numO, h1] using q
    | _ => (walk_at "st"; exact r_iteB (fun z => by cases z) (fun _ => q))
end
/-! ### places made unlike: the tries end -/
def lettersL : List Nat := cs "abcdefghijklmnopqrstuvwxyz"
def signsL : List Nat := cs "abcdefghijklmnopqrstuvwxyz0123456789."
def preW (n : Nat) : List Nat := 113 :: cs (toString (n : Int))
def stepW (n : Nat) (p : List Nat) : List Nat := preW n ++ p.take 30
def itW (n : Nat) : Nat → List Nat → List Nat
  | 0, p => p
  | t + 1, p => stepW n (itW n t p)
def goodW (w : List Nat) : Prop := 1 ≤ w.length ∧ w.length ≤ 40 ∧ (∃ c r, w = c :: r ∧ c ∈ lettersL) ∧ ∀ c ∈ w, c ∈ signsL
theorem pre_facts : ((List.range 20).all fun n => decide (2 ≤ (preW n).length) && decide ((preW n).length ≤ 3) && (preW n).all fun c => decide (c ∈ signsL)) = true := by decide +kernel
theorem pre_fact {n : Nat} (h : n < 20) : 2 ≤ (preW n).length ∧ (preW n).length ≤ 3 ∧ ∀ c ∈ preW n, c ∈ signsL := by
  have := List.all_eq_true.mp pre_facts n (List.mem_range.mpr h)
  simp only [Bool.and_eq_true, decide_eq_true_eq, List.all_eq_true] at this
  exact ⟨this.1.1, this.1.2, this.2⟩
theorem itW_take {n : Nat} (h : n < 20) (p q : List Nat) : ∀ t, (itW n t p).take (2 * t) = (itW n t q).take (2 * t)
  | 0 => by simp
  | t + 1 => by
    have ih := itW_take h p q t
    have l2 := (pre_fact h).1
    show (preW n ++ (itW n t p).take 30).take (2 * (t + 1)) = (preW n ++ (itW n t q).take 30).take (2 * (t + 1))
    rw [List.take_append, List.take_append, List.take_take, List.take_take]
    have e : ∀ x : List Nat, x.take (min (2 * (t + 1) - (preW n).length) 30) = (x.take (2 * t)).take (min (2 * (t + 1) - (preW n).length) 30) := fun x => by
      rw [List.take_take]; congr 1; omega
    rw [e (itW n t p), e (itW n t q), ih]
theorem stepW_len {n : Nat} (h : n < 20) (p : List Nat) : (stepW n p).length = (preW n).length + min 30 p.length := by
  unfold stepW; rw [List.length_append, List.length_take]
def endW (n : Nat) : List Nat := itW n 17 []
theorem itW_17 {n : Nat} (h : n < 20) (p : List Nat) : itW n 17 p = endW n := by
  have l3 := (pre_fact h).2.1
  have e := itW_take h p [] 17
  have l : ∀ q, (itW n 17 q).length ≤ 34 := fun q => by
    show (stepW n (itW n 16 q)).length ≤ 34
    rw [stepW_len h]; omega
  rwa [List.take_of_length_le (l p), List.take_of_length_le (l [])] at e
def tailL : List Nat := [97, 46, 48, 122]
/-- how a place came to be, as far as is needed -/
inductive OkW (n : Nat) (w : List Nat) : Prop
  | drawn : w.length ∈ [1, 2, 3, 6, 40] → OkW n w
  | tried (m x : Nat) (r : List Nat) : m < n → w = preW m ++ x :: r → x ∈ lettersL → OkW n w
  | more (u : List Nat) (c : Nat) : w = u ++ [c] → c ∈ tailL → (w.length ≤ 7 ∨ w.length = 40 ∨ ∃ v d, u = v ++ [d] ∧ d ∈ tailL) → OkW n w
theorem OkW.mono {n : Nat} {w : List Nat} (h : OkW n w) : OkW (n + 1) w := by
  cases h with
  | drawn h => exact .drawn h
  | tried m x r h e k => exact .tried m x r (by omega) e k
  | more u c e h k => exact .more u c e h k
theorem end_facts : ((List.range 20).all fun n => decide (32 ≤ (endW n).length) && decide ((endW n).length ≤ 33) &&
    ((List.range n).all fun m => !(decide ((endW n).take (preW m).length = preW m) && decide ((endW n).getD (preW m).length 0 ∈ lettersL))) &&
    !(decide ((endW n).getD ((endW n).length - 1) 0 ∈ tailL) && decide ((endW n).getD ((endW n).length - 2) 0 ∈ tailL))) = true := by decide +kernel
theorem OkW.end {n : Nat} (hn : n < 20) {w : List Nat} (h : OkW n w) : w ≠ endW n := by
  have f := List.all_eq_true.mp end_facts n (List.mem_range.mpr hn)
  simp only [Bool.and_eq_true, decide_eq_true_eq] at f
  obtain ⟨⟨⟨f1, f2⟩, f3⟩, f4⟩ := f
  rintro rfl
  cases h with
  | drawn h => simp at h; omega
  | tried m x r h e k =>
    have g := List.all_eq_true.mp f3 m (List.mem_range.mpr h)
    rw [e] at g
    have e1 : (preW m ++ x :: r).take (preW m).length = preW m := by rw [List.take_append_of_le_length (Nat.le_refl _), List.take_length]
    have e2 : (preW m ++ x :: r).getD (preW m).length 0 = x := by simp [List.getD]
    rw [e1, e2, decide_eq_true rfl, decide_eq_true k] at g
    cases g
  | more u c e hc k =>
    rcases k with k | k | ⟨v, d, rfl, hd⟩
    · omega
    · omega
    · rw [e] at f4
      have e1 : (v ++ [d] ++ [c]).getD ((v ++ [d] ++ [c]).length - 1) 0 = c := by simp [List.getD]
      have e2 : (v ++ [d] ++ [c]).getD ((v ++ [d] ++ [c]).length - 2) 0 = d := by simp [List.getD]
      rw [e1, e2, decide_eq_true hc, decide_eq_true hd] at f4
      cases f4
theorem OkW.grow {n : Nat} (hn : n < 20) {w : List Nat} {c : Nat} (h : OkW n w) (hw : 1 ≤ w.length ∧ w.length ≤ 40) (hc : c ∈ tailL) : OkW n (w.take 39 ++ [c]) := by
  have hl : (w.take 39 ++ [c]).length = min 39 w.length + 1 := by rw [List.length_append, List.length_take]; rfl
  cases h with
  | drawn h =>
    refine .more _ _ rfl hc ?_
    simp at h
    omega
  | tried m x r h e k =>
    have l3 := (pre_fact (show m < 20 by omega)).2.1
    refine .tried m x (r.take (39 - (preW m).length - 1) ++ [c]) h ?_ k
    rw [e, List.take_append, List.append_assoc, List.take_of_length_le (show (preW m).length ≤ 39 by omega)]
    congr 1
    obtain ⟨j, ej⟩ : ∃ j, 39 - (preW m).length = j + 1 := ⟨39 - (preW m).length - 1, by omega⟩
    rw [ej]; rfl
  | more u d e hd k =>
    refine .more _ _ rfl hc ?_
    by_cases g : w.length = 40
    · omega
    · refine .inr (.inr ⟨u, d, ?_, hd⟩)
      rw [List.take_of_length_le (by omega)]; exact e
theorem OkW.step {n : Nat} {p : List Nat} (h : goodW p) : OkW (n + 1) (stepW n p) := by
  obtain ⟨_, _, ⟨c, r, rfl, hc⟩, _⟩ := h
  exact .tried n c (r.take 29) (Nat.lt_succ_self n) rfl hc
theorem goodW.step {n : Nat} (hn : n < 20) {p : List Nat} (h : goodW p) : goodW (stepW n p) := by
  have f := pre_fact hn
  refine ⟨by rw [stepW_len hn]; omega, by rw [stepW_len hn]; omega, ⟨113, cs (toString (n : Int)) ++ p.take 30, rfl, by decide +kernel⟩, fun c m => ?_⟩
  rcases List.mem_append.mp m with m | m
  · exact f.2.2 c m
  · exact h.2.2.2 c (List.mem_of_mem_take m)
theorem goodW.grow {p : List Nat} {c : Nat} (h : goodW p) (hc : c ∈ tailL) : goodW (p.take 39 ++ [c]) := by
  obtain ⟨h1, h2, ⟨d, r, rfl, hd⟩, h4⟩ := h
  refine ⟨by simp, by rw [List.length_append, List.length_take]; simp; omega, ⟨d, r.take 38 ++ [c], rfl, hd⟩, fun x m => ?_⟩
  rcases List.mem_append.mp m with m | m
  · exact h4 x (List.mem_of_mem_take m)
  · rw [List.mem_singleton.mp m]
    simp [tailL] at hc
    rcases hc with rfl | rfl | rfl | rfl <;> decide +kernel
theorem goodW.it {n : Nat} (hn : n < 20) {p : List Nat} (h : goodW p) : ∀ t, goodW (itW n t p)
  | 0 => h
  | t + 1 => (goodW.it hn h t).step hn
local macro_rules | `(tactic| walk_at "ssz") => `(tactic| first | decide | exact str_small (by assumption) | (have : (1000000 : Nat) ≤ sizeLine := (by decide); omega))
local macro_rules | `(tactic| walk_at "st1") => `(tactic| first
  | with_reducible refine' r_nt ?_ | with_reducible refine' r_nf ?_
  | ((with_reducible refine r_lenS ?e1 ?_); (case e1 => walk_at "ssz"))
  | with_reducible refine r_inS ?_
  | with_reducible refine r_ninS ?_
  | ((with_reducible refine r_addS ?e1 ?_); (case e1 => walk_at "ssz"))
  | ((with_reducible refine' r_ixS ?e1 ?e2 ?_); (case e1 => walk_at "ssz"); (case e2 => first | assumption | rfl))
  | with_reducible refine r_istr ?_
  | with_reducible refine r_is ?_
  | with_reducible refine r_un ?_
  | with_reducible refine r_u ?_)
theorem op_inSeqK {X : Cx} {K : PySem.W.Frag} (q : X.K = K := by rfl) : OpR X (compareOp .In) (rIn K false) := q ▸ op_in_seq
def rStrOf : List V → Hp → VK → Prop := fun xs H Q => ∃ i : Int, xs = [.int i] ∧ i.natAbs.log2 < 1920 ∧ Q (.str (toString i)) H
theorem cr_strOf {X : Cx} : CallR X (.type "str") rStrOf := call_str_int
theorem cs_inj {x y : Str} (h : cs x = cs y) : x = y := by
  cases x; cases y
  simp only [cs] at h
  congr 1
  exact Array.toList_inj.mp h
theorem inV_strs (z : Str) : ∀ zs : List Str, inV (.str z) (zs.map V.str) = decide (z ∈ zs)
  | [] => by simp [inV]
  | y :: zs => by
    have ih := inV_strs z zs
    unfold inV at ih ⊢
    rw [List.map_cons, List.any_cons, ih]
    have e : eqV (V.str y) (V.str z) = decide (z = y) := by
      show (y == z) = _
      by_cases c : z = y
      · subst c; simp
      · rw [decide_eq_false c]; exact beq_false_of_ne fun w => c w.symm
    rw [e]
    by_cases c : z = y <;> simp [c]
theorem flat_strs (zs : List Str) : (zs.map V.str).all flatV = true := by
  rw [List.all_map]; exact List.all_eq_true.mpr fun _ _ => rfl
theorem cs_cut (z : Str) (n : Nat) : cs (cutS z none (some (n : Int))) = (cs z).take n := by
  unfold cutS cs
  have e1 : HT.sIx z.length 0 none = 0 := rfl
  have e2 : HT.sIx z.length z.length (some (n : Int)) = min n z.length := by
    simp [HT.sIx]; omega
  rw [e1, e2]
  simp only [List.drop_zero, Nat.sub_zero]
  have l : z.cps.toList.length = z.length := by rw [Array.length_toList]; rfl
  by_cases h : n ≤ z.length
  · rw [Nat.min_eq_left h]
  · rw [Nat.min_eq_right (by omega), List.take_of_length_le (by omega), List.take_of_length_le (by omega)]
section
variable {K : PySem.W.Frag} {σ : L2.St} {H : Hp} {Q : VK}
theorem r_slS {z : Str} {lo hi : Option Int} (h : z.length ≤ sizeLine) (q : Q (.str (cutS z lo hi)) H) : rSlS (.str z) lo hi H Q := ⟨z, rfl, h, q⟩
theorem r_inSeq {p : Addr} {z : Str} {zs : List Str} (h : SqL K H p (zs.map V.str)) (q : Q (.bl (decide (z ∈ zs))) H) : rIn K false (.str z) (.ref p) H Q :=
  ⟨p, _, rfl, .inl h, rfl, flat_strs zs, by rw [if_neg (by decide), inV_strs]; exact q⟩
theorem r_strOf {i : Int} (h : i.natAbs.log2 < 1920) (q : Q (.str (toString i)) H) : rStrOf [.int i] H Q := ⟨i, rfl, h, q⟩
end
local macro_rules | `(tactic| walk_at "st1") => `(tactic| first
  | with_reducible refine r_par ?_
  | with_reducible refine r_parx ?_
  | ((with_reducible refine r_slS ?e1 ?_); (case e1 => walk_at "ssz"))
  | ((with_reducible refine' r_inSeq ?e1 ?_); (case e1 => walk_at "sq"))
  | ((with_reducible refine r_strOf ?e1 ?_); (case e1 => assumption)))
def primes14 : List Int := [2, 3, 5, 7, 11, 13, 29, 53, 97, 101, 499, 523, 991, 997]
def sp_law_prime (_ : PySem.W.Frag) : Sp := fun vs H Q _ => ∃ (s c : Addr), vs = [.ref s] ∧ St s c H ∧ ∀ p H', Kp [s, c] H H' → St s c H' → p ∈ primes14 → Q (.int p) H'
def sp_law_place (_ : PySem.W.Frag) : Sp := fun vs H Q _ => ∃ (s c : Addr), vs = [.ref s] ∧ St s c H ∧ ∀ z H', Kp [s, c] H H' → St s c H' → goodW (cs z) → (cs z).length ∈ [1, 2, 3, 6, 40] → Q (.str z) H'
def sp_law_places (_ : PySem.W.Frag) : Sp := fun vs H Q _ => ∃ (s c : Addr) (m : Int), vs = [.ref s, .int m] ∧ St s c H ∧ (0 ≤ m ∧ m ≤ 20) ∧
  ∀ (l : Addr) (zs : List Str) (H' : Hp), Kp [s, c] H H' → St s c H' → H l = none → H' l = some (.lst (zs.map V.str)) → (zs.length : Int) = m → zs.Nodup → (∀ z ∈ zs, goodW (cs z)) → Q (.ref l) H'
section
variable {P : Program} {w : World} {K : PySem.W.Frag} {mg : Str → Option Value} {base : Heap}
theorem ok_law_prime (T : Tx K mg) {f_law_draw : Addr} {fd_law_draw : FuncData} (C_law_draw : Cal P w K mg base "_law_draw" 1 ["state", "many"] (sp_law_draw K) s_law_draw f_law_draw fd_law_draw) {f : Addr} {fd : FuncData} (F : Here K mg "_law_prime" s_law_prime ["state"] f fd) : Cal P w K mg base "_law_prime" 2 ["state"] (sp_law_prime K) s_law_prime f fd := by
  refine F.cal sc_law_prime (fun vs H Q E h => ?_) (fun cdv A outer s H vs Q E hr h => ?_)
  · obtain ⟨s, c, rfl, _⟩ := h
    rfl
  · obtain ⟨s, c, rfl, hst, q⟩ := h
    refine ⟨_, (pss_cons (ps_set (i := 1) sc_law_prime.nd rfl (by first | exact .inl rfl | exact .inr rfl) (pe_lst (pa_cons pe_int (pa_cons pe_int (pa_cons pe_int (pa_cons pe_int (pa_cons pe_int (pa_cons pe_int (pa_cons pe_int (pa_cons pe_int (pa_cons pe_int (pa_cons pe_int (pa_cons pe_int (pa_cons pe_int (pa_cons pe_int (pa_cons pe_int pa_nil))))))))))))))))
      (pss_one (ps_ret (pe_ix (ix_listK (K := K)) (pv 1) (pe_call C_law_draw.ok (hr.mono (by decide)) (by rfl) C_law_draw.at_ C_law_draw.kp C_law_draw.b .nil pass0 (pa_cons (pv 0) (pa_cons pe_int pa_nil))) (fun _ _ => rfl))))), ?_⟩
    walk_at "st"
    intro l hl
    have ol := hst.out hl
    walk_at "st"
    refine ⟨s, c, 14, rfl, by walk_at "stt", by omega, fun d H1 k1 st1 hd => ?_⟩
    obtain ⟨v, ev, hv⟩ := atI_in (xs := [V.int 2, V.int 3, V.int 5, V.int 7, V.int 11, V.int 13, V.int 29, V.int 53, V.int 97, V.int 101, V.int 499, V.int 523, V.int 991, V.int 997]) hd.1 (by simpa using hd.2)
    walk_at "st"
    obtain ⟨p, rfl, hp⟩ : ∃ p, v = .int p ∧ p ∈ primes14 := by
      obtain ⟨p, hp, e⟩ := List.mem_map.mp (show v ∈ primes14.map V.int from hv)
      exact ⟨p, e.symm, hp⟩
    exact q p H1 (by walk_at "kp") st1 hp
theorem all_signs : (cs "abcxyz0189.mnopqrstuvwdefghijkl234567").all (fun c => decide (c ∈ signsL)) = true := by decide +kernel
theorem all_firsts : (cs "abcxyzqm").all (fun c => decide (c ∈ lettersL) && decide (c ∈ signsL)) = true := by decide +kernel
theorem ok_law_place (T : Tx K mg) {f_law_draw : Addr} {fd_law_draw : FuncData} (C_law_draw : Cal P w K mg base "_law_draw" 1 ["state", "many"] (sp_law_draw K) s_law_draw f_law_draw fd_law_draw) {f : Addr} {fd : FuncData} (F : Here K mg "_law_place" s_law_place ["state"] f fd) : Cal P w K mg base "_law_place" 2 ["state"] (sp_law_place K) s_law_place f fd := by
  refine F.cal sc_law_place (fun vs H Q E h => ?_) (fun cdv A outer s H vs Q E hr h => ?_)
  · obtain ⟨s, c, rfl, _⟩ := h
    rfl
  · obtain ⟨s, c, rfl, hst, q⟩ := h
    refine ⟨_, (pss_cons (ps_set (i := 1) sc_law_place.nd rfl (by first | exact .inl rfl | exact .inr rfl) pe_str)
      (pss_cons (ps_set (i := 2) sc_law_place.nd rfl (by first | exact .inl rfl | exact .inr rfl) (pe_ix (ix_listK (K := K)) (pe_lst (pa_cons pe_int (pa_cons pe_int (pa_cons pe_int (pa_cons pe_int (pa_cons pe_int (pa_cons pe_int pa_nil))))))) (pe_call C_law_draw.ok (hr.mono (by decide)) (by rfl) C_law_draw.at_ C_law_draw.kp C_law_draw.b .nil pass0 (pa_cons (pv 0) (pa_cons pe_int pa_nil))) (fun _ _ => rfl)))
      (pss_cons (ps_set (i := 3) sc_law_place.nd rfl (by first | exact .inl rfl | exact .inr rfl) (pe_ix ix_str pe_str (pe_call C_law_draw.ok (hr.mono (by decide)) (by rfl) C_law_draw.at_ C_law_draw.kp C_law_draw.b .nil pass0 (pa_cons (pv 0) (pa_cons pe_int pa_nil))) (fun _ _ => rfl)))
      (pss_cons (ps_while PassesOwn.never (pt_cmpR op_lt (pe_callB cr_lenS (by rfl) T.m_len (by decide +kernel) (pa_cons (pv 3) pa_nil)) (pv 2) (nomark _)) (pss_one (ps_set (i := 3) sc_law_place.nd rfl (by first | exact .inl rfl | exact .inr rfl) (pe_op op_addS (pv 3) (pe_ix ix_str (pv 1) (pe_call C_law_draw.ok (hr.mono (by decide)) (by rfl) C_law_draw.at_ C_law_draw.kp C_law_draw.b .nil pass0 (pa_cons (pv 0) (pa_cons pe_int pa_nil))) (fun _ _ => rfl))))))
      (pss_one (ps_ret (pv 3))))))), ?_⟩
    walk_at "st"
    intro l hl
    have ol := hst.out hl
    walk_at "st"
    refine ⟨s, c, 6, rfl, by walk_at "stt", by omega, fun d H1 k1 st1 hd => ?_⟩
    obtain ⟨v, ev, hv⟩ := atI_in (xs := [V.int 1, V.int 1, V.int 2, V.int 3, V.int 6, V.int 40]) hd.1 (by simpa using hd.2)
    walk_at "st"
    obtain ⟨sz, rfl, hsz⟩ : ∃ p : Nat, v = .int p ∧ p ∈ [1, 2, 3, 6, 40] := by
      simp at hv
      rcases hv with h | h | h | h | h
      · exact ⟨1, h, by decide⟩
      · exact ⟨2, h, by decide⟩
      · exact ⟨3, h, by decide⟩
      · exact ⟨6, h, by decide⟩
      · exact ⟨40, h, by decide⟩
    have hsz2 : 1 ≤ sz ∧ sz ≤ 40 := by simp at hsz; omega
    refine ⟨s, c, 8, rfl, st1, by omega, fun d2 H2 k2 st2 hd2 => ?_⟩
    obtain ⟨c2, ec2, mc2⟩ := atI_in (xs := (Str.ofString "abcxyzqm").cps.toList) hd2.1 (by show d2 < 8; exact hd2.2)
    have f2 := List.all_eq_true.mp all_firsts c2 mc2
    simp only [Bool.and_eq_true, decide_eq_true_eq] at f2
    have k02 : Kp [s, c] H H2 := by walk_at "kp"
    walk_at "st"
    refine ⟨fun m σ' H' => ∃ (z : Str), σ' = [some (.ref s), some (.str "abcxyz0189.mnopqrstuvwdefghijkl234567"), some (.int sz), some (.str z)] ∧ Kp [s, c] H H' ∧ St s c H' ∧ z.length ≤ sz ∧ goodW (cs z) ∧ m = 41 - z.length, ⟨40, _, rfl, k02, st2, by show 1 ≤ sz; omega, ⟨by show 1 ≤ 1; decide, by show 1 ≤ 40; decide, ⟨c2, [], rfl, f2.1⟩, fun x m => by rw [List.mem_singleton.mp m]; exact f2.2⟩, rfl⟩, fun m σ' H' w => ?_⟩
    obtain ⟨z, rfl, k3, st3, hz, gz, rfl⟩ := w
    have lz : z.length ≤ 1000 := by omega
    walk_at "st"
    refine r_ite (fun h => ?_) (fun h => ?_)
    · refine ⟨fun σ' H' => ∃ m', m' < 41 - z.length ∧ ∃ (z : Str), σ' = [some (.ref s), some (.str "abcxyz0189.mnopqrstuvwdefghijkl234567"), some (.int sz), some (.str z)] ∧ Kp [s, c] H H' ∧ St s c H' ∧ z.length ≤ sz ∧ goodW (cs z) ∧ m' = 41 - z.length, fun _ _ h => h, ?_⟩
      walk_at "st"
      refine ⟨s, c, 37, rfl, st3, by omega, fun d4 H4 k4 st4 hd4 => ?_⟩
      obtain ⟨c4, ec4, mc4⟩ := atI_in (xs := (Str.ofString "abcxyz0189.mnopqrstuvwdefghijkl234567").cps.toList) hd4.1 (by show d4 < 37; exact hd4.2)
      have f4 := of_decide_eq_true (List.all_eq_true.mp all_signs c4 mc4)
      have k04 : Kp [s, c] H H4 := by walk_at "kp"
      have l1 : z.length + (⟨#[c4]⟩ : Str).length ≤ 50 := by show z.length + 1 ≤ 50; omega
      walk_at "st"
      have el : (z ++ (⟨#[c4]⟩ : Str)).length = z.length + 1 := by
        show (z.cps ++ #[c4]).size = _
        rw [Array.size_append]; rfl
      have gl := cs_len z
      refine ⟨_, by rw [el]; omega, _, rfl, k04, st4, by rw [el]; omega, ?_, rfl⟩
      rw [cs_append]
      obtain ⟨g1, g2, ⟨x, r, ex, hx⟩, g4⟩ := gz
      refine ⟨by rw [List.length_append]; omega, by rw [List.length_append, gl]; show z.length + 1 ≤ 40; omega, ⟨x, r ++ [c4], by rw [ex]; rfl, hx⟩, fun y m => ?_⟩
      rcases List.mem_append.mp m with m | m
      · exact g4 y m
      · rw [List.mem_singleton.mp m]; exact f4
    · walk_at "st"
      have e : (cs z).length = sz := by rw [cs_len]; omega
      exact q z _ k3 st3 gz (by rw [e]; exact hsz)
end
section
variable {P : Program} {w : World} {K : PySem.W.Frag} {mg : Str → Option Value} {base : Heap}
theorem ok_law_places (T : Tx K mg) {f_law_place : Addr} {fd_law_place : FuncData} (C_law_place : Cal P w K mg base "_law_place" 2 ["state"] (sp_law_place K) s_law_place f_law_place fd_law_place) {f_law_draw : Addr} {fd_law_draw : FuncData} (C_law_draw : Cal P w K mg base "_law_draw" 1 ["state", "many"] (sp_law_draw K) s_law_draw f_law_draw fd_law_draw) {f : Addr} {fd : FuncData} (F : Here K mg "_law_places" s_law_places ["state", "many"] f fd) : Cal P w K mg base "_law_places" 3 ["state", "many"] (sp_law_places K) s_law_places f fd := by
  refine F.cal sc_law_places (fun vs H Q E h => ?_) (fun cdv A outer s H vs Q E hr h => ?_)
  · obtain ⟨s, c, m, rfl, _⟩ := h
    rfl
  · obtain ⟨s, c, m, rfl, hst, hm, q⟩ := h
    refine ⟨_, (pss_cons (ps_set (i := 2) sc_law_places.nd rfl (by first | exact .inl rfl | exact .inr rfl) (pe_lst pa_nil))
      (pss_cons (ps_for PassesOwn.never rfl (pi_range1 (by rfl) T.m_range (pa_cons (pv 1) pa_nil)) (pg_name (i := 3) sc_law_places.nd rfl (by first | exact .inl rfl | exact .inr rfl)) (pss_cons (ps_set (i := 4) sc_law_places.nd rfl (by first | exact .inl rfl | exact .inr rfl) (pe_call C_law_place.ok (hr.mono (by decide)) (by rfl) C_law_place.at_ C_law_place.kp C_law_place.b .nil pass0 (pa_cons (pv 0) pa_nil)))
      (pss_cons (ps_if (PW.pt (pw_and (pt_cmpR (op_neNilK (K := K) (hu_of64 hr)) (pv 2) (pe_lst pa_nil) (nomark _)) (pw_and1 (pt_cmpR op_eq (pe_call C_law_draw.ok (hr.mono (by decide)) (by rfl) C_law_draw.at_ C_law_draw.kp C_law_draw.b .nil pass0 (pa_cons (pv 0) (pa_cons pe_int pa_nil))) pe_int (nomark _))))) (pss_one (ps_set (i := 4) sc_law_places.nd rfl (by first | exact .inl rfl | exact .inr rfl) (pe_op op_addS (pe_slice sl_str (pe_ix (ix_listK (K := K)) (pv 2) (pe_un un_neg pe_int) (fun _ _ => rfl)) po_none (po_some pe_int)) (pe_ix (ix_listK (K := K)) (pe_lst (pa_cons pe_str (pa_cons pe_str (pa_cons pe_str (pa_cons pe_str pa_nil))))) (pe_call C_law_draw.ok (hr.mono (by decide)) (by rfl) C_law_draw.at_ C_law_draw.kp C_law_draw.b .nil pass0 (pa_cons (pv 0) (pa_cons pe_int pa_nil))) (fun _ _ => rfl))))) pss_nil)
      (pss_cons (ps_while PassesOwn.never (pt_cmpR (op_inSeqK (K := K)) (pv 4) (pv 2) (by rfl)) (pss_one (ps_set (i := 4) sc_law_places.nd rfl (by first | exact .inl rfl | exact .inr rfl) (pe_op op_addS (pe_op op_addS pe_str (pe_callTy cr_strOf (by rfl) T.m_str (by decide +kernel) (pa_cons (pe_callB (cr_lenK (K := K)) (by rfl) T.m_len (by decide +kernel) (pa_cons (pv 2) pa_nil)) pa_nil))) (pe_slice sl_str (pv 4) po_none (po_some pe_int))))))
      (pss_one (ps_expr (castBM (K := K) (pe_bm PySem.F.plainAttrs_list PySem.F.slot_list_append PySem.F.type_list_append mt_append (pv 2) (pa_cons (pv 4) pa_nil)))))))))
      (pss_one (ps_ret (pv 2))))), ?_⟩
    walk_at "st"
    intro l hl
    have ol := hst.out hl
    walk_at "st"
    refine lp_by (walk_range (lo := 0) (n := m.toNat)) (fun i σ' H' => ∃ x3 x4, σ' = [some (.ref s), some (.int m), some (.ref l), x3, x4] ∧ Kp [s, c] H H' ∧ St s c H' ∧
      ∃ zs : List Str, H' l = some (.lst (zs.map V.str)) ∧ zs.length = i ∧ zs.Nodup ∧ ∀ z ∈ zs, goodW (cs z) ∧ OkW i (cs z)) ⟨none, none, rfl, by walk_at "kp", by walk_at "stt", [], upd_same, rfl, List.nodup_nil, by simp⟩ (fun _ _ _ _ _ => trivial) (fun i x σ' H2 H3 hi p y => ?_) (fun σ' H2 p => ?_)
    · obtain ⟨x3, x4, rfl, k2, st2, zs, el, en, nd, hz⟩ := p
      obtain ⟨rfl, rfl⟩ := y
      have i20 : i < 20 := by omega
      walk_at "st"
      refine ⟨s, c, rfl, st2, fun z H4 k4 st4 gz lz => ?_⟩
      have el4 : H4 l = some (.lst (zs.map V.str)) := by walk_at "hl"
      have k04 : Kp [s, c] H H4 := by walk_at "kp"
      walk_at "st"
      refine r_join (fun σ' H' => ∃ z, σ' = [some (.ref s), some (.int m), some (.ref l), some (.int (0 + (i : Int))), some (.str z)] ∧ Kp [s, c] H H' ∧ St s c H' ∧ H' l = some (.lst (zs.map V.str)) ∧ goodW (cs z) ∧ OkW i (cs z)) (fun σ' H' g => ?_) (fun N hN => ?_)
      · obtain ⟨z, rfl, k5, st5, el5, gz, oz⟩ := g
        walk_at "st"
        refine ⟨fun m' σ1 H1 => ∃ t z1, m' = 17 - t ∧ t ≤ 17 ∧ σ1 = [some (.ref s), some (.int m), some (.ref l), some (.int (0 + (i : Int))), some (.str z1)] ∧ H1 = H' ∧ cs z1 = itW i t (cs z), ⟨17, 0, z, rfl, by omega, rfl, rfl, rfl⟩, fun m' σ1 H1 w => ?_⟩
        obtain ⟨t, z1, rfl, ht, rfl, rfl, ez⟩ := w
        have g1 : goodW (cs z1) := by rw [ez]; exact gz.it i20 t
        have l1 : z1.length ≤ 1000 := by rw [← cs_len]; exact Nat.le_trans g1.2.1 (by decide)
        walk_at "st"
        refine r_ite (fun h => ?_) (fun h => ?_)
        · have t17 : t < 17 := by
            rcases Nat.lt_or_ge t 17 with g | g
            · exact g
            · obtain rfl : t = 17 := by omega
              rw [itW_17 i20] at ez
              exact absurd ez ((hz z1 h).2.end i20)
          refine ⟨fun σ2 H2 => ∃ m2, m2 < 17 - t ∧ ∃ t z1, m2 = 17 - t ∧ t ≤ 17 ∧ σ2 = [some (.ref s), some (.int m), some (.ref l), some (.int (0 + (i : Int))), some (.str z1)] ∧ H2 = H1 ∧ cs z1 = itW i t (cs z), fun _ _ h => h, ?_⟩
          have e9 : ((zs.map V.str).length : Int) = (i : Int) := by rw [List.length_map, en]
          have lg : ((i : Nat) : Int).natAbs.log2 < 1920 := by
            have : ((i : Nat) : Int).natAbs = i := rfl
            rw [this]
            exact Nat.lt_of_le_of_lt (Nat.log2_le_self i) (by omega)
          walk_at "st"
          rw [e9]
          have l2 := pre_fact i20
          have lpre : (Str.ofString "q" ++ Str.ofString (toString (i : Int))).length ≤ 3 := by
            have e : cs (Str.ofString "q" ++ Str.ofString (toString (i : Int))) = preW i := by rw [cs_append]; rfl
            rw [← cs_len, e]; exact l2.2.1
          have lq : (Str.ofString "q").length + (Str.ofString (toString (i : Int))).length ≤ 3 := by
            have : (Str.ofString "q" ++ Str.ofString (toString (i : Int))).length = (Str.ofString "q").length + (Str.ofString (toString (i : Int))).length := Array.size_append
            omega
          walk_at "st"
          have lc := cutS_length z1 none (some 30)
          refine r_addS (show _ ≤ sizeLine from Nat.le_trans (show _ ≤ 1003 by omega) (by decide)) ?_
          walk_at "st"
          refine ⟨17 - (t + 1), by omega, t + 1, _, rfl, by omega, rfl, rfl, ?_⟩
          rw [cs_append, cs_append]
          show _ = stepW i (itW i t (cs z))
          rw [← ez]
          have := cs_cut z1 30
          unfold stepW preW
          rw [← this]
          rfl
        · walk_at "st"
          have okl : OkW (i + 1) (cs z1) := by
            cases t with
            | zero => rw [ez]; exact oz.mono
            | succ t => rw [ez]; exact OkW.step (gz.it i20 t)
          refine ⟨_, _, rfl, by walk_at "kp", by walk_at "stt", zs ++ [z1], by rw [upd_same, List.map_append]; rfl, by simp [en], ?_, fun y m => ?_⟩
          · exact List.nodup_append.mpr ⟨nd, by simp, fun a ha b hb e => h (by rw [List.mem_singleton.mp hb] at e; exact e ▸ ha)⟩
          · rcases List.mem_append.mp m with m | m
            · exact ⟨(hz y m).1, (hz y m).2.mono⟩
            · rw [List.mem_singleton.mp m]; exact ⟨g1, okl⟩
      · walk_at "if"
        intro p hp
        walk_at "st"
        have keep : ∀ H6, Kp [s, c] H H6 → St s c H6 → H6 l = some (.lst (zs.map V.str)) → N [some (.ref s), some (.int m), some (.ref l), some (.int (0 + (i : Int))), some (.str z)] H6 := fun H6 k6 st6 el6 => hN _ _ ⟨z, rfl, k6, st6, el6, gz, .drawn lz⟩
        refine r_iteB (fun h => ?_) (fun h => ?_)
        · have ne : zs ≠ [] := fun e => by rw [e] at h; cases h
          obtain ⟨us, y, rfl⟩ : ∃ us y, zs = us ++ [y] := ⟨zs.dropLast, zs.getLast ne, (List.dropLast_concat_getLast ne).symm⟩
          walk_at "st"
          refine ⟨s, c, 3, rfl, by walk_at "stt", by omega, fun d H6 k6 st6 hd => ?_⟩
          have el6 : H6 l = some (.lst ((us ++ [y]).map V.str)) := by walk_at "hl"
          have k06 : Kp [s, c] H H6 := by walk_at "kp"
          walk_at "st"
          refine r_iteB (fun h2 => ?_) (fun h2 => ?_)
          · have my := hz y (List.mem_append_right _ (List.mem_singleton.mpr rfl))
            have ly : y.length ≤ 1000 := by rw [← cs_len]; exact Nat.le_trans my.1.2.1 (by decide)
            have ea : atI ((us ++ [y]).map V.str) (-1) = some (.str y) := by rw [List.map_append]; exact atI_last _ _
            walk_at "st"
            intro l7 hl7
            have ol7 := st6.out hl7
            walk_at "st"
            refine ⟨s, c, 4, rfl, by walk_at "stt", by omega, fun d8 H8 k8 st8 hd8 => ?_⟩
            obtain ⟨v8, ev8, mv8⟩ := atI_in (xs := [V.str "a", V.str ".", V.str "0", V.str "z"]) hd8.1 (by simpa using hd8.2)
            obtain ⟨c8, rfl, mc8⟩ : ∃ c8, v8 = V.str ⟨#[c8]⟩ ∧ c8 ∈ tailL := by
              simp at mv8
              rcases mv8 with h | h | h | h
              · exact ⟨97, h, by decide⟩
              · exact ⟨46, h, by decide⟩
              · exact ⟨48, h, by decide⟩
              · exact ⟨122, h, by decide⟩
            have lc := cutS_length y none (some 39)
            have ls : (cutS y none (some 39)).length + (⟨#[c8]⟩ : Str).length ≤ sizeLine := Nat.le_trans (show _ ≤ 1001 from by show _ + 1 ≤ 1001; omega) (by decide)
            have el8 : H8 l = some (.lst ((us ++ [y]).map V.str)) := by walk_at "hl"
            have e7 := k8 _ _ upd_same ol7
            have k08 : Kp [s, c] H H8 := by walk_at "kp"
            walk_at "st"
            have ec : cs (cutS y none (some 39) ++ ⟨#[c8]⟩) = (cs y).take 39 ++ [c8] := by
              rw [cs_append]
              have := cs_cut y 39
              rw [← this]; rfl
            exact hN _ _ ⟨_, rfl, k08, st8, el8, by rw [ec]; exact my.1.grow mc8, by rw [ec]; exact my.2.grow i20 ⟨my.1.1, my.1.2.1⟩ mc8⟩
          · walk_at "st"
            exact keep _ k06 st6 el6
        · walk_at "st"
          exact keep _ (by walk_at "kp") (by walk_at "stt") (by walk_at "hl")
    · obtain ⟨x3, x4, rfl, k2, st2, zs, el, en, nd, hz⟩ := p
      walk_at "st"
      exact q l zs _ k2 st2 hl el (by omega) nd fun z m => (hz z m).1
end
/-! ### terms: rising, one for each place, noughts left out -/
abbrev Tr := Str × Int
def ltS (x y : Str) : Prop := cs x < cs y
def rise (ts : List Tr) : Prop := (ts.map (·.1)).Pairwise ltS
theorem ltS.ne {x y : Str} (h : ltS x y) : x ≠ y := fun e => by rw [e] at h; exact List.lt_irrefl _ h
theorem ltS.asymm {x y : Str} (h : ltS x y) (k : ltS y x) : False := List.lt_asymm h k
theorem rise.nodup {ts : List Tr} (h : rise ts) : (ts.map (·.1)).Nodup := h.imp fun r => r.ne
theorem le_trans_S {x y z : Str} (h : ¬ ltS y x) (k : ¬ ltS z y) : ¬ ltS z x := by
  unfold ltS at *
  rw [List.not_lt] at *
  exact List.le_trans h k
theorem risingS_pairwise : ∀ (p : Str) (l : List Str), risingS p l = true → (p :: l).Pairwise fun a b => ¬ ltS b a
  | p, [], _ => List.pairwise_singleton _ _
  | p, x :: r, h => by
    unfold risingS at h
    rw [Bool.and_eq_true, Bool.not_eq_true', PyProof.Rows.ltCps_eq] at h
    have h1 : ¬ ltS x p := fun z => absurd (show x.cps.toList < p.cps.toList from z) (of_decide_eq_false h.1)
    have ih := risingS_pairwise x r h.2
    refine List.pairwise_cons.mpr ⟨fun y m => ?_, ih⟩
    rcases List.mem_cons.mp m with rfl | m
    · exact h1
    · exact le_trans_S h1 ((List.pairwise_cons.mp ih).1 y m)
theorem sortedS_pairwise {l : List Str} (h : sortedS l = true) : l.Pairwise fun a b => ¬ ltS b a := by
  cases l with
  | nil => exact .nil
  | cons x r => exact risingS_pairwise x r h
theorem sortedS_rise {l : List Str} (h : sortedS l = true) (nd : l.Nodup) : l.Pairwise ltS := by
  have p := sortedS_pairwise h
  refine (p.and nd).imp fun {a b} q => ?_
  rcases Std.lt_trichotomy (cs a) (cs b) with z | z | z
  · exact z
  · exact absurd (cs_inj z) q.2
  · exact absurd z q.1
theorem rise_same {ts us : List Tr} (h : rise ts) (k : rise us) (e : ∀ x, x ∈ ts ↔ x ∈ us) : ts = us := by
  have nt : ts.Nodup := nodup_of_keysS h.nodup
  have nu : us.Nodup := nodup_of_keysS k.nodup
  refine List.Perm.eq_of_pairwise (le := fun x y : Tr => ltS x.1 y.1) (fun a b _ _ p q => (p.asymm q).elim) (List.pairwise_map.mp h) (List.pairwise_map.mp k) ((List.perm_ext_iff_of_nodup nt nu).mpr e)
where
  nodup_of_keysS {l : List Tr} (h : (l.map (·.1)).Nodup) : l.Nodup := (List.pairwise_map.mp h).imp fun p e => p (by rw [e])
/-- how much the pairs tell of a place, together -/
def coef (ps : List Tr) (z : Str) : Int := ((ps.filter fun x => decide (x.1 = z)).map (·.2)).sum
theorem coef_nil (z : Str) : coef [] z = 0 := rfl
theorem coef_cons (x : Tr) (ps : List Tr) (z : Str) : coef (x :: ps) z = (if x.1 = z then x.2 else 0) + coef ps z := by
  unfold coef
  by_cases c : x.1 = z
  · rw [List.filter_cons_of_pos (by simpa using c), List.map_cons, List.sum_cons, if_pos c]
  · rw [List.filter_cons_of_neg (by simpa using c), if_neg c, Int.zero_add]
theorem coef_app (ps qs : List Tr) (z : Str) : coef (ps ++ qs) z = coef ps z + coef qs z := by
  induction ps with
  | nil => rw [List.nil_append, coef_nil, Int.zero_add]
  | cons x ps ih => rw [List.cons_append, coef_cons, coef_cons, ih, Int.add_assoc]
theorem coef_out {ps : List Tr} {z : Str} (h : z ∉ ps.map (·.1)) : coef ps z = 0 := by
  induction ps with
  | nil => rfl
  | cons x ps ih =>
    rw [List.map_cons] at h
    rw [coef_cons, if_neg fun e => h (by rw [e]; exact List.mem_cons_self), ih fun m => h (List.mem_cons_of_mem _ m)]; rfl
theorem coef_in {ps : List Tr} {z : Str} {k : Int} (nd : (ps.map (·.1)).Nodup) (h : (z, k) ∈ ps) : coef ps z = k := by
  induction ps with
  | nil => cases h
  | cons x ps ih =>
    rw [List.map_cons] at nd
    have nd2 := List.nodup_cons.mp nd
    rcases List.mem_cons.mp h with rfl | m
    · rw [coef_cons, if_pos rfl, coef_out nd2.1]; show k + 0 = k; omega
    · have : x.1 ≠ z := fun e => nd2.1 (by rw [e]; exact List.mem_map.mpr ⟨_, m, rfl⟩)
      rw [coef_cons, if_neg this, ih nd2.2 m, Int.zero_add]
/-- the terms of a form, by p: what these pairs tell together -/
structure Canon (p : Int) (ps ts : List Tr) : Prop where
  rise : rise ts
  mem : ∀ z k, (z, k) ∈ ts ↔ k = coef ps z % p ∧ k ≠ 0
theorem Canon.same {p : Int} {ps qs ts us : List Tr} (h : Canon p ps ts) (k : Canon p qs us) (e : ∀ z, coef ps z % p = coef qs z % p) : ts = us :=
  rise_same h.rise k.rise fun x => by
    obtain ⟨z, n⟩ := x
    rw [h.mem, k.mem, e]
structure TermsOk (p : Int) (ts : List Tr) : Prop where
  rise : rise ts
  ok : ∀ x ∈ ts, goodW (cs x.1) ∧ 1 ≤ x.2 ∧ x.2 < p
theorem TermsOk.canon {p : Int} {ts : List Tr} (h : TermsOk p ts) : Canon p ts ts where
  rise := h.rise
  mem := fun z k => by
    constructor
    · intro m
      have b := (h.ok _ m).2
      rw [coef_in h.rise.nodup m, Int.emod_eq_of_lt (by omega) b.2]
      exact ⟨rfl, by omega⟩
    · rintro ⟨e, ne⟩
      by_cases m : z ∈ ts.map (·.1)
      · obtain ⟨x, hx, rfl⟩ := List.mem_map.mp m
        have b := (h.ok x hx).2
        have e2 := coef_in h.rise.nodup (show (x.1, x.2) ∈ ts from hx)
        rw [e2, Int.emod_eq_of_lt (by omega) b.2] at e
        rw [e]; exact hx
      · rw [coef_out m] at e
        exact absurd (by rw [e]; rfl) ne
theorem Canon.ok {p : Int} {ps ts : List Tr} (hp : 0 < p) (h : Canon p ps ts) (g : ∀ x ∈ ps, goodW (cs x.1)) : TermsOk p ts where
  rise := h.rise
  ok := fun x m => by
    obtain ⟨z, k⟩ := x
    obtain ⟨e, ne⟩ := (h.mem z k).mp m
    have e0 := Int.emod_nonneg (coef ps z) (show p ≠ 0 by omega)
    have e1 := Int.emod_lt_of_pos (coef ps z) hp
    refine ⟨?_, by show 1 ≤ k; omega, by show k < p; omega⟩
    by_cases m2 : z ∈ ps.map (·.1)
    · obtain ⟨y, hy, rfl⟩ := List.mem_map.mp m2
      exact g y hy
    · rw [coef_out m2] at e
      exact absurd (by rw [e]; rfl) ne
/-! ### tables: a dict from texts to numbers -/
def encT (D : List Tr) : List (Key × V) := D.map fun x => (Sum.inr x.1, V.int x.2)
def getT (D : List Tr) (z : Str) : Option Int := (D.find? fun x => decide (x.1 = z)).map (·.2)
def putT (D : List Tr) (z : Str) (k : Int) : List Tr := if (D.any fun x => decide (x.1 = z)) = true then D.map (fun x => if x.1 = z then (x.1, k) else x) else D ++ [(z, k)]
theorem enc_get (D : List Tr) (z : Str) : valV (encT D) (Sum.inr z) = (getT D z).map V.int := by
  unfold valV getT encT
  rw [List.find?_map, Option.map_map, Option.map_map]
  have e : ((fun kv : Key × V => decide (kv.1 = Sum.inr z)) ∘ fun x : Tr => ((Sum.inr x.1 : Key), V.int x.2)) = fun x : Tr => decide (x.1 = z) := by
    funext x
    show decide ((Sum.inr x.1 : Key) = Sum.inr z) = _
    exact decide_eq_decide.mpr ⟨fun h => Sum.inr.inj h, fun h => by rw [h]⟩
  rw [e]; rfl
theorem enc_put (D : List Tr) (z : Str) (k : Int) : putK (encT D) (Sum.inr z) (V.int k) = encT (putT D z k) := by
  unfold putK putT
  have e : (encT D).any (fun kv => decide (kv.1 = Sum.inr z)) = D.any fun x => decide (x.1 = z) := by
    unfold encT
    rw [List.any_map]
    congr 1
    funext x
    show decide ((Sum.inr x.1 : Key) = Sum.inr z) = _
    exact decide_eq_decide.mpr ⟨fun h => Sum.inr.inj h, fun h => by rw [h]⟩
  rw [e]
  by_cases c : (D.any fun x => decide (x.1 = z)) = true
  · rw [if_pos c, if_pos c]
    unfold encT
    rw [List.map_map, List.map_map]
    refine List.map_congr_left fun x _ => ?_
    show (if (Sum.inr x.1 : Key) = Sum.inr z then (Sum.inr x.1, V.int k) else (Sum.inr x.1, V.int x.2)) = _
    by_cases d : x.1 = z
    · rw [if_pos (by rw [d])]
      show _ = ((Sum.inr (if x.1 = z then (x.1, k) else x).1 : Key), V.int (if x.1 = z then (x.1, k) else x).2)
      rw [if_pos d]
    · rw [if_neg fun h => d (Sum.inr.inj h)]
      show _ = ((Sum.inr (if x.1 = z then (x.1, k) else x).1 : Key), V.int (if x.1 = z then (x.1, k) else x).2)
      rw [if_neg d]
  · rw [if_neg c, if_neg c]
    unfold encT
    rw [List.map_append]; rfl
theorem any_key (D : List Tr) (z : Str) : (D.any fun x => decide (x.1 = z)) = true ↔ z ∈ D.map (·.1) := by
  rw [List.any_eq_true, List.mem_map]
  exact ⟨fun ⟨x, m, e⟩ => ⟨x, m, of_decide_eq_true e⟩, fun ⟨x, m, e⟩ => ⟨x, m, decide_eq_true e⟩⟩
theorem putT_keys (D : List Tr) (z : Str) (k : Int) : (putT D z k).map (·.1) = if z ∈ D.map (·.1) then D.map (·.1) else D.map (·.1) ++ [z] := by
  unfold putT
  by_cases c : z ∈ D.map (·.1)
  · rw [if_pos c, if_pos ((any_key D z).mpr c), List.map_map]
    refine List.map_congr_left fun x _ => ?_
    show (if x.1 = z then (x.1, k) else x).1 = x.1
    by_cases d : x.1 = z
    · rw [if_pos d]
    · rw [if_neg d]
  · rw [if_neg c, if_neg fun h => c ((any_key D z).mp h), List.map_append]; rfl
theorem getT_put (D : List Tr) (z y : Str) (k : Int) : getT (putT D z k) y = if y = z then some k else getT D y := by
  have h := valV_put (encT D) (Sum.inr z) (Sum.inr y) (V.int k)
  rw [enc_put, enc_get, enc_get] at h
  have inj : ∀ a b : Option Int, a.map V.int = b.map V.int → a = b := fun a b e => by
    cases a <;> cases b <;> simp at e <;> simp [e]
  by_cases c : y = z
  · subst c
    rw [if_pos rfl] at h ⊢
    exact inj _ (some k) h
  · rw [if_neg fun e => c (Sum.inr.inj e)] at h
    rw [if_neg c]
    exact inj _ _ h
theorem getT_out {D : List Tr} {z : Str} (h : z ∉ D.map (·.1)) : getT D z = none := by
  unfold getT
  rw [List.find?_eq_none.mpr fun x m e => h (List.mem_map.mpr ⟨x, m, of_decide_eq_true e⟩)]; rfl
theorem getT_in {D : List Tr} (nd : (D.map (·.1)).Nodup) {z : Str} {k : Int} (h : (z, k) ∈ D) : getT D z = some k := by
  induction D with
  | nil => cases h
  | cons x D ih =>
    rw [List.map_cons] at nd
    have nd2 := List.nodup_cons.mp nd
    unfold getT
    rcases List.mem_cons.mp h with rfl | m
    · rw [List.find?_cons_of_pos (by simp)]; rfl
    · have : x.1 ≠ z := fun e => nd2.1 (by rw [e]; exact List.mem_map.mpr ⟨_, m, rfl⟩)
      rw [List.find?_cons_of_neg (by simpa using this)]
      exact ih nd2.2 m
theorem putT_nodup {D : List Tr} (nd : (D.map (·.1)).Nodup) (z : Str) (k : Int) : ((putT D z k).map (·.1)).Nodup := by
  rw [putT_keys]
  by_cases c : z ∈ D.map (·.1)
  · rw [if_pos c]; exact nd
  · rw [if_neg c]
    exact List.nodup_append.mpr ⟨nd, by simp, fun a ha b hb e => c (by rw [List.mem_singleton.mp hb] at e; exact e ▸ ha)⟩
theorem putT_mem (D : List Tr) (z y : Str) (k : Int) : y ∈ (putT D z k).map (·.1) ↔ y ∈ D.map (·.1) ∨ y = z := by
  rw [putT_keys]
  by_cases c : z ∈ D.map (·.1)
  · rw [if_pos c]
    exact ⟨.inl, fun h => h.elim id fun e => e ▸ c⟩
  · rw [if_neg c, List.mem_append, List.mem_singleton]
theorem putT_len (D : List Tr) (z : Str) (k : Int) : (putT D z k).length ≤ D.length + 1 := by
  have := congrArg List.length (putT_keys D z k)
  rw [List.length_map] at this
  rw [this]
  split
  · rw [List.length_map]; omega
  · simp
/-! ### forms as they stand -/
def TrV (H : Hp) (v : V) (x : Tr) : Prop := ∃ t, v = .ref t ∧ H t = some (.tup [.str x.1, .int x.2])
def Trs (H : Hp) (us : List V) (ts : List Tr) : Prop := us.length = ts.length ∧ ∀ (i : Nat) (v : V), us[i]? = some v → ∃ x, ts[i]? = some x ∧ TrV H v x
def FrmV (H : Hp) (v : V) (n : Int) (ts : List Tr) : Prop := ∃ a b us, v = .ref a ∧ H a = some (.tup [.int n, .ref b]) ∧ H b = some (.tup us) ∧ Trs H us ts
structure FormOk (q n : Int) (ts : List Tr) : Prop where
  num : 0 ≤ n ∧ n < q
  ok : TermsOk q ts
/-- H' has all tuples of H -/
def Tups (H H' : Hp) : Prop := ∀ a xs, H a = some (.tup xs) → H' a = some (.tup xs)
theorem Tups.refl {H : Hp} : Tups H H := fun _ _ h => h
theorem Tups.trans {H H1 H2 : Hp} (a : Tups H H1) (b : Tups H1 H2) : Tups H H2 := fun _ _ h => b _ _ (a _ _ h)
theorem Tups.same {H H' : Hp} (k : Same H H') : Tups H H' := fun _ _ h => k _ _ h
theorem Tups.st {s c : Addr} {H H' : Hp} (k : Kp [s, c] H H') (t : St s c H) : Tups H H' := fun a xs h => k _ _ h fun z => by
  obtain ⟨_, cs, j, r, h2⟩ := t
  rcases List.mem_cons.mp z with e1 | z
  · rw [e1, h2.hs] at h; cases h
  · rw [List.mem_singleton.mp z, h2.hc] at h; cases h
theorem Tups.lst {H : Hp} {l : Addr} {xs : List V} {o : HO} (e : H l = some (.lst xs)) : Tups H (upd H l o) := fun a xs h => hl_set (fun z => by rw [z, e] at h; cases h) h
theorem Tups.dk {H : Hp} {l : Addr} {xs : List (Key × V)} {o : HO} (e : H l = some (.dK xs)) : Tups H (upd H l o) := fun a xs h => hl_set (fun z => by rw [z, e] at h; cases h) h
theorem TrV.to {H H' : Hp} {v : V} {x : Tr} (h : TrV H v x) (k : Tups H H') : TrV H' v x := by
  obtain ⟨t, e, h1⟩ := h
  exact ⟨t, e, k _ _ h1⟩
theorem Trs.to {H H' : Hp} {us : List V} {ts : List Tr} (h : Trs H us ts) (k : Tups H H') : Trs H' us ts := ⟨h.1, fun i v e => (h.2 i v e).imp fun _ y => ⟨y.1, y.2.to k⟩⟩
theorem FrmV.to {H H' : Hp} {v : V} {n : Int} {ts : List Tr} (h : FrmV H v n ts) (k : Tups H H') : FrmV H' v n ts := by
  obtain ⟨a, b, us, e, h1, h2, h3⟩ := h
  exact ⟨a, b, us, e, k _ _ h1, k _ _ h2, h3.to k⟩
theorem Trs.nil {H : Hp} : Trs H [] [] := ⟨rfl, fun i v e => by simp at e⟩
theorem Trs.append {H : Hp} {us vs : List V} {ts qs : List Tr} (h : Trs H us ts) (k : Trs H vs qs) : Trs H (us ++ vs) (ts ++ qs) :=
  ⟨by rw [List.length_append, List.length_append, h.1, k.1], fun i v e => by
    by_cases lt : i < us.length
    · rw [List.getElem?_append_left lt] at e
      rw [List.getElem?_append_left (by rw [← h.1]; exact lt)]
      exact h.2 i v e
    · rw [List.getElem?_append_right (by omega)] at e
      rw [List.getElem?_append_right (by rw [← h.1]; omega), ← h.1]
      exact k.2 _ v e⟩
theorem Trs.one {H : Hp} {v : V} {x : Tr} (h : TrV H v x) : Trs H [v] [x] := ⟨rfl, fun i u e => by
  cases i with
  | zero => exact ⟨x, rfl, (Option.some.inj (show some v = some u from e)) ▸ h⟩
  | succ i => simp at e⟩
theorem cr_sortedSK {X : Cx} {K : PySem.W.Frag} (q : X.K = K := by rfl) : CallR X (.builtin "sorted") (rSortedS K) := q ▸ cr_sortedS
section
variable {K : PySem.W.Frag} {H : Hp} {Q : VK}
theorem r_sortS {a : Addr} {xs : List Str} (h : SqL K H a (xs.map V.str)) (z : xs.length < 64) (q : ∀ (ys : List Str) (p : Addr), ys.Perm xs → sortedS ys = true → H p = none → Q (.ref p) (upd H p (.lst (ys.map V.str)))) : rSortedS K [.ref a] H Q := ⟨a, xs, rfl, h, z, q⟩
end
theorem getElem?_map_str {ns : List Str} {i : Nat} {x : V} (e : (ns.map V.str)[i]? = some x) : ∃ n, ns[i]? = some n ∧ x = .str n := by
  rw [List.getElem?_map] at e
  cases h : ns[i]? with
  | none => rw [h] at e; cases e
  | some n => rw [h] at e; exact ⟨n, rfl, (Option.some.inj e).symm⟩
def sp_law_form (_ : PySem.W.Frag) : Sp := fun vs H Q _ => ∃ (s c l : Addr) (q : Int) (zs : List Str), vs = [.ref s, .ref l, .int q] ∧ St s c H ∧ H l = some (.lst (zs.map V.str)) ∧ l ∉ [s, c] ∧ zs.Nodup ∧ zs.length < 64 ∧ (∀ z ∈ zs, goodW (cs z)) ∧ (2 ≤ q ∧ q ≤ 997) ∧
  ∀ (a : Addr) (n : Int) (ts : List Tr) (H' : Hp), Kp [s, c] H H' → St s c H' → FrmV H' (.ref a) n ts → FormOk q n ts → (∀ x ∈ ts, x.1 ∈ zs) → ts.length ≤ zs.length → Q (.ref a) H'
section
variable {P : Program} {w : World} {K : PySem.W.Frag} {mg : Str → Option Value} {base : Heap}
theorem ok_law_form (T : Tx K mg) {f_law_draw : Addr} {fd_law_draw : FuncData} (C_law_draw : Cal P w K mg base "_law_draw" 1 ["state", "many"] (sp_law_draw K) s_law_draw f_law_draw fd_law_draw) {f : Addr} {fd : FuncData} (F : Here K mg "_law_form" s_law_form ["state", "places", "q"] f fd) : Cal P w K mg base "_law_form" 2 ["state", "places", "q"] (sp_law_form K) s_law_form f fd := by
  refine F.cal sc_law_form (fun vs H Q E h => ?_) (fun cdv A outer s H vs Q E hr h => ?_)
  · obtain ⟨s, c, l, q, zs, rfl, _⟩ := h
    rfl
  · obtain ⟨s, c, l, q, zs, rfl, hst, hl, nl, nd, lz, gz, hq, fin⟩ := h
    refine ⟨_, (pss_cons (ps_set (i := 3) sc_law_form.nd rfl (by first | exact .inl rfl | exact .inr rfl) (pe_lst pa_nil))
      (pss_cons (ps_for PassesOwn.never rfl (pi_listK (K := K) (pe_callB (cr_sortedSK (K := K)) (by rfl) T.m_sorted (by decide +kernel) (pa_cons (pv 1) pa_nil))) (pg_name (i := 4) sc_law_form.nd rfl (by first | exact .inl rfl | exact .inr rfl)) (pss_cons (ps_set (i := 5) sc_law_form.nd rfl (by first | exact .inl rfl | exact .inr rfl) (pe_ix (ix_listK (K := K)) (pe_lst (pa_cons pe_int (pa_cons pe_int (pa_cons (pe_op op_sub (pv 2) pe_int) (pa_cons (pe_call C_law_draw.ok (hr.mono (by decide)) (by rfl) C_law_draw.at_ C_law_draw.kp C_law_draw.b .nil pass0 (pa_cons (pv 0) (pa_cons (pv 2) pa_nil))) pa_nil))))) (pe_call C_law_draw.ok (hr.mono (by decide)) (by rfl) C_law_draw.at_ C_law_draw.kp C_law_draw.b .nil pass0 (pa_cons (pv 0) (pa_cons pe_int pa_nil))) (fun _ _ => rfl)))
      (pss_one (ps_if (pt_cmpR op_gt (pv 5) pe_int (nomark _)) (pss_one (ps_expr (castBM (K := K) (pe_bm PySem.F.plainAttrs_list PySem.F.slot_list_append PySem.F.type_list_append mt_append (pv 3) (pa_cons (pe_tup (pa_cons (pv 4) (pa_cons (pv 5) pa_nil))) pa_nil))))) pss_nil))))
      (pss_one (ps_ret (pe_tup (pa_cons (pe_ix (ix_listK (K := K)) (pe_lst (pa_cons pe_int (pa_cons pe_int (pa_cons (pe_op op_sub (pv 2) pe_int) (pa_cons (pe_call C_law_draw.ok (hr.mono (by decide)) (by rfl) C_law_draw.at_ C_law_draw.kp C_law_draw.b .nil pass0 (pa_cons (pv 0) (pa_cons (pv 2) pa_nil))) pa_nil))))) (pe_call C_law_draw.ok (hr.mono (by decide)) (by rfl) C_law_draw.at_ C_law_draw.kp C_law_draw.b .nil pass0 (pa_cons (pv 0) (pa_cons pe_int pa_nil))) (fun _ _ => rfl)) (pa_cons (pe_callTy (cr_tupOfK (K := K)) (by rfl) T.m_tuple (by decide +kernel) (pa_cons (pv 3) pa_nil)) pa_nil))))))), ?_⟩
    walk_at "st"
    intro lt hlt
    have olt := hst.out hlt
    have nlt : l ≠ lt := ne_of_none hl hlt
    walk_at "st"
    refine r_sortS (SqL.of (hl_new hl hlt)) lz fun ys p pm so hp => ?_
    have st1 : St s c (upd H lt (.lst [])) := hst.new hlt
    have op := st1.out hp
    have np : lt ≠ p := ne_of_none upd_same hp
    have ri := sortedS_rise so (pm.symm.nodup nd)
    have gy : ∀ z ∈ ys, goodW (cs z) ∧ z ∈ zs := fun z m => ⟨gz z (pm.mem_iff.mp m), pm.mem_iff.mp m⟩
    walk_at "st"
    refine lp_by (walk_list (a := p) (xs := ys.map V.str)) (fun i σ' H' => ∃ x4 x5, σ' = [some (.ref s), some (.ref l), some (.int q), some (.ref lt), x4, x5] ∧ Kp [s, c] H H' ∧ St s c H' ∧ H' p = some (.lst (ys.map V.str)) ∧
      ∃ us ts, H' lt = some (.lst us) ∧ Trs H' us ts ∧ (ts.map (·.1)).Sublist (ys.take i) ∧ ∀ x ∈ ts, 1 ≤ x.2 ∧ x.2 < q) ⟨none, none, rfl, by walk_at "kp", by walk_at "stt", upd_same, [], [], by walk_at "hl", Trs.nil, List.Sublist.refl _, by simp⟩ (fun i σ' H' _ g => ?_) (fun i x σ' H2 H3 hi g y => ?_) (fun σ' H2 g => ?_)
    · obtain ⟨_, _, _, _, _, ep, _⟩ := g
      exact SqL.of ep
    · obtain ⟨x4, x5, rfl, k2, st2, ep, us, ts, et, ht, sb, bd⟩ := g
      obtain ⟨rfl, ex⟩ := y
      obtain ⟨z, ez, rfl⟩ := getElem?_map_str ex
      have lts : ts.length ≤ 64 := by
        have := sb.length_le
        rw [List.length_map, List.length_take] at this
        have := pm.length_eq
        omega
      walk_at "st"
      refine ⟨s, c, q, rfl, st2, by omega, fun d4 H4 k4 st4 hd4 => ?_⟩
      walk_at "st"
      intro l5 hl5
      have ol5 := st4.out hl5
      walk_at "st"
      refine ⟨s, c, 4, rfl, by walk_at "stt", by omega, fun d6 H6 k6 st6 hd6 => ?_⟩
      obtain ⟨v6, ev6, mv6⟩ := atI_in (xs := [V.int 0, V.int 1, V.int (q - 1), V.int d4]) hd6.1 (by simpa using hd6.2)
      obtain ⟨n6, rfl, hn6⟩ : ∃ n, v6 = V.int n ∧ (0 ≤ n ∧ n < q) := by
        simp at mv6
        rcases mv6 with h | h | h | h <;> exact ⟨_, h, by omega⟩
      have e5 := k6 _ _ upd_same ol5
      have k5 : Kp [s, c] H4 (upd H4 l5 (.lst [V.int 0, V.int 1, V.int (q - 1), V.int d4])) := Kp.new hl5
      have et6 : H6 lt = some (.lst us) := k6 _ _ (k5 _ _ (k4 _ _ et olt) olt) olt
      have ep6 : H6 p = some (.lst (ys.map V.str)) := k6 _ _ (k5 _ _ (k4 _ _ ep op) op) op
      have T6 := (Tups.st k4 st2).trans ((Tups.same (Same.upd_new hl5)).trans (Tups.st k6 (st4.new hl5)))
      have k06 : Kp [s, c] H H6 := ((k2.trans k4).trans k5).trans k6
      walk_at "st"
      walk_at "if"
      have sb' : (ts.map (·.1)).Sublist (ys.take (i + 1)) := sb.trans (by rw [List.take_succ]; exact List.sublist_append_left _ _)
      refine r_ite (fun h => ?_) (fun h => ?_)
      · walk_at "st"
        intro t ht8
        have lu : us.length ≤ 64 := by rw [ht.1]; exact lts
        have ht6 := hl_new et6 ht8 (u := .tup [V.str z, V.int n6])
        walk_at "st"
        have nt : t ≠ lt := (ne_of_none et6 ht8).symm
        refine ⟨_, _, rfl, by walk_at "kp", by walk_at "stt", by walk_at "hl", us ++ [.ref t], ts ++ [(z, n6)], upd_same, ?_, ?_, fun x m => ?_⟩
        · exact ((ht.to (T6.trans (Tups.same (Same.upd_new ht8)))).append (Trs.one ⟨t, rfl, upd_same⟩)).to (Tups.lst ht6)
        · rw [List.map_append, List.take_succ, ez]
          exact sb.append (List.Sublist.refl _)
        · rcases List.mem_append.mp m with m | m
          · exact bd x m
          · rw [List.mem_singleton.mp m]; exact ⟨by show 1 ≤ n6; omega, hn6.2⟩
      · walk_at "st"
        exact ⟨_, _, rfl, k06, st6, ep6, us, ts, et6, ht.to T6, sb', bd⟩
    · obtain ⟨x4, x5, rfl, k2, st2, ep, us, ts, et, ht, sb, bd⟩ := g
      rw [List.take_of_length_le (by rw [List.length_map]; exact Nat.le_refl _)] at sb
      walk_at "st"
      refine ⟨s, c, q, rfl, st2, by omega, fun d4 H4 k4 st4 hd4 => ?_⟩
      walk_at "st"
      intro l5 hl5
      have ol5 := st4.out hl5
      walk_at "st"
      refine ⟨s, c, 4, rfl, by walk_at "stt", by omega, fun d6 H6 k6 st6 hd6 => ?_⟩
      obtain ⟨v6, ev6, mv6⟩ := atI_in (xs := [V.int 0, V.int 1, V.int (q - 1), V.int d4]) hd6.1 (by simpa using hd6.2)
      obtain ⟨n6, rfl, hn6⟩ : ∃ n, v6 = V.int n ∧ (0 ≤ n ∧ n < q) := by
        simp at mv6
        rcases mv6 with h | h | h | h <;> exact ⟨_, h, by omega⟩
      have e5 := k6 _ _ upd_same ol5
      have k5 : Kp [s, c] H4 (upd H4 l5 (.lst [V.int 0, V.int 1, V.int (q - 1), V.int d4])) := Kp.new hl5
      have et6 : H6 lt = some (.lst us) := k6 _ _ (k5 _ _ (k4 _ _ et olt) olt) olt
      have T6 := (Tups.st k4 st2).trans ((Tups.same (Same.upd_new hl5)).trans (Tups.st k6 (st4.new hl5)))
      have k06 : Kp [s, c] H H6 := ((k2.trans k4).trans k5).trans k6
      walk_at "st"
      intro b hb
      walk_at "st"
      intro a ha
      have S8 : Same H6 (upd (upd H6 b (.tup us)) a (.tup [V.int n6, V.ref b])) := (Same.upd_new hb).trans (Same.upd_new ha)
      refine fin a n6 ts _ (by walk_at "kp") (by walk_at "stt") ⟨a, b, us, rfl, upd_same, hl_new upd_same ha, ht.to (T6.trans (Tups.same S8))⟩ ⟨hn6, ri.sublist sb, fun x m => ?_⟩ (fun x m => ?_) (by have := sb.length_le; rw [List.length_map, pm.length_eq] at this; exact this)
      · exact ⟨(gy _ (sb.subset (List.mem_map.mpr ⟨x, m, rfl⟩))).1, bd x m⟩
      · exact (gy _ (sb.subset (List.mem_map.mpr ⟨x, m, rfl⟩))).2
end
/-! ### dicts from texts to numbers: their readings -/
def DG3 (d : Addr) (Q : VK) (y z : V) (H : Hp) : Prop := ∃ o, DGet H d y o ∧ Q (o.getD z) H
def DG2 (ty tx : TE) (σ : L2.St) (Q : VK) (x : V) (H1 : Hp) : Prop := ∃ a, x = .ref a ∧ IsD H1 a ∧ ty σ H1 fun y H2 => tx σ H2 fun z H3 => DG3 a Q y z H3
def DG1 (Q : VK) (x y : V) (H2 : Hp) : Prop := ∃ a v, x = .ref a ∧ DGet H2 a y (some v) ∧ Q v H2
def rSortedD : List V → Hp → VK → Prop := fun xs H Q => ∃ (a : Addr) (kvs : List (Key × V)) (ks : List Str), xs = [.ref a] ∧ Rd H a (.dK kvs) ∧ kvs.map (·.1) = ks.map Sum.inr ∧ ks.length < 64 ∧
    ∀ ys p, ys.Perm ks → sortedS ys = true → H p = none → Q (.ref p) (upd H p (.lst (ys.map V.str)))
theorem cr_sortedD {X : Cx} (hc : X.calm = true) : CallR X (.builtin "sorted") rSortedD := call_sortedD hc
section
variable {K : PySem.W.Frag} {D : Ends} {σ : L2.St} {H : Hp} {Q : VK}
theorem r_par {i j : Nat} {ta : TA} (h : ta σ H fun vs H1 => ∃ v w, vs = [v, w] ∧ D.nx ((σ.set i (some v)).set j (some w)) H1) : tPar i j ta D σ H := h
theorem r_parx {v w : V} {R : V → V → Prop} (h : R v w) : ∃ v' w', [v, w] = [v', w'] ∧ R v' w' := ⟨v, w, rfl, h⟩
theorem r_gtup {n : Nat} {t : TGs} {a : Addr} {xs : List V} {N : L2.St → Hp → Prop} (h : SqT K H a xs) (e : xs.length = n) (q : t xs σ H N) : gTup K n t (.ref a) σ H N := ⟨a, xs, rfl, h, e, q⟩
theorem r_gcons {t : TG} {u : TGs} {v : V} {r : List V} {N : L2.St → Hp → Prop} (q : t v σ H fun σ' H' => u r σ' H' N) : gCons t u (v :: r) σ H N := ⟨v, r, rfl, q⟩
theorem r_gnil {N : L2.St → Hp → Prop} (q : N σ H) : gNil [] σ H N := ⟨rfl, q⟩
end
section
variable {σ : L2.St} {H : Hp} {Q : VK}
theorem r_dget2 {td ty tx : TE} (h : td σ H (DG2 ty tx σ Q)) : tDGet2 td ty tx σ H Q := h
theorem r_dg2 {ty tx : TE} {d : Addr} {D : List Tr} (e : H d = some (.dK (encT D))) (h : ty σ H fun y H2 => tx σ H2 fun z H3 => DG3 d Q y z H3) : DG2 ty tx σ Q (.ref d) H := ⟨d, rfl, .inl ⟨_, .inl e⟩, h⟩
theorem r_dg3 {d : Addr} {D : List Tr} {z : Str} {n : Int} (e : H d = some (.dK (encT D))) (q : Q (.int ((getT D z).getD n)) H) : DG3 d Q (.str z) (.int n) H :=
  ⟨_, DGet.k (k := Sum.inr z) e, by
    rw [enc_get]
    cases h : getT D z with
    | none => rw [h] at q; exact q
    | some k => rw [h] at q; exact q⟩
theorem r_dget {td ty : TE} (h : td σ H fun x H1 => ty σ H1 fun y H2 => DG1 Q x y H2) : tDGet td ty σ H Q := h
theorem r_dgv {d : Addr} {D : List Tr} {z : Str} {k : Int} (e : H d = some (.dK (encT D))) (g : getT D z = some k) (q : Q (.int k) H) : DG1 Q (.ref d) (.str z) H :=
  ⟨d, _, rfl, by
    have := DGet.k (k := Sum.inr z) e
    rw [enc_get, g] at this
    exact this, q⟩
theorem r_setD {d : Addr} {D : List Tr} {z : Str} {k : Int} {N : Hp → Prop} (e : H d = some (.dK (encT D))) (l : D.length ≤ 1000) (q : N (upd H d (.dK (encT (putT D z k))))) : rSetD (.ref d) (.str z) (.int k) H N :=
  ⟨d, _, rfl, by
    have := DPut.k (k := Sum.inr z) (v := .int k) e (by unfold encT; rw [List.length_map]; exact Nat.lt_of_le_of_lt l (by decide))
    rw [enc_put] at this
    exact this, q⟩
theorem r_sortD {d : Addr} {D : List Tr} (e : H d = some (.dK (encT D))) (l : D.length < 64) (q : ∀ (ys : List Str) (p : Addr), ys.Perm (D.map (·.1)) → sortedS ys = true → H p = none → Q (.ref p) (upd H p (.lst (ys.map V.str)))) : rSortedD [.ref d] H Q :=
  ⟨d, _, D.map (·.1), rfl, .inl e, by unfold encT; rw [List.map_map, List.map_map]; rfl, by rw [List.length_map]; exact l, q⟩
def DP (p : Addr) (Q : VK) (ps : List (V × V)) (H2 : Hp) : Prop := H2 p = some (.dK []) ∧ ∃ kvs : List (Key × V), ps = kvs.map (fun kv => (kV kv.1, kv.2)) ∧ kvs.length ≤ 15 ∧ Q (.ref p) (upd H2 p (.dK (mergeK [] kvs)))
theorem r_disp {trs : List (TE × TE)} (h : ∀ p, H p = none → tPairs trs σ (upd H p (.dK [])) (DP p Q)) : tDisp trs σ H Q := h
theorem r_tp1 {tk tv : TE} {r : List (TE × TE)} {R : List (V × V) → Hp → Prop} (h : tk σ H fun x H1 => tv σ H1 fun y H2 => tPairs r σ H2 fun ps H3 => R ((x, y) :: ps) H3) : tPairs ((tk, tv) :: r) σ H R := h
theorem r_tp0 {R : List (V × V) → Hp → Prop} (h : R [] H) : tPairs [] σ H R := h
theorem r_dp1 {p : Addr} {z : Str} {n : Int} (h : H p = some (.dK [])) (q : Q (.ref p) (upd H p (.dK (encT [(z, n)])))) : DP p Q [(V.str z, V.int n)] H := ⟨h, [(Sum.inr z, .int n)], rfl, by simp, q⟩
theorem r_dnewK (h : ∀ p, H p = none → Q (.ref p) (upd H p (.dK (encT [])))) : tDNewK σ H Q := h
end
local macro_rules | `(tactic| walk_at "st1") => `(tactic| first
  | with_reducible refine r_par ?_
  | with_reducible refine r_parx ?_
  | ((with_reducible refine' r_gtup ?e1 ?e2 ?_); (case e1 => walk_at "sq"); (case e2 => rfl))
  | with_reducible refine r_gcons ?_
  | with_reducible refine r_gnil ?_
  | with_reducible refine r_disp ?_
  | with_reducible refine r_tp1 ?_
  | with_reducible refine r_tp0 ?_
  | ((with_reducible refine' r_dp1 ?e1 ?_); (case e1 => walk_at "hl"))
  | with_reducible refine r_dnewK ?_
  | with_reducible refine r_dget2 ?_
  | ((with_reducible refine' r_dg2 ?e1 ?_); (case e1 => walk_at "hl"))
  | ((with_reducible refine' r_dg3 ?e1 ?_); (case e1 => walk_at "hl"))
  | with_reducible refine r_dget ?_
  | ((with_reducible refine' r_dgv ?e1 ?e2 ?_); (case e1 => walk_at "hl"); (case e2 => assumption))
  | ((with_reducible refine' r_setD ?e1 ?e2 ?_); (case e1 => walk_at "hl"); (case e2 => omega)))
def sp_new_form (_ : PySem.W.Frag) : Sp := fun vs H Q _ => ∃ (l : Addr) (n p : Int) (us : List V) (ps : List Tr), vs = [.int n, .ref l, .int p] ∧ H l = some (.lst us) ∧ Trs H us ps ∧ ps.length < 64 ∧ (2 ≤ p ∧ p ≤ 997) ∧
  ∀ (a : Addr) (ts : List Tr) (H' : Hp), Same H H' → FrmV H' (.ref a) (n % p) ts → Canon p ps ts → Q (.ref a) H'
section
variable {P : Program} {w : World} {K : PySem.W.Frag} {mg : Str → Option Value} {base : Heap}
theorem ok_new_form (T : Tx K mg)  {f : Addr} {fd : FuncData} (F : Here K mg "new_form" s_new_form ["n", "pairs", "p"] f fd) : Cal P w K mg base "new_form" 1 ["n", "pairs", "p"] (sp_new_form K) s_new_form f fd := by
  refine F.cal sc_new_form (fun vs H Q E h => ?_) (fun cdv A outer s H vs Q E hr h => ?_)
  · obtain ⟨l, n, p, us, ps, rfl, _⟩ := h
    rfl
  · obtain ⟨l, n, p, us, ps, rfl, hl, hu, lp, hp, q⟩ := h
    have lu : us.length < 64 := by rw [hu.1]; exact lp
    refine ⟨_, (pss_cons (ps_set (i := 3) sc_new_form.nd rfl (by first | exact .inl rfl | exact .inr rfl) pe_dnewK)
      (pss_cons (ps_for PassesOwn.never rfl (pi_listK (K := K) (pv 1)) (castPG (K := K) (n := 2) (pg_tup rfl (pgs_cons (pg_name (i := 4) sc_new_form.nd rfl (by first | exact .inl rfl | exact .inr rfl)) (pgs_cons (pg_name (i := 5) sc_new_form.nd rfl (by first | exact .inl rfl | exact .inr rfl)) pgs_nil)))) (pss_one (ps_asg (pe_op op_mod (pe_op op_add (pe_dget2 (hu_of hr) (pv 3) (pv 4) pe_int ⟨by rfl, by rfl, by rfl, by rfl⟩) (pv 5)) (pv 2)) (pg_sub (pv 3) (pv 4) (set_dict (hu_of hr))))))
      (pss_one (ps_ret (pe_tup (pa_cons (pe_op op_mod (pv 0) (pv 2)) (pa_cons (pe_callTy (cr_tupOfK (K := K)) (by rfl) T.m_tuple (by decide +kernel) (pa_cons (pe_lc rfl sc_new_form.nd (pi_listK (K := K) (pe_callB (cr_sortedD rfl) (by rfl) T.m_sorted (by decide +kernel) (pa_cons (pv 3) pa_nil))) (blkOk_by (own := [("place", 4)]) (N := ["n", "pairs", "p", "worths", "place", "k"]) (sc := (defScope s_new_form)) (by decide +kernel)) (fun _ _ _ _ _ => (pg_name (i := 4) sc_new_form.nd rfl (by first | exact .inl rfl | exact .inr rfl))) (fun _ _ _ _ _ => (pts_one (pt_cmpR op_ne (pe_dget (hu_of hr) (pv 3) (pv 4) (fun _ _ => rfl)) pe_int (nomark _)))) (fun _ _ _ _ _ => (pe_tup (pa_cons (pv 4) (pa_cons (pe_dget (hu_of hr) (pv 3) (pv 4) (fun _ _ => rfl)) pa_nil))))) pa_nil)) pa_nil))))))), ?_⟩
    walk_at "st"
    intro d hd
    walk_at "st"
    refine lp_by (walk_list (a := l) (xs := us)) (fun i σ' H' => ∃ x4 x5, σ' = [some (.int n), some (.ref l), some (.int p), some (.ref d), x4, x5] ∧ Same H H' ∧
      ∃ D, H' d = some (.dK (encT D)) ∧ (D.map (·.1)).Nodup ∧ D.length ≤ i ∧ ∀ z, (getT D z).getD 0 = coef (ps.take i) z % p) ⟨none, none, rfl, Same.upd_new hd, [], upd_same, List.nodup_nil, Nat.le_refl _, fun z => by simp [getT, coef]⟩ (fun i σ' H' _ g => ?_) (fun i x σ' H2 H3 hi g y => ?_) (fun σ' H2 g => ?_)
    · obtain ⟨_, _, _, sm, _⟩ := g
      exact SqL.of (sm _ _ hl)
    · obtain ⟨x4, x5, rfl, sm, D, eD, nd, lD, hD⟩ := g
      obtain ⟨rfl, ex⟩ := y
      obtain ⟨⟨z, k⟩, ez, t, rfl, ht⟩ := hu.2 i x ex
      have ht2 := sm _ _ ht
      have lD2 : D.length ≤ 1000 := by omega
      walk_at "st"
      refine ⟨_, _, rfl, fun b o e => hl_set (ne_of_none e hd) (sm _ _ e), _, upd_same, putT_nodup nd _ _, Nat.le_trans (putT_len _ _ _) (by omega), fun y => ?_⟩
      rw [getT_put, List.take_succ, ez]
      show _ = coef (ps.take i ++ [(z, k)]) y % p
      rw [coef_app, coef_cons, coef_nil, Int.add_zero]
      by_cases c : y = z
      · subst c
        rw [if_pos rfl, if_pos rfl, Option.getD_some, hD y, Int.emod_add_emod]
      · rw [if_neg c, if_neg (fun e => c e.symm), Int.add_zero]
        exact hD y
    · obtain ⟨x4, x5, rfl, sm, D, eD, nd, lD, hD⟩ := g
      rw [List.take_of_length_le (by rw [hu.1]; exact Nat.le_refl _)] at hD
      walk_at "st"
      refine r_sortD eD (by omega) fun ys p0 pm so hp0 => ?_
      have sD : Same H2 (upd H2 p0 (.lst (ys.map V.str))) := Same.upd_new hp0
      have nys : ys.Nodup := pm.symm.nodup nd
      have ri := sortedS_rise so nys
      have lys : ys.length < 64 := by rw [pm.length_eq, List.length_map]; omega
      have ed := sD _ _ eD
      have ep : upd H2 p0 (.lst (ys.map V.str)) p0 = some (.lst (ys.map V.str)) := upd_same
      have S0 := sm.trans sD
      generalize upd H2 p0 (.lst (ys.map V.str)) = H3 at *
      walk_at "st"
      intro Dl hDl
      refine lc_by (walk_list (a := p0) (xs := ys.map V.str)) (fun i H' => Same H3 H' ∧ ∃ us ts, H' Dl = some (.lst us) ∧ Trs H' us ts ∧ (ts.map (·.1)).Sublist (ys.take i) ∧ (∀ x ∈ ts, getT D x.1 = some x.2 ∧ x.2 ≠ 0) ∧ ∀ (j : Nat) z k, j < i → ys[j]? = some z → getT D z = some k → k ≠ 0 → (z, k) ∈ ts)
        ⟨Same.upd_new hDl, [], [], upd_same, Trs.nil, List.Sublist.refl _, by simp, fun j z k g => absurd g (Nat.not_lt_zero j)⟩ (fun i H' _ g => SqL.of (g.1 _ _ ep)) (fun i x H4 H5 hi g y => ?_) (fun H4 g => ?_)
      · obtain ⟨s4, us, ts, et, ht, sb, h1, h2⟩ := g
        obtain ⟨rfl, ex⟩ := y
        obtain ⟨z, ez, rfl⟩ := getElem?_map_str ex
        have mz : z ∈ D.map (·.1) := pm.mem_iff.mp (List.mem_of_getElem? ez)
        obtain ⟨⟨z', k⟩, mk, rfl⟩ := List.mem_map.mp mz
        have gk := getT_in nd mk
        have ed4 := s4 _ _ ed
        have lts : ts.length ≤ 64 := by
          have := sb.length_le
          rw [List.length_map, List.length_take] at this
          omega
        have sb' : (ts.map (·.1)).Sublist (ys.take (i + 1)) := sb.trans (by rw [List.take_succ]; exact List.sublist_append_left _ _)
        refine ⟨rfl, ?_⟩
        walk_at "st"
        have old : ∀ (j : Nat) z'' k'', j < i + 1 → ys[j]? = some z'' → getT D z'' = some k'' → k'' ≠ 0 → (z'', k'') ∈ ts ∨ (z'', k'') = (z', k) := fun j z'' k'' lt e1 e2 e3 => by
          rcases Nat.lt_succ_iff_lt_or_eq.mp lt with g | g
          · exact .inl (h2 j _ _ g e1 e2 e3)
          · rw [g, ez] at e1
            cases e1
            rw [gk] at e2
            cases e2
            exact .inr rfl
        refine r_iteB (fun h => ?_) (fun h => ?_)
        · have k0 : k ≠ 0 := by simpa using h
          walk_at "st"
          intro t ht8
          have ht4 := hl_new et ht8 (u := .tup [V.str z', V.int k])
          refine ⟨us, ht4, by rw [ht.1]; exact Nat.lt_of_le_of_lt lts (by decide), fun b o e => hl_set (ne_of_none e hDl) (hl_new (s4 _ _ e) ht8), us ++ [.ref t], ts ++ [(z', k)], upd_same, ?_, ?_, fun x m => ?_, fun j z'' k'' lt e1 e2 e3 => ?_⟩
          · exact ((ht.to (Tups.same (Same.upd_new ht8))).append (Trs.one ⟨t, rfl, upd_same⟩)).to (Tups.lst ht4)
          · rw [List.map_append, List.take_succ, ez]
            exact sb.append (List.Sublist.refl _)
          · rcases List.mem_append.mp m with m | m
            · exact h1 x m
            · rw [List.mem_singleton.mp m]; exact ⟨gk, k0⟩
          · rcases old j z'' k'' lt e1 e2 e3 with g | g
            · exact List.mem_append_left _ g
            · rw [g]; exact List.mem_append_right _ (List.mem_singleton.mpr rfl)
        · have k0 : k = 0 := by simpa using h
          refine ⟨s4, us, ts, et, ht, sb', h1, fun j z'' k'' lt e1 e2 e3 => ?_⟩
          rcases old j z'' k'' lt e1 e2 e3 with g | g
          · exact g
          · cases g; exact absurd k0 e3
      · obtain ⟨s4, us, ts, et, ht, sb, h1, h2⟩ := g
        rw [List.take_of_length_le (by rw [List.length_map]; exact Nat.le_refl _)] at sb
        walk_at "st"
        intro b hb
        walk_at "st"
        intro a ha
        have S5 : Same H4 (upd (upd H4 b (.tup us)) a (.tup [V.int (n % p), V.ref b])) := (Same.upd_new hb).trans (Same.upd_new ha)
        refine q a ts _ ((S0.trans s4).trans S5) ⟨a, b, us, rfl, upd_same, hl_new upd_same ha, ht.to (Tups.same S5)⟩ ⟨ri.sublist sb, fun z k => ⟨fun m => ?_, fun m => ?_⟩⟩
        · have e := h1 _ m
          have e2 := hD z
          rw [e.1] at e2
          exact ⟨e2, e.2⟩
        · obtain ⟨e, ne⟩ := m
          have e2 := hD z
          cases g : getT D z with
          | none => rw [g] at e2; exact absurd (e.trans e2.symm) ne
          | some k' =>
            rw [g] at e2
            obtain rfl : k' = k := e2.trans e.symm
            have mz : z ∈ D.map (·.1) := by
              by_cases c : z ∈ D.map (·.1)
              · exact c
              · rw [getT_out c] at g; cases g
            obtain ⟨j, ej⟩ := List.getElem?_of_mem (pm.mem_iff.mpr mz)
            exact h2 j z k' (by rw [List.length_map]; exact (List.getElem?_eq_some_iff.mp ej).1) ej g ne
end
local macro_rules | `(tactic| walk_at "ssz") => `(tactic| first | decide | exact str_small (by assumption) | (have : (1000000 : Nat) ≤ sizeLine := (by decide); omega))
local macro_rules | `(tactic| walk_at "st1") => `(tactic| first
  | with_reducible refine' r_nt ?_ | with_reducible refine' r_nf ?_
  | ((with_reducible refine r_lenS ?e1 ?_); (case e1 => walk_at "ssz"))
  | with_reducible refine r_inS ?_
  | with_reducible refine r_ninS ?_
  | ((with_reducible refine r_addS ?e1 ?_); (case e1 => walk_at "ssz"))
  | ((with_reducible refine' r_ixS ?e1 ?e2 ?_); (case e1 => walk_at "ssz"); (case e2 => first | assumption | rfl))
  | with_reducible refine r_istr ?_
  | with_reducible refine r_is ?_
  | with_reducible refine r_un ?_
  | with_reducible refine r_u ?_)
local macro_rules | `(tactic| walk_at "st1") => `(tactic| first
  | with_reducible refine r_par ?_
  | with_reducible refine r_parx ?_
  | ((with_reducible refine' r_gtup ?e1 ?e2 ?_); (case e1 => walk_at "sq"); (case e2 => rfl))
  | with_reducible refine r_gcons ?_
  | with_reducible refine r_gnil ?_
  | with_reducible refine r_disp ?_
  | with_reducible refine r_tp1 ?_
  | with_reducible refine r_tp0 ?_
  | ((with_reducible refine' r_dp1 ?e1 ?_); (case e1 => walk_at "hl"))
  | with_reducible refine r_dnewK ?_
  | with_reducible refine r_dget2 ?_
  | ((with_reducible refine' r_dg2 ?e1 ?_); (case e1 => walk_at "hl"))
  | ((with_reducible refine' r_dg3 ?e1 ?_); (case e1 => walk_at "hl"))
  | with_reducible refine r_dget ?_
  | ((with_reducible refine' r_dgv ?e1 ?e2 ?_); (case e1 => walk_at "hl"); (case e2 => assumption))
  | ((with_reducible refine' r_setD ?e1 ?e2 ?_); (case e1 => walk_at "hl"); (case e2 => omega)))
def rLtS : R2 := fun x y H Q => ∃ i j, x = .str i ∧ y = .str j ∧ Q (.bl (decide (i.cps.toList < j.cps.toList))) H
theorem op_ltS {X : Cx} : OpR X (compareOp .Lt) rLtS := op_lt_str
section
variable {K : PySem.W.Frag} {σ : L2.St} {H : Hp} {Q : VK}
theorem walk_zipL {a b : Addr} {xs ys : List V} {n : Nat} (hn : n = min xs.length ys.length) : Walk (Itz K a b) n (fun H => SqL K H a xs ∧ SqL K H b ys) (YPair (fun i => xs[i]?) (fun i => ys[i]?)) where
  goes := fun i H hi h => ⟨xs, ys, xs[i]'(by omega), ys[i]'(by omega), h.1, h.2, List.getElem?_eq_getElem (by omega), List.getElem?_eq_getElem (by omega)⟩
  stops := fun H h => ⟨xs, ys, h.1, h.2, by omega⟩
  yields := fun i H x H' _ h y => by
    obtain ⟨T, x1, y1, e1, e2, e3, e4, e5⟩ := y
    exact ⟨T, x1, y1, e1, e2, e3, e4 xs h.1, e5 ys h.2⟩
theorem r_izl {R : It → Hp → Prop} {a b : Addr} {xs ys : List V} (e1 : SqL K H a xs) (e2 : SqL K H b ys) (h : R (Itz K a b) H) : IzR K R [.ref a, .ref b] H := ⟨a, b, xs, ys, rfl, .inl ⟨e1, e2, h⟩⟩
theorem r_ltS {i j : Str} (q : Q (.bl (decide (i.cps.toList < j.cps.toList))) H) : rLtS (.str i) (.str j) H Q := ⟨i, j, rfl, rfl, q⟩
end
local macro_rules | `(tactic| walk_at "st1") => `(tactic| first
  | ((with_reducible refine' r_izl ?e1 ?e2 ?_); (case e1 => walk_at "sq"); (case e2 => walk_at "sq"))
  | with_reducible refine r_ltS ?_)
def tupleO (lo hi : Int) : O → Bool
  | .tup os => decide (lo ≤ (os.length : Int)) && decide ((os.length : Int) ≤ hi)
  | _ => false
def nz : O → Bool
  | .int k => !decide (k = 0)
  | _ => true
def termO (p : Int) : O → Bool
  | .tup [a, b] => placeO a && (numO p b && nz b)
  | _ => false
def keyO : O → Str
  | .tup (.str z :: _) => z
  | _ => ""
def riseL (zs : List Str) : Bool := (List.zipWith (fun x y => decide (cs x < cs y)) zs (zs.drop 1)).all id
def formO (p : Int) : O → Bool
  | .tup [n, .tup ts] => numO p n && (ts.all (termO p) && riseL (ts.map keyO))
  | _ => false
def smallT : O → Prop
  | .tup [a, _] => smallS a
  | _ => True
def smallF : O → Prop
  | .tup [_, .tup ts] => ts.length ≤ 1000 ∧ ∀ t ∈ ts, smallT t
  | _ => True
theorem tuple2 {o : O} (h : tupleO 2 2 o = true) : ∃ a b, o = .tup [a, b] := by
  cases o with
  | tup os =>
    simp [tupleO] at h
    match os, h with
    | [a, b], _ => exact ⟨a, b, rfl⟩
    | [], h => simp at h
    | [_], h => simp at h
    | _ :: _ :: _ :: _, h => simp at h; omega
  | _ => simp [tupleO] at h
theorem term_not {p : Int} {o : O} (h : tupleO 2 2 o = false) : termO p o = false := by
  cases o with
  | tup os =>
    match os with
    | [a, b] => simp [tupleO] at h
    | [] => rfl
    | [_] => rfl
    | _ :: _ :: _ :: _ => rfl
  | _ => rfl
theorem form_not {p : Int} {o : O} (h : tupleO 2 2 o = false) : formO p o = false := by
  cases o with
  | tup os =>
    match os with
    | [a, b] => simp [tupleO] at h
    | [] => rfl
    | [_] => rfl
    | _ :: _ :: _ :: _ => simp [formO]
  | _ => rfl
theorem Rep.pair {S : List Addr} {H : Hp} {v : V} {a b : O} (r : Rep S H v (.tup [a, b])) : ∃ x va vb, v = .ref x ∧ H x = some (.tup [va, vb]) ∧ x ∉ S ∧ Rep S H va a ∧ Rep S H vb b := by
  obtain ⟨x, xs, rfl, h, n, t⟩ := r.tupInv
  cases t with
  | cons r1 t => cases t with
    | cons r2 t => cases t; exact ⟨x, _, _, rfl, h, n, r1, r2⟩
def sp_is_tuple (_ : PySem.W.Frag) : Sp := fun vs H Q _ => ∃ (S : List Addr) (v : V) (o : O) (lo hi : Int), vs = [v, .int lo, .int hi] ∧ Rep S H v o ∧ Q (.bl (tupleO lo hi o)) H
def sp_is_term (_ : PySem.W.Frag) : Sp := fun vs H Q _ => ∃ (S : List Addr) (v : V) (o : O) (p : Int), vs = [v, .int p] ∧ Rep S H v o ∧ smallT o ∧ ∀ H', Same H H' → Q (.bl (termO p o)) H'
def sp_do_rise (_ : PySem.W.Frag) : Sp := fun vs H Q _ => ∃ (l : Addr) (zs : List Str), vs = [.ref l] ∧ H l = some (.lst (zs.map V.str)) ∧ zs.length ≤ 1000 ∧ ∀ H', Same H H' → Q (.bl (riseL zs)) H'
def sp_is_form (_ : PySem.W.Frag) : Sp := fun vs H Q _ => ∃ (S : List Addr) (v : V) (o : O) (p : Int), vs = [v, .int p] ∧ Rep S H v o ∧ smallF o ∧ ∀ H', Same H H' → Q (.bl (formO p o)) H'
theorem cut_from1 (xs : List V) : cutV xs (some 1) none = xs.drop 1 := by
  cases xs with
  | nil => rfl
  | cons x xs =>
    unfold cutV
    simp [HT.sIx]
theorem bools_of : ∀ {ys : List V} {bs : List Bool}, ys.length = bs.length → (∀ (i : Nat) (y : V), ys[i]? = some y → ∃ b, bs[i]? = some b ∧ y = .bl b) → ys = bs.map V.bl
  | [], [], _, _ => rfl
  | [], _ :: _, h, _ => by simp at h
  | _ :: _, [], h, _ => by simp at h
  | y :: ys, b :: bs, h, k => by
    obtain ⟨b', e, rfl⟩ := k 0 y rfl
    obtain rfl : b = b' := Option.some.inj e
    rw [List.map_cons, ← bools_of (by simpa using h) fun i z e => k (i + 1) z (by simpa using e)]
section
variable {P : Program} {w : World} {K : PySem.W.Frag} {mg : Str → Option Value} {base : Heap}
theorem ok_is_tuple (T : Tx K mg)  {f : Addr} {fd : FuncData} (F : Here K mg "is_tuple" s_is_tuple ["thing", "least", "most"] f fd) : Cal P w K mg base "is_tuple" 1 ["thing", "least", "most"] (sp_is_tuple K) s_is_tuple f fd := by
  refine F.cal sc_is_tuple (fun vs H Q E h => ?_) (fun cdv A outer s H vs Q E hr h => ?_)
  · obtain ⟨S, v, o, lo, hi, rfl, _⟩ := h
    rfl
  · obtain ⟨S, v, o, lo, hi, rfl, r, q⟩ := h
    refine ⟨_, (pss_one (ps_ret (pe_and (pe_callB (cr_isiK (K := K)) (by rfl) T.m_isinstance (by decide +kernel) (pa_cons (pv 0) (pa_cons (pe_bltn (v := .ty "tuple") (by rfl) T.m_tuple (by decide +kernel) rfl) pa_nil))) (pe_one (pe_chain op_le op_le (pv 1) (pe_callB (cr_lenK (K := K)) (by rfl) T.m_len (by decide +kernel) (pa_cons (pv 0) pa_nil)) (pv 2)))))), ?_⟩
    cases r with
    | @tup a xs os ha na t =>
      have el := t.length
      walk_at "st"
      rw [el]
      refine r_ite (fun h => ?_) (fun h => ?_)
      · walk_at "st"
        have e : tupleO lo hi (.tup os) = decide ((os.length : Int) ≤ hi) := by
          show (decide _ && _) = _
          rw [decide_eq_true h]; rfl
        rw [e] at q
        exact q
      · have e : tupleO lo hi (.tup os) = false := by
          show (decide _ && _) = _
          rw [decide_eq_false h]; rfl
        rw [e] at q
        exact q
    | _ => (walk_at "st"; exact q)
theorem ok_is_term (T : Tx K mg) {f_is_tuple : Addr} {fd_is_tuple : FuncData} (C_is_tuple : Cal P w K mg base "is_tuple" 1 ["thing", "least", "most"] (sp_is_tuple K) s_is_tuple f_is_tuple fd_is_tuple) {f_is_place : Addr} {fd_is_place : FuncData} (C_is_place : Cal P w K mg base "is_place" 2 ["thing"] (sp_is_place K) s_is_place f_is_place fd_is_place) {f_is_number : Addr} {fd_is_number : FuncData} (C_is_number : Cal P w K mg base "is_number" 2 ["thing", "p"] (sp_is_number K) s_is_number f_is_number fd_is_number) {f : Addr} {fd : FuncData} (F : Here K mg "is_term" s_is_term ["thing", "p"] f fd) : Cal P w K mg base "is_term" 3 ["thing", "p"] (sp_is_term K) s_is_term f fd := by
  refine F.cal sc_is_term (fun vs H Q E h => ?_) (fun cdv A outer s H vs Q E hr h => ?_)
  · obtain ⟨S, v, o, p, rfl, _⟩ := h
    rfl
  · obtain ⟨S, v, o, p, rfl, r, sm0, q⟩ := h
    refine ⟨_, (pss_one (ps_ret (pe_and (pe_call C_is_tuple.ok (hr.mono (by decide)) (by rfl) C_is_tuple.at_ C_is_tuple.kp C_is_tuple.b .nil pass0 (pa_cons (pv 0) (pa_cons pe_int (pa_cons pe_int pa_nil)))) (pe_and (pe_call C_is_place.ok (hr.mono (by decide)) (by rfl) C_is_place.at_ C_is_place.kp C_is_place.b .nil pass0 (pa_cons (pe_ix (ix_tupK (K := K)) (pv 0) pe_int (fun _ _ => rfl)) pa_nil)) (pe_and (pe_call C_is_number.ok (hr.mono (by decide)) (by rfl) C_is_number.at_ C_is_number.kp C_is_number.b .nil pass0 (pa_cons (pe_ix (ix_tupK (K := K)) (pv 0) pe_int (fun _ _ => rfl)) (pa_cons (pv 1) pa_nil))) (pe_one (pe_cmpR op_ne (pe_ix (ix_tupK (K := K)) (pv 0) pe_int (fun _ _ => rfl)) pe_int (nomark _)))))))), ?_⟩
    walk_at "st"
    refine ⟨S, v, o, 2, 2, rfl, r, ?_⟩
    cases h2 : tupleO 2 2 o with
    | false =>
      walk_at "st"
      have := q H (Same.refl _)
      rw [term_not h2] at this
      exact this
    | true =>
      obtain ⟨a, b, rfl⟩ := tuple2 h2
      obtain ⟨x, va, vb, rfl, hx, nx, ra, rb⟩ := r.pair
      have e0 : termO p (.tup [a, b]) = (placeO a && (numO p b && nz b)) := rfl
      walk_at "st"
      refine ⟨S, va, a, rfl, ra, sm0, fun H1 sm1 => ?_⟩
      have hx1 := sm1 _ _ hx
      cases h3 : placeO a with
      | false =>
        walk_at "st"
        have := q H1 sm1
        rw [e0, h3] at this
        exact this
      | true =>
        walk_at "st"
        refine ⟨S, vb, b, p, rfl, rb.to (Lft.same sm1), ?_⟩
        cases h4 : numO p b with
        | false =>
          walk_at "st"
          have := q H1 sm1
          rw [e0, h3, h4] at this
          exact this
        | true =>
          cases rb with
          | int k =>
            walk_at "st"
            have := q H1 sm1
            rw [e0, h3, h4] at this
            have e : (!decide (V.int k = V.int 0)) = nz (.int k) := by
              show _ = !decide (k = 0)
              congr 1
              exact decide_eq_decide.mpr ⟨fun h => by injection h, fun h => by rw [h]⟩
            rw [e]
            exact this
          | _ => simp [numO] at h4
theorem ok_do_rise (T : Tx K mg)  {f : Addr} {fd : FuncData} (F : Here K mg "do_rise" s_do_rise ["things"] f fd) : Cal P w K mg base "do_rise" 1 ["things"] (sp_do_rise K) s_do_rise f fd := by
  refine F.cal sc_do_rise (fun vs H Q E h => ?_) (fun cdv A outer s H vs Q E hr h => ?_)
  · obtain ⟨l, zs, rfl, _⟩ := h
    rfl
  · obtain ⟨l, zs, rfl, hl, lz, q⟩ := h
    refine ⟨_, (pss_one (ps_ret (pe_callB (cr_allK (K := K) rfl) (by rfl) T.m_all (by decide +kernel) (pa_cons (pe_lc rfl sc_do_rise.nd (castPI (K := K) (wi := fun K => iZipA K _) (pi_zipA (by rfl) T.m_zip (pa_cons (pv 0) (pa_cons (pe_slice (sl_listK (K := K)) (pv 0) (po_some pe_int) po_none) pa_nil)))) (blkOk_by (own := [("one", 1), ("other", 2)]) (N := ["things", "one", "other"]) (sc := (defScope s_do_rise)) (by decide +kernel)) (fun _ _ _ _ _ => (castPG (K := K) (n := 2) (pg_tup rfl (pgs_cons (pg_name (i := 1) sc_do_rise.nd rfl (by first | exact .inl rfl | exact .inr rfl)) (pgs_cons (pg_name (i := 2) sc_do_rise.nd rfl (by first | exact .inl rfl | exact .inr rfl)) pgs_nil))))) (fun _ _ _ _ _ => pts_nil) (fun _ _ _ _ _ => (pe_cmpR op_ltS (pv 1) (pv 2) (nomark _)))) pa_nil)))), ?_⟩
    walk_at "st"
    intro p hp
    rw [cut_from1, ← List.map_drop]
    have hl2 := hl_new hl hp (u := .lst ((zs.drop 1).map V.str))
    have hp2 : upd H p (.lst ((zs.drop 1).map V.str)) p = some (.lst ((zs.drop 1).map V.str)) := upd_same
    have S1 : Same H (upd H p (.lst ((zs.drop 1).map V.str))) := Same.upd_new hp
    generalize upd H p (.lst ((zs.drop 1).map V.str)) = H1 at *
    walk_at "st"
    intro D hD
    refine lc_map (walk_zipL (xs := zs.map V.str) (ys := (zs.drop 1).map V.str) rfl) (by rw [List.length_map]; omega) hD (fun i y _ => ∃ b, (List.zipWith (fun x y => decide (cs x < cs y)) zs (zs.drop 1))[i]? = some b ∧ y = .bl b) (fun _ _ _ _ h _ => h) (fun _ _ _ _ _ h _ => h) (fun H' k => ⟨SqL.of (k _ _ hl2), SqL.of (k _ _ hp2)⟩) (fun i H1 x H2 y => ?_)
      (fun i x H1 H2 Y No hi sm y hY => ?_) (fun ys H' el sm eD hys => ?_)
    · obtain ⟨t, x1, y1, rfl, nt, rfl, _⟩ := y
      exact Same.upd_new nt
    · obtain ⟨t, x1, y1, rfl, nt, rfl, e1, e2⟩ := y
      obtain ⟨z1, ez1, rfl⟩ := getElem?_map_str e1
      obtain ⟨z2, ez2, rfl⟩ := getElem?_map_str e2
      refine ⟨t, _, rfl, .inl (.inl upd_same), rfl, _, _, rfl, _, _, rfl, rfl, rfl, ?_⟩
      walk_at "st"
      exact hY _ _ (Same.refl _) ⟨_, by rw [List.getElem?_zipWith, ez1, ez2]; rfl, rfl⟩
    · have e := bools_of (by rw [el, List.length_zipWith, List.length_map, List.length_map]) hys
      rw [e] at eD
      walk_at "st"
      exact q _ (S1.trans sm)
theorem ok_is_form (T : Tx K mg) {f_is_tuple : Addr} {fd_is_tuple : FuncData} (C_is_tuple : Cal P w K mg base "is_tuple" 1 ["thing", "least", "most"] (sp_is_tuple K) s_is_tuple f_is_tuple fd_is_tuple) {f_do_rise : Addr} {fd_do_rise : FuncData} (C_do_rise : Cal P w K mg base "do_rise" 1 ["things"] (sp_do_rise K) s_do_rise f_do_rise fd_do_rise) {f_is_number : Addr} {fd_is_number : FuncData} (C_is_number : Cal P w K mg base "is_number" 2 ["thing", "p"] (sp_is_number K) s_is_number f_is_number fd_is_number) {f_is_term : Addr} {fd_is_term : FuncData} (C_is_term : Cal P w K mg base "is_term" 3 ["thing", "p"] (sp_is_term K) s_is_term f_is_term fd_is_term) {f : Addr} {fd : FuncData} (F : Here K mg "is_form" s_is_form ["thing", "p"] f fd) : Cal P w K mg base "is_form" 4 ["thing", "p"] (sp_is_form K) s_is_form f fd := by
  refine F.cal sc_is_form (fun vs H Q E h => ?_) (fun cdv A outer s H vs Q E hr h => ?_)
  · obtain ⟨S, v, o, p, rfl, _⟩ := h
    rfl
  · obtain ⟨S, v, o, p, rfl, r, sm0, q⟩ := h
    refine ⟨_, (pss_cons (ps_if (pt_not (pt_val (pe_call C_is_tuple.ok (hr.mono (by decide)) (by rfl) C_is_tuple.at_ C_is_tuple.kp C_is_tuple.b .nil pass0 (pa_cons (pv 0) (pa_cons pe_int (pa_cons pe_int pa_nil)))))) (pss_one (ps_ret pe_bl)) pss_nil)
      (pss_cons (ps_asg (pv 0) (castPG (K := K) (n := 2) (pg_tup rfl (pgs_cons (pg_name (i := 2) sc_is_form.nd rfl (by first | exact .inl rfl | exact .inr rfl)) (pgs_cons (pg_name (i := 3) sc_is_form.nd rfl (by first | exact .inl rfl | exact .inr rfl)) pgs_nil)))))
      (pss_cons (ps_if (PW.pt (pw_or (pt_not (pt_val (pe_call C_is_number.ok (hr.mono (by decide)) (by rfl) C_is_number.at_ C_is_number.kp C_is_number.b .nil pass0 (pa_cons (pv 2) (pa_cons (pv 1) pa_nil))))) (pw_or1 (pt_not (pt_val (pe_callB (cr_isiK (K := K)) (by rfl) T.m_isinstance (by decide +kernel) (pa_cons (pv 3) (pa_cons (pe_bltn (v := .ty "tuple") (by rfl) T.m_tuple (by decide +kernel) rfl) pa_nil)))))))) (pss_one (ps_ret pe_bl)) pss_nil)
      (pss_one (ps_ret (pe_and (pe_callB (cr_allK (K := K) rfl) (by rfl) T.m_all (by decide +kernel) (pa_cons (pe_lc rfl sc_is_form.nd (pi_tupK (K := K) (pv 3)) (blkOk_by (own := [("term", 4)]) (N := ["thing", "p", "n", "terms", "term", "place", "_"]) (sc := (defScope s_is_form)) (by decide +kernel)) (fun _ _ _ _ _ => (pg_name (i := 4) sc_is_form.nd rfl (by first | exact .inl rfl | exact .inr rfl))) (fun _ _ _ _ _ => pts_nil) (fun _ _ _ _ _ => (pe_call C_is_term.ok (hr.mono (by decide)) (by rfl) C_is_term.at_ C_is_term.kp C_is_term.b .nil pass0 (pa_cons (pv 4) (pa_cons (pv 1) pa_nil))))) pa_nil)) (pe_one (pe_call C_do_rise.ok (hr.mono (by decide)) (by rfl) C_do_rise.at_ C_do_rise.kp C_do_rise.b .nil pass0 (pa_cons (pe_lc rfl sc_is_form.nd (pi_tupK (K := K) (pv 3)) (blkOk_by (own := [("place", 5), ("_", 6)]) (N := ["thing", "p", "n", "terms", "term", "place", "_"]) (sc := (defScope s_is_form)) (by decide +kernel)) (fun _ _ _ _ _ => (castPG (K := K) (n := 2) (pg_tup rfl (pgs_cons (pg_name (i := 5) sc_is_form.nd rfl (by first | exact .inl rfl | exact .inr rfl)) (pgs_cons (pg_name (i := 6) sc_is_form.nd rfl (by first | exact .inl rfl | exact .inr rfl)) pgs_nil))))) (fun _ _ _ _ _ => pts_nil) (fun _ _ _ _ _ => (pv 5))) pa_nil))))))))), ?_⟩
    walk_at "st"
    walk_at "if"
    refine ⟨S, v, o, 2, 2, rfl, r, ?_⟩
    cases h2 : tupleO 2 2 o with
    | false =>
      walk_at "st"
      have := q H (Same.refl _)
      rw [form_not h2] at this
      exact this
    | true =>
      obtain ⟨n, t, rfl⟩ := tuple2 h2
      obtain ⟨x, vn, vt, rfl, hx, nx, rn, rt⟩ := r.pair
      walk_at "st"
      walk_at "if"
      refine ⟨S, vn, n, p, rfl, rn, ?_⟩
      cases h3 : numO p n with
      | false =>
        walk_at "st"
        have := q H (Same.refl _)
        have e : formO p (.tup [n, t]) = false := by
          cases t with
          | tup ts => show (numO p n && _) = false; rw [h3]; rfl
          | _ => rfl
        rw [e] at this
        exact this
      | true =>
        have no : (∀ ts, t ≠ .tup ts) → formO p (.tup [n, t]) = false := fun z => by
          cases t with
          | tup ts => exact absurd rfl (z ts)
          | _ => rfl
        cases rt with
        | @tup b us ts hb nb tt =>
          have lts : ts.length ≤ 1000 := sm0.1
          have el := tt.length
          have e0 : formO p (.tup [n, .tup ts]) = (ts.all (termO p) && riseL (ts.map keyO)) := by
            show (numO p n && _) = _
            rw [h3]; rfl
          walk_at "st"
          intro D hD
          refine lc_map (walk_tup (xs := us)) (by omega) hD (fun i y _ => ∃ b, (ts.map (termO p))[i]? = some b ∧ y = .bl b) (fun _ _ _ _ h _ => h) (fun _ _ _ _ _ h _ => h) (fun H' k => SqT.of (k _ _ hb)) (fun i H1 x H2 y => by rw [y.1]; exact Same.refl _)
            (fun i x H1 H2 Y No hi sm y hY => ?_) (fun ys H' ely sm eD hys => ?_)
          · obtain ⟨rfl, ex⟩ := y
            obtain ⟨o', eo, ro⟩ := tt.get ex
            refine ⟨rfl, ?_⟩
            walk_at "st"
            refine ⟨S, x, o', p, rfl, ro.to (Lft.same sm), sm0.2 o' (List.mem_of_getElem? eo), fun H3 sm3 => ?_⟩
            exact hY _ _ sm3 ⟨_, by rw [List.getElem?_map, eo]; rfl, rfl⟩
          · have e := bools_of (by rw [ely, el, List.length_map]) hys
            rw [e] at eD
            have hb2 := sm _ _ hb
            walk_at "st"
            have ea : ((ts.map (termO p)).all id) = ts.all (termO p) := by rw [List.all_map]; rfl
            rw [ea]
            cases h5 : ts.all (termO p) with
            | false =>
              walk_at "st"
              have := q H' sm
              rw [e0, h5] at this
              exact this
            | true =>
              have good : ∀ t ∈ ts, ∃ z k, t = .tup [.str z, .int k] := fun t m => by
                have g := List.all_eq_true.mp h5 t m
                cases t with
                | tup os =>
                  match os, g with
                  | [a, b], g =>
                    have g : (placeO a && (numO p b && nz b)) = true := g
                    simp only [Bool.and_eq_true] at g
                    cases a with
                    | str z =>
                      cases b with
                      | int k => exact ⟨z, k, rfl⟩
                      | _ => simp [numO] at g
                    | _ => simp [placeO] at g
                  | [], g => cases g
                  | [_], g => cases g
                  | _ :: _ :: _ :: _, g => cases g
                | _ => cases g
              walk_at "st"
              intro D2 hD2
              refine lc_map (walk_tup (xs := us)) (by omega) hD2 (fun i y _ => ∃ z, (ts.map keyO)[i]? = some z ∧ y = .str z) (fun _ _ _ _ h _ => h) (fun _ _ _ _ _ h _ => h) (fun H' k => SqT.of (k _ _ hb2)) (fun i H1 x H2 y => by rw [y.1]; exact Same.refl _)
                (fun i x H1 H2 Y No hi sm2 y hY => ?_) (fun ys2 H2 ely2 sm2 eD2 hys2 => ?_)
              · obtain ⟨rfl, ex⟩ := y
                obtain ⟨o', eo, ro⟩ := tt.get ex
                obtain ⟨z, k, rfl⟩ := good o' (List.mem_of_getElem? eo)
                obtain ⟨y2, vz, vk, rfl, hy2, _, rz, rk⟩ := ro.pair
                cases rz
                cases rk
                have hy3 := sm2 _ _ (sm _ _ hy2)
                refine ⟨y2, _, rfl, SqT.of hy3, rfl, ?_⟩
                walk_at "st"
                refine ⟨rfl, ?_⟩
                walk_at "st"
                exact hY _ _ (Same.refl _) ⟨z, by rw [List.getElem?_map, eo]; rfl, rfl⟩
              · have e2 : ys2 = (ts.map keyO).map V.str := by
                  apply List.ext_getElem?
                  intro i
                  cases e : ys2[i]? with
                  | none =>
                    rw [List.getElem?_eq_none_iff] at e
                    rw [List.getElem?_eq_none_iff.mpr (by rw [List.length_map, List.length_map]; omega)]
                  | some y =>
                    obtain ⟨z, h1, rfl⟩ := hys2 i y e
                    rw [List.getElem?_map, h1]; rfl
                subst e2
                walk_at "st"
                refine ⟨D2, ts.map keyO, rfl, eD2, by rw [List.length_map]; exact lts, fun H3 sm3 => ?_⟩
                have := q H3 ((sm.trans sm2).trans sm3)
                rw [e0, h5] at this
                exact this
        | _ =>
          (have := q H (Same.refl _)
           rw [no fun ts z => by cases z] at this
           walk_at "st"
           exact this)
end
local macro_rules | `(tactic| walk_at "ssz") => `(tactic| first | decide | exact str_small (by assumption) | (have : (1000000 : Nat) ≤ sizeLine := (by decide); omega))
local macro_rules | `(tactic| walk_at "st1") => `(tactic| first
  | with_reducible refine' r_nt ?_ | with_reducible refine' r_nf ?_
  | ((with_reducible refine r_lenS ?e1 ?_); (case e1 => walk_at "ssz"))
  | with_reducible refine r_inS ?_
  | with_reducible refine r_ninS ?_
  | ((with_reducible refine r_addS ?e1 ?_); (case e1 => walk_at "ssz"))
  | ((with_reducible refine' r_ixS ?e1 ?e2 ?_); (case e1 => walk_at "ssz"); (case e2 => first | assumption | rfl))
  | with_reducible refine r_istr ?_
  | with_reducible refine r_is ?_
  | with_reducible refine r_un ?_
  | with_reducible refine r_u ?_)
local macro_rules | `(tactic| walk_at "st1") => `(tactic| first
  | with_reducible refine r_par ?_
  | with_reducible refine r_parx ?_
  | ((with_reducible refine' r_gtup ?e1 ?e2 ?_); (case e1 => walk_at "sq"); (case e2 => rfl))
  | with_reducible refine r_gcons ?_
  | with_reducible refine r_gnil ?_
  | with_reducible refine r_disp ?_
  | with_reducible refine r_tp1 ?_
  | with_reducible refine r_tp0 ?_
  | ((with_reducible refine' r_dp1 ?e1 ?_); (case e1 => walk_at "hl"))
  | with_reducible refine r_dnewK ?_
  | with_reducible refine r_dget2 ?_
  | ((with_reducible refine' r_dg2 ?e1 ?_); (case e1 => walk_at "hl"))
  | ((with_reducible refine' r_dg3 ?e1 ?_); (case e1 => walk_at "hl"))
  | with_reducible refine r_dget ?_
  | ((with_reducible refine' r_dgv ?e1 ?e2 ?_); (case e1 => walk_at "hl"); (case e2 => assumption))
  | ((with_reducible refine' r_setD ?e1 ?e2 ?_); (case e1 => walk_at "hl"); (case e2 => omega)))
def sp_places_in (_ : PySem.W.Frag) : Sp := fun vs H Q _ => ∃ (a : Addr) (n : Int) (ts : List Tr), vs = [.ref a] ∧ FrmV H (.ref a) n ts ∧ ts.length < 64 ∧ ∀ (b : Addr) (H' : Hp), Same H H' → H' b = some (.tup ((ts.map fun x : Tr => x.1).map V.str)) → Q (.ref b) H'
def sp_law_is_place (_ : PySem.W.Frag) : Sp := fun vs H Q _ => ∃ (S : List Addr) (v : V) (o : O), vs = [v] ∧ Rep S H v o ∧ smallS o ∧ ∀ H', Same H H' → Q (.bl (placeO o)) H'
theorem two_signs : (Str.ofString "abcdefghijklmnopqrstuvwxyz" ++ Str.ofString "0123456789.") = Str.ofString "abcdefghijklmnopqrstuvwxyz0123456789." := by decide
section
variable {P : Program} {w : World} {K : PySem.W.Frag} {mg : Str → Option Value} {base : Heap}
theorem ok_places_in (T : Tx K mg)  {f : Addr} {fd : FuncData} (F : Here K mg "places_in" s_places_in ["form"] f fd) : Cal P w K mg base "places_in" 1 ["form"] (sp_places_in K) s_places_in f fd := by
  refine F.cal sc_places_in (fun vs H Q E h => ?_) (fun cdv A outer s H vs Q E hr h => ?_)
  · obtain ⟨a, n, ts, rfl, _⟩ := h
    rfl
  · obtain ⟨a, n, ts, rfl, ⟨a, b, us, e1, ha, hb, hts⟩, lts, q⟩ := h
    cases e1
    have lus : us.length < 64 := by rw [hts.1]; exact lts
    refine ⟨_, (pss_one (ps_ret (pe_callTy (cr_tupOfK (K := K)) (by rfl) T.m_tuple (by decide +kernel) (pa_cons (pe_lc rfl sc_places_in.nd (pi_tupK (K := K) (pe_ix (ix_tupK (K := K)) (pv 0) pe_int (fun _ _ => rfl))) (blkOk_by (own := [("place", 1), ("_", 2)]) (N := ["form", "place", "_"]) (sc := (defScope s_places_in)) (by decide +kernel)) (fun _ _ _ _ _ => (castPG (K := K) (n := 2) (pg_tup rfl (pgs_cons (pg_name (i := 1) sc_places_in.nd rfl (by first | exact .inl rfl | exact .inr rfl)) (pgs_cons (pg_name (i := 2) sc_places_in.nd rfl (by first | exact .inl rfl | exact .inr rfl)) pgs_nil))))) (fun _ _ _ _ _ => pts_nil) (fun _ _ _ _ _ => (pv 1))) pa_nil)))), ?_⟩
    walk_at "st"
    intro D2 hD2
    refine lc_map (walk_tup (xs := us)) (by omega) hD2 (fun i y _ => ∃ x, ts[i]? = some x ∧ y = .str x.1) (fun _ _ _ _ h _ => h) (fun _ _ _ _ _ h _ => h) (fun H' k => SqT.of (k _ _ hb)) (fun i H1 x H2 y => by rw [y.1]; exact Same.refl _)
      (fun i x H1 H2 Y No hi sm2 y hY => ?_) (fun ys2 H2 el2 sm2 eD2 hys2 => ?_)
    · obtain ⟨rfl, ex⟩ := y
      obtain ⟨⟨z, k⟩, ez, t, rfl, ht⟩ := hts.2 i x ex
      have ht2 := sm2 _ _ ht
      refine ⟨t, _, rfl, SqT.of ht2, rfl, ?_⟩
      walk_at "st"
      refine ⟨rfl, ?_⟩
      walk_at "st"
      exact hY _ _ (Same.refl _) ⟨_, ez, rfl⟩
    · have e2 : ys2 = (ts.map fun x : Tr => x.1).map V.str := by
        apply List.ext_getElem?
        intro i
        cases e : ys2[i]? with
        | none =>
          rw [List.getElem?_eq_none_iff] at e
          rw [List.getElem?_eq_none_iff.mpr (by rw [List.length_map, List.length_map]; rw [el2, hts.1] at e; exact e)]
        | some y =>
          obtain ⟨x, h1, rfl⟩ := hys2 i y e
          rw [List.getElem?_map, List.getElem?_map, h1]; rfl
      subst e2
      walk_at "st"
      intro c hc
      exact q c _ (sm2.trans (Same.upd_new hc)) upd_same
theorem ok_law_is_place (T : Tx K mg)  {f : Addr} {fd : FuncData} (F : Here K mg "_law_is_place" s_law_is_place ["what"] f fd) : Cal P w K mg base "_law_is_place" 1 ["what"] (sp_law_is_place K) s_law_is_place f fd := by
  refine F.cal sc_law_is_place (fun vs H Q E h => ?_) (fun cdv A outer s H vs Q E hr h => ?_)
  · obtain ⟨S, v, o, rfl, _⟩ := h
    rfl
  · obtain ⟨S, v, o, rfl, r, sm0, q⟩ := h
    refine ⟨_, (pss_cons (ps_set (i := 1) sc_law_is_place.nd rfl (by first | exact .inl rfl | exact .inr rfl) pe_str)
      (pss_cons (ps_if (PW.pt (pw_or (pt_not (pt_val (pe_callB (cr_isiK (K := K)) (by rfl) T.m_isinstance (by decide +kernel) (pa_cons (pv 0) (pa_cons (pe_bltn (v := .ty "str") (by rfl) T.m_str (by decide +kernel) rfl) pa_nil))))) (pw_or (pt_not (pt_chain op_le op_le pe_int (pe_callB cr_lenS (by rfl) T.m_len (by decide +kernel) (pa_cons (pv 0) pa_nil)) pe_int)) (pw_or1 (pt_cmpR op_ninS (pe_ix ix_str (pv 0) pe_int (fun _ _ => rfl)) (pv 1) (by rfl)))))) (pss_one (ps_ret pe_bl)) pss_nil)
      (pss_one (ps_ret (pe_cmpR (op_eqNilK (K := K) (hu_of64 hr)) (pe_lc rfl sc_law_is_place.nd (pi_str (pv 0)) (blkOk_by (own := [("sign", 2)]) (N := ["what", "letters", "sign"]) (sc := (defScope s_law_is_place)) (by decide +kernel)) (fun _ _ _ _ _ => (pg_name (i := 2) sc_law_is_place.nd rfl (by first | exact .inl rfl | exact .inr rfl))) (fun _ _ _ _ _ => (pts_one (pt_cmpR op_ninS (pv 2) (pe_op op_addS (pv 1) pe_str) (by rfl)))) (fun _ _ _ _ _ => (pv 2))) (pe_lst pa_nil) (nomark _)))))), ?_⟩
    cases r with
    | str x =>
      have hx : x.length ≤ 1000 := sm0
      have hx2 : x.cps.size ≤ 1000 := hx
      have no : placeO (.str x) = false → Q (.bl false) H := fun e => by
        have := q H (Same.refl _)
        rw [e] at this
        exact this
      have e0 : placeO (.str x) = (decide (1 ≤ x.length) && (decide (x.length ≤ 40) && (firstIn x "abcdefghijklmnopqrstuvwxyz" && onlyIn x "abcdefghijklmnopqrstuvwxyz0123456789."))) := rfl
      walk_at "st"
      walk_at "if"
      refine r_ite (fun h1 => ?_) (fun h1 => ?_)
      · walk_at "st"
        by_cases h2 : (x.length : Int) ≤ 40
        · rw [decide_eq_true h2]
          have g1 : 1 ≤ x.length := by omega
          have g2 : x.length ≤ 40 := by omega
          obtain ⟨c, ec, hc⟩ := first_at g1
          walk_at "st"
          cases h3 : decide (c ∈ (Str.ofString "abcdefghijklmnopqrstuvwxyz").cps.toList) with
          | false =>
            walk_at "st"
            refine no ?_
            have e1 : firstIn x "abcdefghijklmnopqrstuvwxyz" = false := by rw [hc]; exact h3
            rw [e0, e1]; simp
          | true =>
            walk_at "st"
            intro D hD
            refine lc_filt (walk_str (z := x)) (by omega) hD (fun i => !decide ((cs x).getD i 0 ∈ cs "abcdefghijklmnopqrstuvwxyz0123456789.")) (fun _ _ => trivial) (fun i H1 x H2 y => by rw [y.1]; exact Same.refl _)
              (fun i x' H1 H2 Y No hi sm y hY hN => ?_) (fun ys H5 ee el sm eD => ?_)
            · obtain ⟨rfl, c', ec', rfl⟩ := y
              have e3 : (cs x).getD i 0 = c' := by
                have : (cs x)[i]? = some c' := by unfold cs; rw [Array.getElem?_toList]; exact ec'
                simp [List.getD, this]
              rw [e3] at hY hN
              refine ⟨rfl, ?_⟩
              walk_at "st"
              rw [two_signs]
              cases hd : decide (c' ∈ cs "abcdefghijklmnopqrstuvwxyz0123456789.") with
              | true =>
                rw [hd] at hN
                have hd : decide (c' ∈ (Str.ofString "abcdefghijklmnopqrstuvwxyz0123456789.").cps.toList) = true := hd
                rw [hd]
                walk_at "st"
                exact hN rfl _ (Same.refl _)
              | false =>
                rw [hd] at hY
                have hd : decide (c' ∈ (Str.ofString "abcdefghijklmnopqrstuvwxyz0123456789.").cps.toList) = false := hd
                rw [hd]
                walk_at "st"
                exact hY rfl _ _ (Same.refl _)
            · walk_at "st"
              intro p hp
              walk_at "st"
              have := q (upd H5 p (.lst [])) (by walk_at "sm")
              have e : placeO (.str x) = ys.isEmpty := by
                have e1 : firstIn x "abcdefghijklmnopqrstuvwxyz" = true := by rw [hc]; exact h3
                rw [e0, e1, decide_eq_true g1, decide_eq_true g2, ee]
                have h7 : x.cps.size = (cs x).length := (cs_len x).symm
                rw [h7]
                have h8 := range_all (fun c => decide (c ∈ cs "abcdefghijklmnopqrstuvwxyz0123456789.")) 0 (cs x)
                show onlyIn x _ = _
                unfold onlyIn
                rw [← h8]
                simp
              rw [e] at this
              exact this
        · rw [decide_eq_false h2]
          walk_at "st"
          refine no ?_
          rw [e0, decide_eq_false (show ¬ x.length ≤ 40 by omega)]; simp
      · walk_at "st"
        refine no ?_
        rw [e0, decide_eq_false (show ¬ 1 ≤ x.length by omega)]; rfl
    | _ => (walk_at "st"; walk_at "if"; exact q H (Same.refl _))
end
/-! ### repr of a list of data, where nothing is being shown -/
def rRepr (K : PySem.W.Frag) : List V → Hp → VK → Prop := fun xs H Q => ∃ (a : Addr) (d : PyData), xs = [.ref a] ∧ Dp K H (.ref a) d ∧ d.showable = true ∧ d.hasDict = false ∧ d.depth ≤ 40 ∧ d.shown.length ≤ sizeLine ∧ Q (.str d.shown) H
theorem cr_repr {X : Cx} (hg : X.A.guards = some []) (hu : X.A.units + 64 < cLine) : CallR X (.builtin "repr") (rRepr X.K) := by
  intro pins s σ H xs us Q I r h
  obtain ⟨a, d, rfl, hd, sh, nd, dep, sz, q⟩ := h
  rw [Vals.ref1 r]
  obtain ⟨as, rr⟩ := Dp.reads I d _ _ hd (show L2.RelV (.ref a) (Value.ref a) from rfl)
  exact repr_of_reads' rr sh (fun z => by rw [nd] at z; cases z) hg (by omega) (fun _ _ e => e) (fun h' u tk kp => ⟨.str _, H, I.kept kp, ⟨_, rfl⟩, q⟩) sz
theorem cr_reprK {X : Cx} {K : PySem.W.Frag} (hg : X.A.guards = some []) (hu : X.A.units + 64 < cLine) (q : X.K = K := by rfl) : CallR X (.builtin "repr") (rRepr K) := q ▸ cr_repr hg hu
def show2 (b1 b2 : Bool) : Str := PyData.shown (.list [.bool b1, .bool b2])
def show4 (b1 b2 b3 b4 : Bool) : Str := PyData.shown (.list [.bool b1, .bool b2, .bool b3, .bool b4])
theorem show2_len (b1 b2 : Bool) : (show2 b1 b2).length ≤ sizeLine := by cases b1 <;> cases b2 <;> decide +kernel
theorem show4_len (b1 b2 b3 b4 : Bool) : (show4 b1 b2 b3 b4).length ≤ sizeLine := by cases b1 <;> cases b2 <;> cases b3 <;> cases b4 <;> decide +kernel
section
variable {K : PySem.W.Frag} {H : Hp} {Q : VK}
theorem r_repr2 {a : Addr} {b1 b2 : Bool} (h : SqL K H a [.bl b1, .bl b2]) (q : Q (.str (show2 b1 b2)) H) : rRepr K [.ref a] H Q :=
  ⟨a, _, rfl, .lst h (.cons (.bl b1) (.cons (.bl b2) .nil)), rfl, rfl, Nat.le_of_ble_eq_true rfl, show2_len b1 b2, q⟩
theorem r_repr4 {a : Addr} {b1 b2 b3 b4 : Bool} (h : SqL K H a [.bl b1, .bl b2, .bl b3, .bl b4]) (q : Q (.str (show4 b1 b2 b3 b4)) H) : rRepr K [.ref a] H Q :=
  ⟨a, _, rfl, .lst h (.cons (.bl b1) (.cons (.bl b2) (.cons (.bl b3) (.cons (.bl b4) .nil)))), rfl, rfl, Nat.le_of_ble_eq_true rfl, show4_len b1 b2 b3 b4, q⟩
end
/-! ### forms as data: compared, shown -/
theorem eqvAll_map {α : Type} [DecidableEq α] {g : α → PyData} (h : ∀ x y, PyData.eqv (g x) (g y) = decide (x = y)) : ∀ a b : List α, PyData.eqvAll (a.map g) (b.map g) = decide (a = b)
  | [], [] => by simp [PyData.eqvAll]
  | [], y :: b => by simp [PyData.eqvAll]
  | x :: a, [] => by simp [PyData.eqvAll]
  | x :: a, y :: b => by
    rw [List.map_cons, List.map_cons, PyData.eqvAll, h, eqvAll_map h a b]
    simp [List.cons.injEq]
theorem canLay_all {ds : List PyData} (h : ∀ d ∈ ds, d.canLay0 = true) : PyData.canLayAll0 ds = true := by
  induction ds with
  | nil => rw [PyData.canLayAll0]
  | cons d ds ih => rw [PyData.canLayAll0, h d List.mem_cons_self, ih fun e m => h e (List.mem_cons_of_mem _ m)]; rfl
theorem depth_all {ds : List PyData} {n : Nat} (h : ∀ d ∈ ds, d.depth ≤ n) : PyData.depthAll ds ≤ n := by
  induction ds with
  | nil => rw [PyData.depthAll]; exact Nat.zero_le _
  | cons d ds ih => rw [PyData.depthAll]; exact Nat.max_le.mpr ⟨h d List.mem_cons_self, ih fun e m => h e (List.mem_cons_of_mem _ m)⟩
theorem weight_all {ds : List PyData} {n : Nat} (h : ∀ d ∈ ds, d.weight ≤ n) : PyData.weightAll ds ≤ (n + 1) * ds.length := by
  induction ds with
  | nil => rw [PyData.weightAll]; exact Nat.zero_le _
  | cons d ds ih =>
    rw [PyData.weightAll, List.length_cons, Nat.mul_add]
    have := h d List.mem_cons_self
    have := ih fun e m => h e (List.mem_cons_of_mem _ m)
    omega
theorem show_all {ds : List PyData} (h : ∀ d ∈ ds, d.showable = true) : PyData.showableAll ds = true := by
  induction ds with
  | nil => rw [PyData.showableAll]
  | cons d ds ih => rw [PyData.showableAll, h d List.mem_cons_self, ih fun e m => h e (List.mem_cons_of_mem _ m)]; rfl
theorem short_all {ds : List PyData} (h : ∀ d ∈ ds, d.intsShort 13 = true) : PyData.intsShortAll 13 ds = true := by
  induction ds with
  | nil => rw [PyData.intsShortAll]
  | cons d ds ih => rw [PyData.intsShortAll, h d List.mem_cons_self, ih fun e m => h e (List.mem_cons_of_mem _ m)]; rfl
/-- what is wanted of data that is compared and shown -/
structure Nice (m W : Nat) (d : PyData) : Prop where
  lay : d.canLay0 = true
  depth : d.depth ≤ m
  weight : d.weight ≤ W
  sh : d.showable = true
  short : d.intsShort 13 = true
theorem ints_nice : ((List.range 1000).all fun n => decide ((PyData.shown (.int n)).length ≤ 13) && decide (((n : Int)).natAbs.log2 < 1920) && decide ((PyData.int n).weight ≤ 40)) = true := by decide +kernel
theorem Nice.int {i : Int} (h0 : 0 ≤ i) (h1 : i < 1000) : Nice 0 40 (.int i) := by
  obtain ⟨n, rfl⟩ : ∃ n : Nat, i = n := ⟨i.toNat, by omega⟩
  have := List.all_eq_true.mp ints_nice n (List.mem_range.mpr (by omega))
  simp only [Bool.and_eq_true, decide_eq_true_eq] at this
  refine ⟨by rw [PyData.canLay0], by rw [PyData.depth]; exact Nat.le_refl _, this.2, by rw [PyData.showable]; exact decide_eq_true this.1.2, by rw [PyData.intsShort]; exact decide_eq_true this.1.1⟩
theorem signs_ok : signsL.all (fun c => decide (c < 0x110000)) = true := by decide +kernel
theorem Nice.str {z : Str} (h : goodW (cs z)) : Nice 0 40 (.str z) := by
  refine ⟨?_, by rw [PyData.depth]; exact Nat.le_refl _, ?_, by rw [PyData.showable], by rw [PyData.intsShort]⟩
  · rw [PyData.canLay0]
    unfold PyData.strOk
    rw [← Array.all_toList]
    exact List.all_eq_true.mpr fun c m => decide_eq_true (of_decide_eq_true (List.all_eq_true.mp signs_ok c (h.2.2.2 c m)))
  · rw [PyData.weight]
    have := h.2.1
    rw [cs_len] at this
    exact this
theorem Nice.tup {m W n : Nat} {ds : List PyData} (h : ∀ d ∈ ds, Nice m W d) (l : ds.length ≤ n) : Nice (m + 1) ((W + 1) * n) (.tuple ds) := by
  have wa := weight_all fun d k => (h d k).weight
  refine ⟨by rw [PyData.canLay0]; exact canLay_all fun d k => (h d k).lay, by rw [PyData.depth]; exact Nat.succ_le_succ (depth_all fun d k => (h d k).depth), ?_, by rw [PyData.showable]; exact show_all fun d k => (h d k).sh, by rw [PyData.intsShort]; exact short_all fun d k => (h d k).short⟩
  rw [PyData.weight]
  exact Nat.le_trans wa (Nat.mul_le_mul (Nat.le_refl _) l)
theorem Nice.lst {m W n : Nat} {ds : List PyData} (h : ∀ d ∈ ds, Nice m W d) (l : ds.length ≤ n) : Nice (m + 1) ((W + 1) * n) (.list ds) := by
  have wa := weight_all fun d k => (h d k).weight
  refine ⟨by rw [PyData.canLay0]; exact canLay_all fun d k => (h d k).lay, by rw [PyData.depth]; exact Nat.succ_le_succ (depth_all fun d k => (h d k).depth), ?_, by rw [PyData.showable]; exact show_all fun d k => (h d k).sh, by rw [PyData.intsShort]; exact short_all fun d k => (h d k).short⟩
  rw [PyData.weight]
  exact Nat.le_trans wa (Nat.mul_le_mul (Nat.le_refl _) l)
theorem Nice.up {m n W X : Nat} {d : PyData} (h : Nice m W d) (l : m ≤ n) (k : W ≤ X) : Nice n X d :=
  ⟨h.lay, Nat.le_trans h.depth l, Nat.le_trans h.weight k, h.sh, h.short⟩
def trD (x : Tr) : PyData := .tuple [.str x.1, .int x.2]
def frmD (n : Int) (ts : List Tr) : PyData := .tuple [.int n, .tuple (ts.map trD)]
theorem frm_nice {q n : Int} {ts : List Tr} (h : FormOk q n ts) (hq : q ≤ 997) (l : ts.length < 64) : Nice 3 11000 (frmD n ts) := by
  refine (Nice.tup (m := 2) (W := 5313) (n := 2) (fun d m => ?_) (by simp)).up (Nat.le_refl _) (by decide)
  rcases List.mem_cons.mp m with rfl | m
  · exact (Nice.int h.num.1 (by have := h.num.2; omega)).up (by decide) (by decide)
  · rw [List.mem_singleton.mp m]
    refine (Nice.tup (m := 1) (W := 82) (n := 64) (fun d m => ?_) (by rw [List.length_map]; omega)).up (Nat.le_refl _) (by decide)
    obtain ⟨x, hx, rfl⟩ := List.mem_map.mp m
    have g := h.ok.ok x hx
    refine Nice.tup (m := 0) (W := 40) (n := 2) (fun d m => ?_) (by simp)
    rcases List.mem_cons.mp m with rfl | m
    · exact Nice.str g.1
    · rw [List.mem_singleton.mp m]; exact Nice.int (by omega) (by omega)
theorem Nice.shaped {m W : Nat} {d : PyData} (h : Nice m W d) (l : m ≤ 64) : SeqAt.shaped d = true := by
  unfold SeqAt.shaped
  rw [h.lay, Bool.true_and]
  exact decide_eq_true (Nat.le_trans h.depth l)
theorem Nice.shown {d : PyData} (h : Nice 3 11000 d) : d.showable = true ∧ d.hasDict = false ∧ d.depth ≤ 40 ∧ d.shown.length ≤ sizeLine := by
  refine ⟨h.sh, PyData.hasDict_of_canLay d h.lay, Nat.le_trans h.depth (by decide), ?_⟩
  have hl : PyData.layable0 d = true := by
    unfold PyData.layable0
    rw [h.lay, decide_eq_true (show d.depth ≤ 64 from Nat.le_trans h.depth (by decide)), decide_eq_true (show d.weight ≤ 2 ^ 20 from Nat.le_trans h.weight (by decide))]; rfl
  exact Nat.le_trans (PyProof.Rows.shown_le13 hl h.short) (by decide)
theorem eqv_frm (n m : Int) (a b : List Tr) : PyData.eqv (frmD n a) (frmD m b) = decide (n = m ∧ a = b) := by
  unfold frmD
  rw [PyData.eqv, PyData.eqvAll, PyData.eqvAll, PyData.eqvAll, PyData.eqv, PyData.eqv, eqvAll_map (g := trD) (fun x y => ?_) a b]
  · by_cases c : n = m <;> by_cases d : a = b <;> simp [c, d]
  · unfold trD
    obtain ⟨x1, x2⟩ := x
    obtain ⟨y1, y2⟩ := y
    rw [PyData.eqv, PyData.eqvAll, PyData.eqvAll, PyData.eqvAll, PyData.eqv, PyData.eqv]
    by_cases c : x1 = y1 <;> by_cases d : x2 = y2 <;> simp [c, d]
theorem DpAll.trs {K : PySem.W.Frag} {H : Hp} : ∀ {us : List V} {ts : List Tr}, Trs H us ts → DpAll K H us (ts.map trD)
  | [], [], _ => .nil
  | [], _ :: _, h => by have := h.1; simp at this
  | _ :: _, [], h => by have := h.1; simp at this
  | u :: us, x :: ts, h => by
    obtain ⟨y, e, t, rfl, ht⟩ := h.2 0 u rfl
    obtain rfl : x = y := Option.some.inj e
    exact .cons (.tup (SqT.of ht) (.cons (.str _) (.cons (.int _) .nil))) (DpAll.trs ⟨by have := h.1; simp at this; exact this, fun i v e => h.2 (i + 1) v (by simpa using e)⟩)
theorem Dp.frm {K : PySem.W.Frag} {H : Hp} {v : V} {n : Int} {ts : List Tr} (h : FrmV H v n ts) : Dp K H v (frmD n ts) := by
  obtain ⟨a, b, us, rfl, h1, h2, h3⟩ := h
  exact .tup (SqT.of h1) (.cons (.int n) (.cons (.tup (SqT.of h2) (DpAll.trs h3)) .nil))
theorem op_eqDK {X : Cx} {K : PySem.W.Frag} (hu : X.A.units + 64 < cLine) (q : X.K = K := by rfl) : OpR X (compareOp .Eq) (rEqD K) := q ▸ op_eqD hu
theorem op_neDK {X : Cx} {K : PySem.W.Frag} (hu : X.A.units + 64 < cLine) (q : X.K = K := by rfl) : OpR X (compareOp .NotEq) (rNeD K) := q ▸ op_neD hu
section
variable {K : PySem.W.Frag} {H : Hp} {Q : VK} {v w : V} {n m q : Int} {a b : List Tr}
theorem r_eqF (h1 : FrmV H v n a) (h2 : FrmV H w m b) (n1 : Nice 3 11000 (frmD n a)) (n2 : Nice 3 11000 (frmD m b)) (k : Q (.bl (decide (n = m ∧ a = b))) H) : rEqD K v w H Q :=
  ⟨_, _, Dp.frm h1, Dp.frm h2, n1.shaped (by decide), n2.shaped (by decide), by rw [eqv_frm]; exact k⟩
theorem r_neF (h1 : FrmV H v n a) (h2 : FrmV H w m b) (n1 : Nice 3 11000 (frmD n a)) (n2 : Nice 3 11000 (frmD m b)) (k : Q (.bl (!decide (n = m ∧ a = b))) H) : rNeD K v w H Q :=
  ⟨_, _, Dp.frm h1, Dp.frm h2, n1.shaped (by decide), n2.shaped (by decide), by rw [eqv_frm]; exact k⟩
theorem r_reprF {x : Addr} (h1 : FrmV H (.ref x) n a) (n1 : Nice 3 11000 (frmD n a)) (k : Q (.str (frmD n a).shown) H) : rRepr K [.ref x] H Q :=
  ⟨x, _, rfl, Dp.frm h1, n1.shown.1, n1.shown.2.1, n1.shown.2.2.1, n1.shown.2.2.2, k⟩
theorem r_reprI2 {x : Addr} {i j : Int} (h1 : H x = some (.lst [.int i, .int j])) (hi : 0 ≤ i ∧ i < 1000) (hj : 0 ≤ j ∧ j < 1000) (k : Q (.str (PyData.list [.int i, .int j]).shown) H) : rRepr K [.ref x] H Q := by
  have n1 : Nice 3 11000 (.list [.int i, .int j]) := (Nice.lst (m := 0) (W := 40) (n := 2) (fun d m => by
    rcases List.mem_cons.mp m with rfl | m
    · exact Nice.int hi.1 hi.2
    · rw [List.mem_singleton.mp m]; exact Nice.int hj.1 hj.2) (by simp)).up (by decide) (by decide)
  exact ⟨x, _, rfl, .lst (SqL.of h1) (.cons (.int i) (.cons (.int j) .nil)), n1.shown.1, n1.shown.2.1, n1.shown.2.2.1, n1.shown.2.2.2, k⟩
end
local macro_rules | `(tactic| walk_at "ssz") => `(tactic| first | decide | exact str_small (by assumption) | (have : (1000000 : Nat) ≤ sizeLine := (by decide); omega))
local macro_rules | `(tactic| walk_at "st1") => `(tactic| first
  | with_reducible refine' r_nt ?_ | with_reducible refine' r_nf ?_
  | ((with_reducible refine r_lenS ?e1 ?_); (case e1 => walk_at "ssz"))
  | with_reducible refine r_inS ?_
  | with_reducible refine r_ninS ?_
  | ((with_reducible refine r_addS ?e1 ?_); (case e1 => walk_at "ssz"))
  | ((with_reducible refine' r_ixS ?e1 ?e2 ?_); (case e1 => walk_at "ssz"); (case e2 => first | assumption | rfl))
  | with_reducible refine r_istr ?_
  | with_reducible refine r_is ?_
  | with_reducible refine r_un ?_
  | with_reducible refine r_u ?_)
local macro_rules | `(tactic| walk_at "st1") => `(tactic| first
  | with_reducible refine r_par ?_
  | with_reducible refine r_parx ?_
  | ((with_reducible refine' r_gtup ?e1 ?e2 ?_); (case e1 => walk_at "sq"); (case e2 => rfl))
  | with_reducible refine r_gcons ?_
  | with_reducible refine r_gnil ?_
  | with_reducible refine r_disp ?_
  | with_reducible refine r_tp1 ?_
  | with_reducible refine r_tp0 ?_
  | ((with_reducible refine' r_dp1 ?e1 ?_); (case e1 => walk_at "hl"))
  | with_reducible refine r_dnewK ?_
  | with_reducible refine r_dget2 ?_
  | ((with_reducible refine' r_dg2 ?e1 ?_); (case e1 => walk_at "hl"))
  | ((with_reducible refine' r_dg3 ?e1 ?_); (case e1 => walk_at "hl"))
  | with_reducible refine r_dget ?_
  | ((with_reducible refine' r_dgv ?e1 ?e2 ?_); (case e1 => walk_at "hl"); (case e2 => assumption))
  | ((with_reducible refine' r_setD ?e1 ?e2 ?_); (case e1 => walk_at "hl"); (case e2 => omega)))
def rLeS : R2 := fun x y H Q => ∃ i j, x = .str i ∧ y = .str j ∧ Q (.bl (!decide (j.cps.toList < i.cps.toList))) H
theorem op_leS {X : Cx} : OpR X (compareOp .LtE) rLeS := op_le_str
def eqOk : O → Prop
  | .str x => x.cps.all (· < 0x110000) = true
  | .tup [.int _] => True
  | .tup _ => False
  | .lst _ => False
  | .dct => False
  | _ => True
def eq0 : O → Bool
  | .int k => decide (k = 0)
  | .bl b => !b
  | _ => false
section
variable {K : PySem.W.Frag} {σ : L2.St} {H : Hp} {Q : VK}
theorem r_leS {i j : Str} (q : Q (.bl (!decide (j.cps.toList < i.cps.toList))) H) : rLeS (.str i) (.str j) H Q := ⟨i, j, rfl, rfl, q⟩
theorem r_eq0 {S : List Addr} {v : V} {b : O} (r : Rep S H v b) (ok : eqOk b) (q : Q (.bl (eq0 b)) H) : rEqD K v (.int 0) H Q := by
  have s0 : SeqAt.shaped (.int 0) = true := (Nice.int (by decide) (by decide)).shaped (by decide)
  cases r with
  | non => exact ⟨.none, .int 0, .non, .int 0, rfl, s0, q⟩
  | bl b =>
    refine ⟨.bool b, .int 0, .bl b, .int 0, rfl, s0, ?_⟩
    cases b <;> exact q
  | int k =>
    refine ⟨.int k, .int 0, .int k, .int 0, rfl, s0, ?_⟩
    have e : PyData.eqv (.int k) (.int 0) = decide (k = 0) := by
      rw [PyData.eqv]
      by_cases c : k = 0 <;> simp [c]
    rw [e]; exact q
  | str x =>
    refine ⟨.str x, .int 0, .str x, .int 0, ?_, s0, q⟩
    unfold SeqAt.shaped
    rw [PyData.canLay0, PyData.depth]
    unfold PyData.strOk
    rw [show x.cps.all (· < 0x110000) = true from ok]; rfl
  | @tup a xs os h n t =>
    match os, ok, t with
    | [.int i], _, t =>
      cases t with
      | cons r1 t2 => cases r1; cases t2; exact ⟨.tuple [.int i], .int 0, .tup (SqT.of h) (.cons (.int i) .nil), .int 0, rfl, s0, q⟩
  | lst h n t => exact ok.elim
  | dct h n => exact ok.elim
end
def isTupO : O → Bool
  | .tup _ => true
  | _ => false
def isBlO : O → Bool
  | .bl _ => true
  | _ => false
def isIntO : O → Bool
  | .bl _ => true
  | .int _ => true
  | _ => false
section
variable {K : PySem.W.Frag} {σ : L2.St} {H : Hp} {Q : VK} {S : List Addr} {v : V} {o : O}
theorem r_isiT (r : Rep S H v o) (q : Q (.bl (isTupO o)) H) : rIsi K [v, .ty "tuple"] H Q := by
  cases r with
  | non => exact r_isi (.ty _) (TyX.base .non) kt_NoneType_tuple q
  | bl b => exact r_isi (.ty _) (TyX.base (.bl _)) kt_bool_tuple q
  | int i => exact r_isi (.ty _) (TyX.base (.int _)) kt_int_tuple q
  | str x => exact r_isi (.ty _) (TyX.base (.str _)) kt_str_tuple q
  | tup h n t => exact r_isi (.ty _) (TyX.base (.tup h)) kt_tuple_tuple q
  | lst h n t => exact r_isi (.ty _) (TyX.base (.lst h)) kt_list_tuple q
  | dct h n => exact r_isi (.ty _) (TyX.base (.dK h)) kt_dict_tuple q
theorem r_isiB (r : Rep S H v o) (q : Q (.bl (isBlO o)) H) : rIsi K [v, .ty "bool"] H Q := by
  cases r with
  | non => exact r_isi (.ty _) (TyX.base .non) kt_NoneType_bool q
  | bl b => exact r_isi (.ty _) (TyX.base (.bl _)) kt_bool_bool q
  | int i => exact r_isi (.ty _) (TyX.base (.int _)) kt_int_bool q
  | str x => exact r_isi (.ty _) (TyX.base (.str _)) kt_str_bool q
  | tup h n t => exact r_isi (.ty _) (TyX.base (.tup h)) kt_tuple_bool q
  | lst h n t => exact r_isi (.ty _) (TyX.base (.lst h)) kt_list_bool q
  | dct h n => exact r_isi (.ty _) (TyX.base (.dK h)) kt_dict_bool q
theorem r_isiI (r : Rep S H v o) (q : Q (.bl (isIntO o)) H) : rIsi K [v, .ty "int"] H Q := by
  cases r with
  | non => exact r_isi (.ty _) (TyX.base .non) kt_NoneType_int q
  | bl b => exact r_isi (.ty _) (TyX.base (.bl _)) kt_bool_int q
  | int i => exact r_isi (.ty _) (TyX.base (.int _)) kt_int_int q
  | str x => exact r_isi (.ty _) (TyX.base (.str _)) kt_str_int q
  | tup h n t => exact r_isi (.ty _) (TyX.base (.tup h)) kt_tuple_int q
  | lst h n t => exact r_isi (.ty _) (TyX.base (.lst h)) kt_list_int q
  | dct h n => exact r_isi (.ty _) (TyX.base (.dK h)) kt_dict_int q
end
theorem tup_of {o : O} (h : isTupO o = true) : ∃ os, o = .tup os := by
  cases o with
  | tup os => exact ⟨os, rfl⟩
  | _ => cases h
theorem two_of {os : List O} (h : os.length = 2) : ∃ a b, os = [a, b] := by
  match os, h with
  | [a, b], _ => exact ⟨a, b, rfl⟩
local macro_rules | `(tactic| walk_at "st1") => `(tactic| first
  | with_reducible refine r_leS ?_
  | ((with_reducible refine' r_isiT ?e1 ?_); (case e1 => assumption))
  | ((with_reducible refine' r_isiB ?e1 ?_); (case e1 => assumption))
  | ((with_reducible refine' r_isiI ?e1 ?_); (case e1 => assumption)))
def secO : O → O
  | .tup [_, b] => b
  | _ => .non
def goodT : O → Bool
  | .tup [a, b] => placeO a && !eq0 b
  | _ => false
def eqOkT : O → Prop
  | .tup [_, b] => eqOk b
  | _ => True
def eqOkF : O → Prop
  | .tup [_, .tup ts] => ∀ t ∈ ts, eqOkT t
  | _ => True
/-- the keys rise, the last of them known -/
def upTo : List Str → Str → Bool
  | [], _ => true
  | z :: zs, l => decide (cs l < cs z) && upTo zs z
theorem riseL_cons (z : Str) (zs : List Str) : riseL (z :: zs) = upTo zs z := by
  induction zs generalizing z with
  | nil => rfl
  | cons y zs ih =>
    have e : riseL (z :: y :: zs) = (decide (cs z < cs y) && riseL (y :: zs)) := rfl
    rw [e, ih]; rfl
theorem upTo_app : ∀ (zs ys : List Str) (l : Str), upTo (zs ++ ys) l = (upTo zs l && upTo ys (zs.getLastD l))
  | [], ys, l => by simp [upTo]
  | z :: zs, ys, l => by
    rw [List.cons_append, upTo, upTo, upTo_app zs ys z, Bool.and_assoc, List.getLastD_cons]
theorem nil_lt {z : Str} (h : placeO (.str z) = true) : decide (cs (Str.ofString "") < cs z) = true := by
  have h : (decide (1 ≤ z.length) && _) = true := h
  simp only [Bool.and_eq_true, decide_eq_true_eq] at h
  have l := cs_len z
  cases e : cs z with
  | nil => rw [e] at l; simp at l; omega
  | cons c r =>
    have : cs (Str.ofString "") = [] := rfl
    rw [this]
    exact decide_eq_true (List.nil_lt_cons c r)
theorem two_len (a b : V) : (!decide (V.int (([a, b] : List V).length : Int) = V.int 2)) = false := by simp
theorem upTo_rise {zs : List Str} (h : upTo zs (Str.ofString "") = true) : riseL zs = true := by
  cases zs with
  | nil => rfl
  | cons z zs =>
    rw [riseL_cons]
    unfold upTo at h
    rw [Bool.and_eq_true] at h
    exact h.2
theorem form_up {q : Int} {n : O} {ts : List O} (h : formO q (.tup [n, .tup ts]) = true) : upTo (ts.map keyO) (Str.ofString "") = true := by
  have h : (numO q n && (ts.all (termO q) && riseL (ts.map keyO))) = true := h
  simp only [Bool.and_eq_true] at h
  cases ts with
  | nil => rfl
  | cons t ts =>
    have g := List.all_eq_true.mp h.2.1 t List.mem_cons_self
    have r := h.2.2
    rw [List.map_cons, riseL_cons] at r
    rw [List.map_cons, upTo, r, Bool.and_true]
    cases t with
    | tup os =>
      match os, g with
      | [a, b], g =>
        have g : (placeO a && (numO q b && nz b)) = true := g
        simp only [Bool.and_eq_true] at g
        cases a with
        | str z => exact nil_lt g.1
        | _ => simp [placeO] at g
      | [], g => cases g
      | [_], g => cases g
      | _ :: _ :: _ :: _, g => cases g
    | _ => cases g
theorem form_term {q : Int} {n : O} {ts : List O} {t : O} (m : t ∈ ts) (h : termO q t = false) : formO q (.tup [n, .tup ts]) = false := by
  show (numO q n && (ts.all (termO q) && _)) = false
  have : ts.all (termO q) = false := by
    cases g : ts.all (termO q) with
    | false => rfl
    | true => rw [List.all_eq_true.mp g t m] at h; cases h
  rw [this]; simp
theorem num_nz {q : Int} {b : O} (h : eq0 b = false) : (numO q b && nz b) = numO q b := by
  cases b with
  | int k =>
    have h : decide (k = 0) = false := h
    show (numO q (.int k) && !decide (k = 0)) = _
    rw [h]; simp
  | _ => rfl
theorem eq0_term {q : Int} {a b : O} (h : eq0 b = true) : termO q (.tup [a, b]) = false := by
  show (placeO a && (numO q b && nz b)) = false
  cases b with
  | int k =>
    have h : decide (k = 0) = true := h
    show (placeO a && (numO q (.int k) && !decide (k = 0))) = false
    rw [h]; simp
  | _ => simp [numO]
theorem form_good {q : Int} {n : O} {ts : List O} (g : ∀ t ∈ ts, goodT t = true) (u : upTo (ts.map keyO) (Str.ofString "") = true) : formO q (.tup [n, .tup ts]) = (n :: ts.map secO).all (numO q) := by
  show (numO q n && (ts.all (termO q) && riseL (ts.map keyO))) = _
  rw [upTo_rise u, Bool.and_true, List.all_cons, List.all_map]
  congr 1
  have pt : ∀ t ∈ ts, termO q t = numO q (secO t) := fun t m => by
    have h := g t m
    cases t with
    | tup os =>
      match os, h with
      | [a, b], h =>
        have h : (placeO a && !eq0 b) = true := h
        simp only [Bool.and_eq_true, Bool.not_eq_true'] at h
        show (placeO a && (numO q b && nz b)) = numO q b
        rw [h.1, Bool.true_and, num_nz h.2]
      | [], h => cases h
      | [_], h => cases h
      | _ :: _ :: _ :: _, h => cases h
    | _ => cases h
  rw [Bool.eq_iff_iff, List.all_eq_true, List.all_eq_true]
  exact ⟨fun z t m => by rw [Function.comp_apply, ← pt t m]; exact z t m, fun z t m => by rw [pt t m]; exact z t m⟩
def sp_law_good (_ : PySem.W.Frag) : Sp := fun vs H Q _ => ∃ (S : List Addr) (v : V) (o : O) (q : Int), vs = [v, .int q] ∧ Rep S H v o ∧ smallF o ∧ eqOkF o ∧ ∀ H', Same H H' → Q (.bl (formO q o)) H'
section
variable {P : Program} {w : World} {K : PySem.W.Frag} {mg : Str → Option Value} {base : Heap}
theorem ok_law_good (T : Tx K mg) {f_law_is_place : Addr} {fd_law_is_place : FuncData} (C_law_is_place : Cal P w K mg base "_law_is_place" 1 ["what"] (sp_law_is_place K) s_law_is_place f_law_is_place fd_law_is_place) {f : Addr} {fd : FuncData} (F : Here K mg "_law_good" s_law_good ["what", "q"] f fd) : Cal P w K mg base "_law_good" 2 ["what", "q"] (sp_law_good K) s_law_good f fd := by
  refine F.cal sc_law_good (fun vs H Q E h => ?_) (fun cdv A outer s H vs Q E hr h => ?_)
  · obtain ⟨S, v, o, q, rfl, _⟩ := h
    rfl
  · obtain ⟨S, v, o, q, rfl, r, sm0, eo0, fin⟩ := h
    have no : formO q o = false → ∀ H', Same H H' → Q (.bl false) H' := fun e H' sm => by
      have := fin H' sm
      rw [e] at this
      exact this
    refine ⟨_, (pss_cons (ps_if (PW.pt (pw_or (pt_not (pt_val (pe_callB (cr_isiK (K := K)) (by rfl) T.m_isinstance (by decide +kernel) (pa_cons (pv 0) (pa_cons (pe_bltn (v := .ty "tuple") (by rfl) T.m_tuple (by decide +kernel) rfl) pa_nil))))) (pw_or (pt_cmpR op_ne (pe_callB (cr_lenK (K := K)) (by rfl) T.m_len (by decide +kernel) (pa_cons (pv 0) pa_nil)) pe_int (nomark _)) (pw_or1 (pt_not (pt_val (pe_callB (cr_isiK (K := K)) (by rfl) T.m_isinstance (by decide +kernel) (pa_cons (pe_ix (ix_tupK (K := K)) (pv 0) pe_int (fun _ _ => rfl)) (pa_cons (pe_bltn (v := .ty "tuple") (by rfl) T.m_tuple (by decide +kernel) rfl) pa_nil))))))))) (pss_one (ps_ret pe_bl)) pss_nil)
      (pss_cons (ps_par (i := 2) (j := 3) rfl sc_law_good.nd rfl rfl (by decide) rfl rfl (pa_cons (pe_lst (pa_cons (pe_ix (ix_tupK (K := K)) (pv 0) pe_int (fun _ _ => rfl)) pa_nil)) (pa_cons pe_str pa_nil)) (by rfl))
      (pss_cons (ps_for PassesOwn.never rfl (pi_tupK (K := K) (pe_ix (ix_tupK (K := K)) (pv 0) pe_int (fun _ _ => rfl))) (pg_name (i := 4) sc_law_good.nd rfl (by first | exact .inl rfl | exact .inr rfl)) (pss_cons (ps_if (PW.pt (pw_or (pt_not (pt_val (pe_callB (cr_isiK (K := K)) (by rfl) T.m_isinstance (by decide +kernel) (pa_cons (pv 4) (pa_cons (pe_bltn (v := .ty "tuple") (by rfl) T.m_tuple (by decide +kernel) rfl) pa_nil))))) (pw_or (pt_cmpR op_ne (pe_callB (cr_lenK (K := K)) (by rfl) T.m_len (by decide +kernel) (pa_cons (pv 4) pa_nil)) pe_int (nomark _)) (pw_or (pt_not (pt_val (pe_call C_law_is_place.ok (hr.mono (by decide)) (by rfl) C_law_is_place.at_ C_law_is_place.kp C_law_is_place.b .nil pass0 (pa_cons (pe_ix (ix_tupK (K := K)) (pv 4) pe_int (fun _ _ => rfl)) pa_nil)))) (pw_or1 (pt_cmpR op_leS (pe_ix (ix_tupK (K := K)) (pv 4) pe_int (fun _ _ => rfl)) (pv 3) (nomark _))))))) (pss_one (ps_ret pe_bl)) pss_nil)
      (pss_cons (ps_set (i := 3) sc_law_good.nd rfl (by first | exact .inl rfl | exact .inr rfl) (pe_ix (ix_tupK (K := K)) (pv 4) pe_int (fun _ _ => rfl)))
      (pss_cons (ps_expr (castBM (K := K) (pe_bm PySem.F.plainAttrs_list PySem.F.slot_list_append PySem.F.type_list_append mt_append (pv 2) (pa_cons (pe_ix (ix_tupK (K := K)) (pv 4) pe_int (fun _ _ => rfl)) pa_nil))))
      (pss_one (ps_if (pt_cmpR (op_eqDK (K := K) (hu_of64 hr)) (pe_ix (ix_tupK (K := K)) (pv 4) pe_int (fun _ _ => rfl)) pe_int (nomark _)) (pss_one (ps_ret pe_bl)) pss_nil))))))
      (pss_cons (ps_setLc (i := 5) rfl sc_law_good.nd rfl rfl (sw_true rfl rfl rfl (by decide +kernel)) (pi_listK (K := K) (pv 2)) (blkOk_by (own := [("one", 6)]) (N := ["what", "q", "numbers", "last", "term", "odd", "one"]) (sc := (defScope s_law_good)) (by decide +kernel)) (fun _ _ _ _ _ => (pg_name (i := 6) sc_law_good.nd rfl (by first | exact .inl rfl | exact .inr rfl))) (fun _ _ _ _ _ => (pts_one (PW.pt (pw_or (pt_val (pe_callB (cr_isiK (K := K)) (by rfl) T.m_isinstance (by decide +kernel) (pa_cons (pv 6) (pa_cons (pe_bltn (v := .ty "bool") (by rfl) T.m_bool (by decide +kernel) rfl) pa_nil)))) (pw_or (pt_not (pt_val (pe_callB (cr_isiK (K := K)) (by rfl) T.m_isinstance (by decide +kernel) (pa_cons (pv 6) (pa_cons (pe_bltn (v := .ty "int") (by rfl) T.m_int (by decide +kernel) rfl) pa_nil))))) (pw_or1 (pt_not (pt_chain op_le op_lt pe_int (pv 6) (pv 1))))))))) (fun _ _ _ _ _ => (pv 6)))
      (pss_one (ps_ret (pe_cmpR (op_eqNilK (K := K) (hu_of64 hr)) (pv 5) (pe_lst pa_nil) (nomark _)))))))), ?_⟩
    have one2 : ∀ n : Nat, n ≠ 2 → (!decide (V.int (n : Int) = V.int 2)) = true := fun n h => by
      simp; intro e; exact h (by omega)
    walk_at "st"
    walk_at "if"
    cases hT : isTupO o with
    | false =>
      walk_at "st"
      refine no ?_ H (Same.refl _)
      cases o with
      | tup os => cases hT
      | _ => rfl
    | true =>
      obtain ⟨os, rfl⟩ := tup_of hT
      obtain ⟨x, xs, rfl, hx, nx, tx⟩ := r.tupInv
      walk_at "st"
      by_cases h2 : os.length = 2
      · obtain ⟨n, t, rfl⟩ := two_of h2
        cases tx with
        | cons rn tx2 => cases tx2 with
          | cons rt tx3 =>
            cases tx3
            rename_i vn vt
            rw [two_len]
            walk_at "st"
            cases hT2 : isTupO t with
            | false =>
              walk_at "st"
              refine no ?_ H (Same.refl _)
              cases t with
              | tup os => cases hT2
              | _ => rfl
            | true =>
              obtain ⟨ts, rfl⟩ := tup_of hT2
              obtain ⟨b, us, rfl, hb, nb, tt⟩ := rt.tupInv
              walk_at "st"
              intro ln hln
              have tt1 : RepAll (ln :: S) (upd H ln (.lst [vn])) us ts := tt.to (Lft.own hln)
              have rn1 : Rep (ln :: S) (upd H ln (.lst [vn])) vn n := rn.to (Lft.own hln)
              have hx1 : upd H ln (.lst [vn]) x = some (.tup [vn, .ref b]) := hl_new hx hln
              have hb1 : upd H ln (.lst [vn]) b = some (.tup us) := hl_new hb hln
              have lts : ts.length ≤ 1000 := sm0.1
              have nbl : b ≠ ln := ne_of_none hb hln
              have elu := tt.length
              have back : ∀ H', Kp [ln] (upd H ln (.lst [vn])) H' → Same H H' := fun H' k a o e => k _ _ (hl_new e hln) fun z => ne_of_none e hln (List.mem_singleton.mp z)
              have eln : upd H ln (.lst [vn]) ln = some (.lst [vn]) := upd_same
              generalize upd H ln (.lst [vn]) = H1 at *
              walk_at "st"
              refine lp_by (walk_tup (xs := us)) (fun i σ' H' => ∃ x4, σ' = [some (.ref x), some (.int q), some (.ref ln), some (.str (((ts.take i).map keyO).getLastD (Str.ofString ""))), x4, none, none] ∧ Kp [ln] H1 H' ∧
                (∃ vs, H' ln = some (.lst vs) ∧ RepAll (ln :: S) H' vs (n :: (ts.take i).map secO)) ∧ (∀ t ∈ ts.take i, goodT t = true) ∧ upTo ((ts.take i).map keyO) (Str.ofString "") = true)
                ⟨none, rfl, Kp.refl, ⟨[vn], eln, .cons rn1 .nil⟩, fun t m => by simp at m, rfl⟩ (fun i σ' H' _ g => ?_) (fun i y σ' H2 H3 hi g yy => ?_) (fun σ' H2 g => ?_)
              · obtain ⟨_, _, k2, _⟩ := g
                exact SqT.of (k2 _ _ hb1 fun z => nbl (List.mem_singleton.mp z))
              · obtain ⟨x4, rfl, k2, ⟨vs, evs, rvs⟩, gd, up⟩ := g
                obtain ⟨rfl, ex⟩ := yy
                have tt2 := tt1.to (Lft.kp k2 (S1 := ln :: S) fun a m => by rw [List.mem_singleton.mp m]; exact List.mem_cons_self)
                obtain ⟨o', eo, ro⟩ := tt2.get ex
                have mo := List.mem_of_getElem? eo
                have sT := sm0.2 o' mo
                have eT := eo0 o' mo
                have il : i < ts.length := (List.getElem?_eq_some_iff.mp eo).1
                generalize hl9 : ((ts.take i).map keyO).getLastD (Str.ofString "") = l9 at *
                walk_at "st"
                walk_at "if"
                cases hT3 : isTupO o' with
                | false =>
                  walk_at "st"
                  refine no (form_term mo ?_) _ (back _ k2)
                  cases o' with
                  | tup os => cases hT3
                  | _ => rfl
                | true =>
                  obtain ⟨os3, rfl⟩ := tup_of hT3
                  obtain ⟨y', ys', rfl, hy, ny, ty'⟩ := ro.tupInv
                  walk_at "st"
                  by_cases h23 : os3.length = 2
                  case neg =>
                    rw [ty'.length, one2 _ h23]
                    walk_at "st"
                    refine no (form_term mo (term_not ?_)) _ (back _ k2)
                    simp [tupleO]; omega
                  case pos =>
                    obtain ⟨a, b2, rfl⟩ := two_of h23
                    cases ty' with
                    | cons ra tx2 => cases tx2 with
                      | cons rb tx3 =>
                        cases tx3
                        rename_i va vb
                        rw [two_len]
                        walk_at "st"
                        refine ⟨ln :: S, va, a, rfl, ra, sT, fun H4 sm4 => ?_⟩
                        have k4 : Kp [ln] H1 H4 := k2.trans (Kp.ofSame sm4)
                        have hy4 := sm4 _ _ hy
                        cases h3 : placeO a with
                        | false =>
                          walk_at "st"
                          exact no (form_term mo (by show (placeO a && _) = false; rw [h3]; rfl)) _ (back _ k4)
                        | true =>
                          cases ra with
                          | str z =>
                            walk_at "st"
                            refine r_iteB (fun h => ?_) (fun h => ?_)
                            · walk_at "st"
                              refine no ?_ _ (back _ k4)
                              cases g : formO q (.tup [n, .tup ts]) with
                              | false => rfl
                              | true =>
                                have u := form_up g
                                have split : ts.map keyO = (ts.take i).map keyO ++ z :: (ts.drop (i + 1)).map keyO := by
                                  obtain ⟨g1, g2⟩ := List.getElem?_eq_some_iff.mp eo
                                  have : ts = ts.take i ++ ts[i] :: ts.drop (i + 1) := by rw [List.getElem_cons_drop, List.take_append_drop]
                                  rw [g2] at this
                                  conv => lhs; rw [this]
                                  rw [List.map_append, List.map_cons]; rfl
                                rw [split, upTo_app, Bool.and_eq_true, hl9] at u
                                have u2 := u.2
                                unfold upTo at u2
                                rw [Bool.and_eq_true] at u2
                                have h : (!decide (cs l9 < cs z)) = true := h
                                rw [u2.1] at h
                                cases h
                            · have lt9 : decide (cs l9 < cs z) = true := by
                                have h : (!decide (cs l9 < cs z)) = false := h
                                simpa using h
                              have evs4 := sm4 _ _ evs
                              have lvs : vs.length < sizeLine := by rw [rvs.length, List.length_cons, List.length_map, List.length_take]; exact Nat.lt_of_le_of_lt (show _ ≤ 1001 by omega) (by decide)
                              walk_at "st"
                              have ny' : y' ≠ ln := fun z => ny (z ▸ List.mem_cons_self)
                              have k5 : Kp [ln] H1 (upd H4 ln (.lst (vs ++ [vb]))) := k4.trans (Kp.set List.mem_cons_self)
                              have L5 : Lft (ln :: S) H3 (ln :: S) (upd H4 ln (.lst (vs ++ [vb]))) := Lft.trans (Lft.same sm4) (Lft.set List.mem_cons_self)
                              have rb5 := rb.to L5
                              have hy5 : upd H4 ln (.lst (vs ++ [vb])) y' = some (.tup [.str z, vb]) := hl_set ny' hy4
                              have tk : ts.take (i + 1) = ts.take i ++ [.tup [.str z, b2]] := by rw [List.take_succ, eo]; rfl
                              walk_at "if"
                              refine r_eq0 rb5 eT ?_
                              cases h6 : eq0 b2 with
                              | true =>
                                walk_at "st"
                                exact no (form_term mo (eq0_term h6)) _ (back _ k5)
                              | false =>
                                walk_at "st"
                                refine ⟨some (.ref y'), ?_, k5, ⟨vs ++ [vb], upd_same, ?_⟩, fun t m => ?_, ?_⟩
                                · rw [tk, List.map_append, List.map_cons, List.map_nil, List.getLastD_concat]; rfl
                                · rw [tk, List.map_append]
                                  exact (rvs.to L5).append (.cons rb5 .nil)
                                · rw [tk] at m
                                  rcases List.mem_append.mp m with m | m
                                  · exact gd t m
                                  · rw [List.mem_singleton.mp m]
                                    show (placeO (.str z) && !eq0 b2) = true
                                    rw [h3, h6]; rfl
                                · rw [tk, List.map_append, upTo_app, up, hl9]
                                  show (decide (cs l9 < cs z) && true) = true
                                  rw [lt9]; rfl
                          | _ => simp [placeO] at h3
              · obtain ⟨x4, rfl, k2, ⟨vs, evs, rvs⟩, gd, up⟩ := g
                rw [elu, List.take_length] at rvs gd up
                have FG := form_good (q := q) (n := n) gd up
                have elv := rvs.length
                have lvs : vs.length ≤ 1001 := by rw [elv, List.length_cons, List.length_map]; omega
                walk_at "st"
                intro D hD
                refine lc_filt (walk_list (xs := vs)) (by omega) hD (fun i => !numO q ((n :: ts.map secO).getD i .non)) (fun H' k => SqL.of (k _ _ evs)) (fun i H1 x H2 y => by rw [y.1]; exact Same.refl _)
                  (fun i x H4 H5 Y No hi sm y hY hN => ?_) (fun ys HC ee el smC eD => ?_)
                · obtain ⟨rfl, ex⟩ := y
                  obtain ⟨o', eo, ro⟩ := rvs.get ex
                  have e3 : (n :: ts.map secO).getD i .non = o' := by
                    rw [List.getD_eq_getElem?_getD, eo]; rfl
                  rw [e3] at hY hN
                  have ro := ro.to (Lft.same sm)
                  refine ⟨rfl, ?_⟩
                  walk_at "st"
                  cases hb5 : isBlO o' with
                  | true =>
                    walk_at "st"
                    refine hY ?_ _ _ (Same.refl _)
                    cases o' with
                    | bl b => rfl
                    | _ => cases hb5
                  | false =>
                    walk_at "st"
                    cases hi5 : isIntO o' with
                    | false =>
                      walk_at "st"
                      refine hY ?_ _ _ (Same.refl _)
                      cases o' with
                      | int b => cases hi5
                      | _ => rfl
                    | true =>
                      obtain ⟨k, rfl⟩ : ∃ k, o' = .int k := by
                        cases o' with
                        | int k => exact ⟨k, rfl⟩
                        | bl b => cases hb5
                        | _ => cases hi5
                      cases ro
                      walk_at "st"
                      refine r_ite (fun h => ?_) (fun h => ?_)
                      · walk_at "st"
                        cases h7 : decide (k < q) with
                        | true =>
                          walk_at "st"
                          exact hN (by simp [numO, h, of_decide_eq_true h7]) _ (Same.refl _)
                        | false =>
                          walk_at "st"
                          exact hY (by simp [numO, of_decide_eq_false h7]) _ _ (Same.refl _)
                      · walk_at "st"
                        exact hY (by simp [numO, h]) _ _ (Same.refl _)
                · walk_at "st"
                  intro p hp
                  walk_at "st"
                  have := fin (upd HC p (.lst [])) (((back _ k2).trans smC).trans (Same.upd_new hp))
                  have e : formO q (.tup [n, .tup ts]) = ys.isEmpty := by
                    rw [FG, ee, elv]
                    have h8 := range_all (numO q) O.non (n :: ts.map secO)
                    rw [← h8]
                    simp
                  rw [e] at this
                  exact this
      · rw [tx.length, one2 _ h2]
        walk_at "st"
        refine no (form_not ?_) H (Same.refl _)
        simp [tupleO]; omega
end
local macro_rules | `(tactic| walk_at "ssz") => `(tactic| first | decide | exact str_small (by assumption) | (have : (1000000 : Nat) ≤ sizeLine := (by decide); omega))
local macro_rules | `(tactic| walk_at "st1") => `(tactic| first
  | with_reducible refine' r_nt ?_ | with_reducible refine' r_nf ?_
  | ((with_reducible refine r_lenS ?e1 ?_); (case e1 => walk_at "ssz"))
  | with_reducible refine r_inS ?_
  | with_reducible refine r_ninS ?_
  | ((with_reducible refine r_addS ?e1 ?_); (case e1 => walk_at "ssz"))
  | ((with_reducible refine' r_ixS ?e1 ?e2 ?_); (case e1 => walk_at "ssz"); (case e2 => first | assumption | rfl))
  | with_reducible refine r_istr ?_
  | with_reducible refine r_is ?_
  | with_reducible refine r_un ?_
  | with_reducible refine r_u ?_)
local macro_rules | `(tactic| walk_at "st1") => `(tactic| first
  | with_reducible refine r_par ?_
  | with_reducible refine r_parx ?_
  | ((with_reducible refine' r_gtup ?e1 ?e2 ?_); (case e1 => walk_at "sq"); (case e2 => rfl))
  | with_reducible refine r_gcons ?_
  | with_reducible refine r_gnil ?_
  | with_reducible refine r_disp ?_
  | with_reducible refine r_tp1 ?_
  | with_reducible refine r_tp0 ?_
  | ((with_reducible refine' r_dp1 ?e1 ?_); (case e1 => walk_at "hl"))
  | with_reducible refine r_dnewK ?_
  | with_reducible refine r_dget2 ?_
  | ((with_reducible refine' r_dg2 ?e1 ?_); (case e1 => walk_at "hl"))
  | ((with_reducible refine' r_dg3 ?e1 ?_); (case e1 => walk_at "hl"))
  | with_reducible refine r_dget ?_
  | ((with_reducible refine' r_dgv ?e1 ?e2 ?_); (case e1 => walk_at "hl"); (case e2 => assumption))
  | ((with_reducible refine' r_setD ?e1 ?e2 ?_); (case e1 => walk_at "hl"); (case e2 => omega)))
theorem r_int1b' {k : Bool} {H : Hp} {Q : VK} (h : Q (.int (if k then 1 else 0)) H) : rInt1 [.bl k] H Q := .inr ⟨k, rfl, h⟩
local macro_rules | `(tactic| walk_at "st1") => `(tactic| first
  | with_reducible refine r_int1b' ?_)
def sp_law_pairs (_ : PySem.W.Frag) : Sp := fun vs H Q _ => ∃ (s c l : Addr) (q : Int) (zs : List Str), vs = [.ref s, .ref l, .int q] ∧ St s c H ∧ H l = some (.lst (zs.map V.str)) ∧ l ∉ [s, c] ∧ zs.length ≤ 64 ∧ (2 ≤ q ∧ q ≤ 997) ∧
  ∀ (d : Addr) (us : List V) (ps : List Tr) (H' : Hp), Kp [s, c] H H' → St s c H' → H d = none → H' d = some (.lst us) → Trs H' us ps → ps.length ≤ 8 → (∀ x ∈ ps, x.1 ∈ zs) → Q (.ref d) H'
section
variable {P : Program} {w : World} {K : PySem.W.Frag} {mg : Str → Option Value} {base : Heap}
theorem ok_law_pairs (T : Tx K mg) {f_law_draw : Addr} {fd_law_draw : FuncData} (C_law_draw : Cal P w K mg base "_law_draw" 1 ["state", "many"] (sp_law_draw K) s_law_draw f_law_draw fd_law_draw) {f : Addr} {fd : FuncData} (F : Here K mg "_law_pairs" s_law_pairs ["state", "places", "q"] f fd) : Cal P w K mg base "_law_pairs" 2 ["state", "places", "q"] (sp_law_pairs K) s_law_pairs f fd := by
  refine F.cal sc_law_pairs (fun vs H Q E h => ?_) (fun cdv A outer s H vs Q E hr h => ?_)
  · obtain ⟨s, c, l, q, zs, rfl, _⟩ := h
    rfl
  · obtain ⟨s, c, l, q, zs, rfl, hst, hl, nl, lz, hq, fin⟩ := h
    refine ⟨_, (pss_cons (ps_set (i := 3) sc_law_pairs.nd rfl (by first | exact .inl rfl | exact .inr rfl) (pe_lst pa_nil))
      (pss_cons (ps_for PassesOwn.never rfl (pi_range1 (by rfl) T.m_range (pa_cons (pe_op op_mul (pe_call C_law_draw.ok (hr.mono (by decide)) (by rfl) C_law_draw.at_ C_law_draw.kp C_law_draw.b .nil pass0 (pa_cons (pv 0) (pa_cons pe_int pa_nil))) (pe_callTy cr_int1 (by rfl) T.m_int (by decide +kernel) (pa_cons (pe_cmpR (op_neNilK (K := K) (hu_of64 hr)) (pv 1) (pe_lst pa_nil) (nomark _)) pa_nil))) pa_nil)) (pg_name (i := 4) sc_law_pairs.nd rfl (by first | exact .inl rfl | exact .inr rfl)) (pss_cons (ps_set (i := 5) sc_law_pairs.nd rfl (by first | exact .inl rfl | exact .inr rfl) (pe_ix (ix_listK (K := K)) (pv 1) (pe_call C_law_draw.ok (hr.mono (by decide)) (by rfl) C_law_draw.at_ C_law_draw.kp C_law_draw.b .nil pass0 (pa_cons (pv 0) (pa_cons (pe_callB (cr_lenK (K := K)) (by rfl) T.m_len (by decide +kernel) (pa_cons (pv 1) pa_nil)) pa_nil))) (fun _ _ => rfl)))
      (pss_cons (ps_set (i := 6) sc_law_pairs.nd rfl (by first | exact .inl rfl | exact .inr rfl) (pe_lst (pa_cons (pe_op op_sub (pe_call C_law_draw.ok (hr.mono (by decide)) (by rfl) C_law_draw.at_ C_law_draw.kp C_law_draw.b .nil pass0 (pa_cons (pv 0) (pa_cons pe_int pa_nil))) pe_int) (pa_cons (pv 2) (pa_cons (pe_un un_neg (pv 2)) (pa_cons (pe_op op_sub (pe_op op_pow pe_int pe_int) (pe_call C_law_draw.ok (hr.mono (by decide)) (by rfl) C_law_draw.at_ C_law_draw.kp C_law_draw.b .nil pass0 (pa_cons (pv 0) (pa_cons pe_int pa_nil)))) (pa_cons (pe_op op_sub (pe_call C_law_draw.ok (hr.mono (by decide)) (by rfl) C_law_draw.at_ C_law_draw.kp C_law_draw.b .nil pass0 (pa_cons (pv 0) (pa_cons (pe_op op_pow pe_int pe_int) pa_nil))) (pe_op op_pow pe_int pe_int)) pa_nil)))))))
      (pss_one (ps_expr (castBM (K := K) (pe_bm PySem.F.plainAttrs_list PySem.F.slot_list_append PySem.F.type_list_append mt_append (pv 3) (pa_cons (pe_tup (pa_cons (pv 5) (pa_cons (pe_ix (ix_listK (K := K)) (pv 6) (pe_call C_law_draw.ok (hr.mono (by decide)) (by rfl) C_law_draw.at_ C_law_draw.kp C_law_draw.b .nil pass0 (pa_cons (pv 0) (pa_cons pe_int pa_nil))) (fun _ _ => rfl)) pa_nil))) pa_nil))))))))
      (pss_one (ps_ret (pv 3))))), ?_⟩
    walk_at "st"
    intro lc hlc
    have olc := hst.out hlc
    walk_at "st"
    refine ⟨s, c, 9, rfl, by walk_at "stt", by omega, fun d1 H1 k1 st1 hd1 => ?_⟩
    have el1 : H1 l = some (.lst (zs.map V.str)) := k1 _ _ (hl_new hl hlc) nl
    have ec1 : H1 lc = some (.lst []) := k1 _ _ upd_same olc
    have K1 : Kp [s, c] H H1 := (Kp.new hlc).trans k1
    walk_at "st"
    intro p hp
    have op := st1.out hp
    walk_at "st"
    have S1 : Same H1 (upd H1 p (.lst [])) := Same.upd_new hp
    have el2 := S1 _ _ el1
    have ec2 := S1 _ _ ec1
    have K2 := K1.trans (Kp.ofSame S1)
    have st2 := st1.same S1
    clear el1 ec1 K1 st1 k1
    generalize upd H1 p (.lst []) = H2 at *
    have bd : 0 ≤ d1 * (if (!(zs.map V.str).isEmpty) = true then (1 : Int) else 0) ∧ d1 * (if (!(zs.map V.str).isEmpty) = true then (1 : Int) else 0) ≤ 8 := by
      split <;> omega
    have nz0 : ∀ i : Nat, i < (d1 * (if (!(zs.map V.str).isEmpty) = true then (1 : Int) else 0)).toNat → 0 < zs.length := fun i h => by
      cases zs with
      | nil => simp at h
      | cons _ _ => simp
    generalize d1 * (if (!(zs.map V.str).isEmpty) = true then (1 : Int) else 0) = m at *
    walk_at "st"
    refine lp_by (walk_range (lo := 0) (n := m.toNat)) (fun i σ' H' => ∃ x4 x5 x6, σ' = [some (.ref s), some (.ref l), some (.int q), some (.ref lc), x4, x5, x6] ∧ Kp [s, c] H H' ∧ St s c H' ∧ H' l = some (.lst (zs.map V.str)) ∧
      ∃ us ps, H' lc = some (.lst us) ∧ Trs H' us ps ∧ ps.length = i ∧ ∀ x ∈ ps, x.1 ∈ zs) ⟨_, _, _, rfl, K2, st2, el2, [], [], ec2, Trs.nil, rfl, fun x m => by cases m⟩ (fun _ _ _ _ _ => trivial) (fun i x σ' H3 H4 hi g y => ?_) (fun σ' H3 g => ?_)
    · obtain ⟨x4, x5, x6, rfl, k3, st3, el3, us, ps, ec3, hu, lps, mem⟩ := g
      obtain ⟨rfl, rfl⟩ := y
      have hz := nz0 i hi
      have eln : (((zs.map V.str).length : Nat) : Int) = zs.length := by rw [List.length_map]
      walk_at "st"
      refine ⟨s, c, _, rfl, st3, by rw [eln]; omega, fun d5 H5 k5 st5 hd5 => ?_⟩
      obtain ⟨v5, ev5, mv5⟩ := atI_in (xs := zs.map V.str) hd5.1 hd5.2
      obtain ⟨z, mz, rfl⟩ := List.mem_map.mp mv5
      have el5 : H5 l = some (.lst (zs.map V.str)) := k5 _ _ el3 nl
      walk_at "st"
      refine ⟨s, c, 7, rfl, st5, by omega, fun d6 H6 k6 st6 hd6 => ?_⟩
      walk_at "st"
      refine ⟨s, c, 99, rfl, st6, by omega, fun d7 H7 k7 st7 hd7 => ?_⟩
      have e6 : (10 : Int) ^ (6 : Int).toNat = 1000000 := by decide
      walk_at "st"
      refine ⟨s, c, _, rfl, st7, by rw [e6]; omega, fun d8 H8 k8 st8 hd8 => ?_⟩
      walk_at "st"
      intro lf hlf
      have olf := st8.out hlf
      walk_at "st"
      refine ⟨s, c, 5, rfl, by walk_at "stt", by omega, fun d9 H9 k9 st9 hd9 => ?_⟩
      have e9 := k9 _ _ upd_same olf
      obtain ⟨v9, ev9, mv9⟩ := atI_in (xs := [V.int (d6 - 3), V.int q, V.int (-q), V.int (10 ^ (9 : Int).toNat - d7), V.int (d8 - 10 ^ (6 : Int).toNat)]) hd9.1 (by simpa using hd9.2)
      obtain ⟨k, rfl⟩ : ∃ k, v9 = V.int k := by
        simp at mv9
        rcases mv9 with h | h | h | h | h <;> exact ⟨_, h⟩
      have kk := (((k5.trans k6).trans k7).trans k8).trans ((Kp.new hlf (x := .lst [V.int (d6 - 3), V.int q, V.int (-q), V.int (10 ^ (9 : Int).toNat - d7), V.int (d8 - 10 ^ (6 : Int).toNat)])).trans k9)
      have T9 := Tups.st kk st3
      have ec9 := kk _ _ ec3 olc
      have el9 := kk _ _ el3 nl
      walk_at "st"
      intro t ht
      have ect := hl_new ec9 ht (u := .tup [V.str z, V.int k])
      have lu : us.length ≤ 8 := by rw [hu.1, lps]; omega
      walk_at "st"
      have nlc : l ≠ lc := fun e => by
        rw [e] at el2
        rw [ec2] at el2
        have : zs.map V.str = [] := by injection el2 with el2; injection el2 with el2; exact el2.symm
        cases zs with
        | nil => simp at hz
        | cons _ _ => simp at this
      refine ⟨_, _, _, rfl, (((k3.trans kk).trans (Kp.new ht)).own hlc), (st9.new ht).set olc, hl_set nlc (hl_new el9 ht), us ++ [.ref t], ps ++ [(z, k)], upd_same, ?_, by simp [lps], fun x m => ?_⟩
      · exact ((hu.to (T9.trans (Tups.same (Same.upd_new ht)))).append (Trs.one ⟨t, rfl, upd_same⟩)).to (Tups.lst ect)
      · rcases List.mem_append.mp m with m | m
        · exact mem x m
        · rw [List.mem_singleton.mp m]; exact mz
    · obtain ⟨x4, x5, x6, rfl, k3, st3, el3, us, ps, ec3, hu, lps, mem⟩ := g
      walk_at "st"
      exact fin lc us ps _ k3 st3 hlc ec3 hu (by omega) mem
end
/-! ### a tuple backwards -/
theorem adjust_back (n : Nat) : Builtin.Slice.sliceAdjust none none (-1) (n : Int) = ((n : Int) - 1, -1) := by
  unfold Builtin.Slice.sliceAdjust
  simp
theorem places_back (n : Nat) : Builtin.Slice.slicePlaces ((n : Int) - 1) (-1) (-1) = n := by
  unfold Builtin.Slice.slicePlaces
  simp
  split <;> omega
theorem pick_back (xs : Array Value) : ((List.range xs.size).filterMap fun (m : Nat) => xs[(((xs.size : Int) - 1) + (m : Int) * (-1)).toNat]?).toArray = xs.toList.reverse.toArray := by
  have e : ((List.range xs.size).filterMap fun (m : Nat) => xs[(((xs.size : Int) - 1) + (m : Int) * (-1)).toNat]?) = ((List.range xs.size).map fun (m : Nat) => (((xs.size : Int) - 1) + (m : Int) * (-1)).toNat).filterMap (xs[·]?) := by
    rw [List.filterMap_map]; rfl
  have e2 : ((List.range xs.size).map fun (m : Nat) => (((xs.size : Int) - 1) + (m : Int) * (-1)).toNat) = (List.range xs.size).map fun k => xs.size - 1 - k := List.map_congr_left fun m hm => by
    have := List.mem_range.mp hm
    omega
  rw [e, e2, PySem.W.krv_range, List.filterMap_reverse, PySem.W.krv_all]
theorem applied_back {prog : Program} {w : World} {A : Around} {E : Value → Shared → Prop} {s : Shared} {sl : Addr} {v1 v2 v3 : Value} {n : Nat} {Q : Int × Int × Nat → Shared → Prop} (sli : s.heap.IsSliceOf sl v1 v2 v3) (lo : IsPart v1 none) (up : IsPart v2 none) (st : IsPart v3 (some (-1)))
    (h : Q ((n : Int) - 1, -1, n) s) : wpAny (model prog w) A (Builtin.Slice.sliceApplied (.ref sl) (pure (n : Int))) Q E s := by
  obtain ⟨oS, atS, clS, daS⟩ := id sli
  unfold Builtin.Slice.sliceApplied Builtin.Slice.sliceFields
  refine wpAny_bind (wpAny_bind (wpAny_field atS daS (x := v1) rfl (wpAny_bind (wpAny_field atS daS (x := v2) rfl (wpAny_bind (wpAny_field atS daS (x := v3) rfl (wpAny_pure ?_)))))))
  refine wpAny_bind (HT.slicePart_ st ?_)
  show wpAny _ _ (if ((-1 : Int) == 0) = true then _ else _) _ _ s
  rw [if_neg (by decide)]
  refine wpAny_bind (HT.slicePart_ lo (wpAny_bind (HT.slicePart_ up (wpAny_bind (wpAny_pure ?_)))))
  show wpAny _ _ (match Builtin.Slice.sliceAdjust none none (-1) (n : Int) with | (lo, hi) => pure (lo, (-1 : Int), Builtin.Slice.slicePlaces lo hi (-1))) _ _ s
  rw [adjust_back n]
  show wpAny _ _ (pure ((n : Int) - 1, (-1 : Int), Builtin.Slice.slicePlaces ((n : Int) - 1) (-1) (-1))) _ _ s
  rw [places_back]
  exact wpAny_pure h
theorem getItem_back {prog : Program} {w : World} {A : Around} {E : Value → Shared → Prop} {s : Shared} {t sl : Addr} {items : Array Value} {v1 v2 v3 : Value} {Q : Value → Shared → Prop} (tup : IsTup s.heap t items) (sli : s.heap.IsSliceOf sl v1 v2 v3) (lo : IsPart v1 none) (up : IsPart v2 none) (st : IsPart v3 (some (-1)))
    (h : Q (.ref s.heap.objs.size) { s with heap := s.heap.push { cls := .type "tuple", data := .seq items.toList.reverse.toArray } }) (room : items.size ≤ sizeLine) : wpAny (model prog w) A (getItem (.ref t) (.ref sl)) Q E s := by
  have big : sizeOk (.seq items.toList.reverse.toArray) := by
    show items.toList.reverse.toArray.size ≤ sizeLine
    rw [List.size_toArray, List.length_reverse, Array.length_toList]; exact room
  obtain ⟨oS, atS, clS, daS⟩ := id sli
  have isSl : s.TypeIs (.ref sl) "slice" := ⟨oS, atS, clS⟩
  unfold getItem
  try with_reducible refine wpAny_holding ?_
  first | refine wpAny_bind (wpAny_pure ?_) | skip
  refine wpAny_bind (wpAny_sequenceKey tup.typeIs (by decide) ?_)
  refine wpAny_bind (wpAny_callSpecial?_slot (name := Str.ofString "__getitem__") tup.typeIs PyProof.Rows.slot_tuple_getitem (wpAny_call_entry PyProof.Rows.slot_tuple_getitem (hT := tup.typeIs) (hb := entry_tuple_getitem) ?_ (ha := args_tuple_getitem _ _)))
  show wpAny _ _ (Builtin.Tuple.tupleItemsOf (.ref t) >>= _) _ _ s
  refine wpAny_bind (tupleItemsOf_ tup ?_)
  refine wpAny_bind (wpAny_typeOf isSl ?_)
  rw [if_pos (by decide)]
  refine wpAny_bind (applied_back (n := items.size) sli lo up st ?_)
  have notAll : ¬ ((((items.size : Int) - 1) == 0 && (-1 : Int) == 1 && items.size == items.size) = true) := by simp
  show wpAny _ _ (if (((items.size : Int) - 1) == 0 && (-1 : Int) == 1 && items.size == items.size) = true then _ else _) _ _ s
  rw [if_neg notAll, pick_back]
  first
    | exact wpAny_bind (m := Builtin.Tuple.tupleExact _) (wpAny_newObj_type (wpAny_pure ⟨_, rfl, wpAny_pure h⟩) big)
    | exact wpAny_bind (m := Builtin.Tuple.tupleExact _) (wpAny_newObj_type (wpAny_bind (wpAny_pure (wpAny_pure ⟨_, rfl, wpAny_pure h⟩))) big)
    | exact wpAny_bind (wpAny_bind (m := Builtin.Tuple.tupleExact _) (wpAny_newObj_type (wpAny_pure (wpAny_pure ⟨_, rfl, wpAny_pure h⟩)) big))
    | exact wpAny_bind (wpAny_bind (m := Builtin.Tuple.tupleExact _) (wpAny_newObj_type (wpAny_pure ⟨_, rfl, wpAny_pure h⟩) big))
def tRevT (K : PySem.W.Frag) (te : TE) : TE := fun σ H Q => te σ H fun x H1 => ∃ a xs, x = .ref a ∧ SqT K H1 a xs ∧ ∀ p, H1 p = none → Q (.ref p) (upd H1 p (.tup xs.reverse))
theorem pe_revT {X : Cx} {e : Expr} {te : TE} {k : Nat} {p1 p2 p3 pos : Pos} (he : PE X e te) : PE X (.Subscript e (.Slice none none (some (.UnaryOp .USub (.Constant (.int 1) k p1) p2)) p3) pos) (tRevT X.K te) := by
  refine ⟨fun pins s σ H Q I h => Subscript_ (thn (he.run pins s σ H _ I h) fun v s1 z => ?_)⟩
  obtain ⟨x, H1, I1, r1, a, xs, rfl, seq, q⟩ := z
  cases r1
  have back : PO X (some (.UnaryOp .USub (.Constant (.int 1) k p1) p2)) (tPart (tUn (rU fun i => .int (-i)) (tC (.int 1)))) := po_some (pe_un un_neg pe_int)
  refine wpAny_Slice (thn (po_none.run pins s1 σ H1 (fun o H2 => o = none ∧ H2 = H1) I1 ⟨rfl, rfl⟩) fun v1 s2 z => ?_)
  obtain ⟨l, H2, J2, lo, rfl, rfl⟩ := z
  refine thn (po_none.run pins s2 σ H2 (fun o H3 => o = none ∧ H3 = H2) J2 ⟨rfl, rfl⟩) fun v2 s3 z => ?_
  obtain ⟨u, H3, J3, up, rfl, rfl⟩ := z
  refine thn (back.run pins s3 σ H3 (fun o H4 => o = some (-1) ∧ H4 = H3) J3 ⟨1, rfl, -1, rfl, rfl, rfl⟩) fun v3 s4 z => ?_
  obtain ⟨o, H4, J4, st, rfl, rfl⟩ := z
  have J5 : Inv X pins σ H4 { s4 with heap := s4.heap.push { cls := .type "slice", data := .fields #[v1, v2, v3] } } := J4.kept (t' := s4.toks) fun b ob q => Heap.get?_push_of_some _ q
  obtain ⟨its, r, tup, room⟩ := J5.tuple seq
  have hlen := r.length
  show wpAny (model X.prog X.w) X.A (subscriptTail e (.Slice none none (some (.UnaryOp .USub (.Constant (.int 1) k p1) p2)) p3) (.ref a) (.ref s4.heap.objs.size)) (EP X pins σ Q) X.xe { s4 with heap := s4.heap.push { cls := .type "slice", data := .fields #[v1, v2, v3] } }
  refine tail_any (ops := [.ref a, .ref s4.heap.objs.size]) tup.typeIs (PyProof.Rows.slot_tuple_getitem.lookup) ?_ (by with_unfolding_all rfl)
  refine getItem_back tup (Heap.IsSliceOf.new _ v1 v2 v3) lo up st ?_ (by rw [List.size_toArray]; omega)
  refine ⟨.ref _, _, J5.laid (t' := s4.toks) (o := .tup xs.reverse) (fun b ob q => Heap.get?_push_of_some _ q) (Nat.le_refl _) ?_, rfl, q _ (J5.hok.fresh (Nat.le_refl _))⟩
  exact ⟨by rw [List.length_reverse]; exact room, _, r.reverse, IsTup.new _ _⟩
theorem castRT {X : Cx} {K : PySem.W.Frag} {e : Expr} {te : TE} (h : PE X e (tRevT X.K te)) (q : X.K = K := by rfl) : PE X e (tRevT K te) := q ▸ h
/-! ### a text taken several times -/
def repS (z : Str) (n : Nat) : Str := ⟨(List.replicate n z.cps).foldl (· ++ ·) #[]⟩
def rMulS : R2 := fun x y H Q => ∃ (z : Str) (k : Int), x = .str z ∧ y = .int k ∧ (2 ≤ k ∧ k ≤ 1000) ∧ (1 ≤ z.length ∧ z.length ≤ 1000) ∧ (repS z k.toNat).length ≤ sizeLine ∧ Q (.str (repS z k.toNat)) H
theorem op_mulS {X : Cx} : OpR X (binaryOp .Mult) rMulS := by
  intro pins s σ H x y v u Q I rx ry h
  obtain ⟨z, k, rfl, rfl, hk, hz, hl, q⟩ := h
  obtain ⟨t, rfl⟩ := rx
  obtain ⟨t', rfl⟩ := ry
  have c1 : ¬ k < 1 := by omega
  have c2 : (k == 1 || z.length == 0) = false := by
    rw [Bool.or_eq_false_iff]
    exact ⟨beq_eq_false_iff_ne.mpr (by omega), beq_eq_false_iff_ne.mpr (by omega)⟩
  refine PySem.P.mul_str ?_ (fun _ _ => ?_) (fun _ _ => ?_) ?_
  · rw [decide_eq_false (by omega), decide_eq_false (by omega)]; rfl
  · have : (1000 : Int) ≤ (2 ^ 63 - 1) / k := (Int.le_ediv_iff_mul_le (by omega)).mpr (by omega)
    omega
  · exact decide_eq_false (Nat.not_lt.mpr (Nat.le_trans (Nat.mul_le_mul hz.2 (show k.toNat ≤ 1000 by omega)) (by decide)))
  · rw [if_neg c1, if_neg (by rw [c2]; decide)]
    exact ⟨hl, ⟨.str (repS z k.toNat), H, I.tok _, ⟨_, rfl⟩, q⟩⟩
theorem r_mulS {z : Str} {k : Int} {H : Hp} {Q : VK} (hk : 2 ≤ k ∧ k ≤ 1000) (hz : 1 ≤ z.length ∧ z.length ≤ 1000) (hl : (repS z k.toNat).length ≤ sizeLine) (q : Q (.str (repS z k.toNat)) H) : rMulS (.str z) (.int k) H Q := ⟨z, k, rfl, rfl, hk, hz, hl, q⟩
local macro_rules | `(tactic| walk_at "ssz") => `(tactic| first | decide | exact str_small (by assumption) | (have : (1000000 : Nat) ≤ sizeLine := (by decide); omega))
local macro_rules | `(tactic| walk_at "st1") => `(tactic| first
  | with_reducible refine' r_nt ?_ | with_reducible refine' r_nf ?_
  | ((with_reducible refine r_lenS ?e1 ?_); (case e1 => walk_at "ssz"))
  | with_reducible refine r_inS ?_
  | with_reducible refine r_ninS ?_
  | ((with_reducible refine r_addS ?e1 ?_); (case e1 => walk_at "ssz"))
  | ((with_reducible refine' r_ixS ?e1 ?e2 ?_); (case e1 => walk_at "ssz"); (case e2 => first | assumption | rfl))
  | with_reducible refine r_istr ?_
  | with_reducible refine r_is ?_
  | with_reducible refine r_un ?_
  | with_reducible refine r_u ?_)
local macro_rules | `(tactic| walk_at "st1") => `(tactic| first
  | with_reducible refine r_par ?_
  | with_reducible refine r_parx ?_
  | ((with_reducible refine' r_gtup ?e1 ?e2 ?_); (case e1 => walk_at "sq"); (case e2 => rfl))
  | with_reducible refine r_gcons ?_
  | with_reducible refine r_gnil ?_
  | with_reducible refine r_disp ?_
  | with_reducible refine r_tp1 ?_
  | with_reducible refine r_tp0 ?_
  | ((with_reducible refine' r_dp1 ?e1 ?_); (case e1 => walk_at "hl"))
  | with_reducible refine r_dnewK ?_
  | with_reducible refine r_dget2 ?_
  | ((with_reducible refine' r_dg2 ?e1 ?_); (case e1 => walk_at "hl"))
  | ((with_reducible refine' r_dg3 ?e1 ?_); (case e1 => walk_at "hl"))
  | with_reducible refine r_dget ?_
  | ((with_reducible refine' r_dgv ?e1 ?e2 ?_); (case e1 => walk_at "hl"); (case e2 => assumption))
  | ((with_reducible refine' r_setD ?e1 ?e2 ?_); (case e1 => walk_at "hl"); (case e2 => omega)))
theorem op_neNilT {X : Cx} (hu : X.A.units + 64 < cLine) : OpR X (compareOp .NotEq) (rNilT X.K not) := by
  intro pins s σ H x y v u Q I rx ry h
  obtain ⟨a, b, xs, rfl, rfl, h1, h2, q⟩ := h
  cases rx; cases ry
  obtain ⟨its, rv, p1, _⟩ := I.tuple h1
  obtain ⟨its2, rv2, p2, _⟩ := I.tuple h2
  cases rv2
  have e1 : xs.length = its.length := rv.length
  have fin : ∀ b : Bool, b = xs.isEmpty → EP X pins σ Q (.bool (!b)) s := fun b e => ⟨.bl (!xs.isEmpty), H, I, by rw [e]; rfl, q⟩
  cases xs with
  | nil =>
    cases rv
    exact PySem.SeqAt.RcNeAt.tuples (e := fun _ => true) p1 p2 (by omega) (fun j _ h => absurd h (Nat.not_lt_zero j)) _ _ _ _ (fin true rfl)
  | cons z zs =>
    cases its with
    | nil => simp at e1
    | cons _ _ => exact PySem.SeqAt.RcNeAt.tuples (e := fun _ => true) p1 p2 (by omega) (fun j _ h => absurd h (Nat.not_lt_zero j)) _ _ _ _ (fin false rfl)
theorem op_neNilTK {X : Cx} {K : PySem.W.Frag} (hu : X.A.units + 64 < cLine) (q : X.K = K := by rfl) : OpR X (compareOp .NotEq) (rNilT K not) := q ▸ op_neNilT hu
def trO (x : Tr) : O := .tup [.str x.1, .int x.2]
theorem FrmV.rep {S : List Addr} {H : Hp} {v : V} {n : Int} {ts : List Tr} (h : FrmV H v n ts) (o : ∀ a xs, H a = some (.tup xs) → a ∉ S) : ∃ a b us, v = .ref a ∧ H a = some (.tup [.int n, .ref b]) ∧ H b = some (.tup us) ∧ a ∉ S ∧ b ∉ S ∧ RepAll S H us (ts.map trO) := by
  obtain ⟨a, b, us, rfl, h1, h2, h3⟩ := h
  refine ⟨a, b, us, rfl, h1, h2, o _ _ h1, o _ _ h2, ?_⟩
  clear h1 h2
  induction us generalizing ts with
  | nil =>
    cases ts with
    | nil => exact .nil
    | cons x ts => have := h3.1; simp at this
  | cons u us ih =>
    cases ts with
    | nil => have := h3.1; simp at this
    | cons x ts =>
      obtain ⟨y, e, t, rfl, ht⟩ := h3.2 0 u rfl
      obtain rfl : x = y := Option.some.inj e
      exact .cons (.tup ht (o _ _ ht) (.cons (.str _) (.cons (.int _) .nil))) (ih ⟨by have := h3.1; simp at this; exact this, fun i v e => h3.2 (i + 1) v (by simpa using e)⟩)
/-- a value of which is_form and the law's own look are to tell the same -/
def OKV (S : List Addr) (H : Hp) (v : V) : Prop := ∃ o, Rep S H v o ∧ smallF o ∧ eqOkF o
theorem OKV.to {S S' : List Addr} {H H' : Hp} {v : V} (h : OKV S H v) (k : Lft S H S' H') : OKV S' H' v := h.imp fun _ z => ⟨z.1.to k, z.2⟩
theorem okv_tup {S : List Addr} {H : Hp} {p : Addr} {vs : List V} {os : List O} (r : RepAll S H vs os) (hp : H p = none) (pS : p ∉ S) (h1 : smallF (.tup os)) (h2 : eqOkF (.tup os)) : OKV S (upd H p (.tup vs)) (.ref p) :=
  ⟨.tup os, .tup upd_same pS (r.to (Lft.new hp)), h1, h2⟩
theorem okv_lst {S : List Addr} {H : Hp} {p : Addr} {vs : List V} {os : List O} (r : RepAll S H vs os) (hp : H p = none) (pS : p ∉ S) : OKV S (upd H p (.lst vs)) (.ref p) :=
  ⟨.lst os, .lst upd_same pS (r.to (Lft.new hp)), trivial, trivial⟩
/-- terms that may stand in a form -/
def OkTs (ts : List O) : Prop := ts.length ≤ 900 ∧ ∀ t ∈ ts, smallT t ∧ eqOkT t
theorem okTs_form {a : O} {ts : List O} (h : OkTs ts) : smallF (.tup [a, .tup ts]) ∧ eqOkF (.tup [a, .tup ts]) := ⟨⟨by have := h.1; omega, fun t m => (h.2 t m).1⟩, fun t m => (h.2 t m).2⟩
theorem smallS_good {z : Str} (h : goodW (cs z)) : smallS (.str z) := by
  have := h.2.1
  rw [cs_len] at this
  show z.length ≤ 1000
  omega
theorem okTs_terms {q : Int} {ts : List Tr} (h : TermsOk q ts) (l : ts.length ≤ 64) : OkTs (ts.map trO) := by
  refine ⟨by rw [List.length_map]; omega, fun t m => ?_⟩
  obtain ⟨x, hx, rfl⟩ := List.mem_map.mp m
  exact ⟨smallS_good (h.ok x hx).1, trivial⟩
theorem allv_new {S : List Addr} {H : Hp} {p : Addr} {x : HO} {vs : List V} (h : ∀ v ∈ vs, OKV S H v) (hp : H p = none) (k : OKV S (upd H p x) (.ref p)) : ∀ v ∈ V.ref p :: vs, OKV S (upd H p x) v := fun v m => by
  rcases List.mem_cons.mp m with rfl | m
  · exact k
  · exact (h v m).to (Lft.new hp)
/-- what is free is outside of what stood -/
theorem out_of {S : List Addr} {s c : Addr} {H H' : Hp} (aS : ∀ a ∈ S, ∃ xs, H a = some (.lst xs)) (k : Kp [s, c] H H') (t : St s c H') {p : Addr} (hp : H' p = none) : p ∉ S := fun m => by
  obtain ⟨xs, e⟩ := aS p m
  by_cases g : p ∈ [s, c]
  · exact t.out hp g
  · rw [k _ _ e g] at hp; cases hp
/-- a piece that may stand among a form's terms -/
def OKP (S : List Addr) (H : Hp) (v : V) : Prop := ∃ o, Rep S H v o ∧ smallT o ∧ eqOkT o
theorem RepAll.rev {S : List Addr} {H : Hp} {vs : List V} {os : List O} (r : RepAll S H vs os) : RepAll S H vs.reverse os.reverse := by
  induction vs generalizing os with
  | nil => cases r; exact .nil
  | cons v vs ih =>
    cases r with
    | cons a b =>
      rw [List.reverse_cons, List.reverse_cons]
      exact (ih b).append (.cons a .nil)
structure BB (T : List Addr) (s c b : Addr) (us : List V) (os : List O) (vo vn : V) (oo on : O) (H0 H : Hp) (vs ps : List V) : Prop where
  kp : Kp [s, c] H0 H
  st : St s c H
  sT : s ∈ T
  cT : c ∈ T
  out : ∀ p, H p = none → p ∉ T
  hb : H b = some (.tup us)
  bN : b ∉ T
  rT : RepAll T H us os
  ro : Rep T H vo oo
  rn : Rep T H vn on
  al : ∀ v ∈ vs, OKV T H v
  pl : ∀ v ∈ ps, OKP T H v
section
variable {T : List Addr} {s c b p : Addr} {us : List V} {os : List O} {vo vn : V} {oo on : O} {H0 H : Hp} {vs ps : List V}
theorem BB.lft (h : BB T s c b us os vo vn oo on H0 H vs ps) {T' : List Addr} {H' : Hp} (k : Lft T H T' H') (kp : Kp [s, c] H0 H') (st : St s c H') (sT : s ∈ T') (cT : c ∈ T') (out : ∀ p, H' p = none → p ∉ T') : BB T' s c b us os vo vn oo on H0 H' vs ps where
  kp := kp
  st := st
  sT := sT
  cT := cT
  out := out
  hb := (k _ _ h.hb h.bN).1
  bN := (k _ _ h.hb h.bN).2
  rT := h.rT.to k
  ro := h.ro.to k
  rn := h.rn.to k
  al := fun v m => (h.al v m).to k
  pl := fun v m => (h.pl v m).imp fun _ z => ⟨z.1.to k, z.2⟩
theorem free_upd {H : Hp} {p q : Addr} {x : HO} (h : upd H p x q = none) : H q = none ∧ q ≠ p := by
  by_cases e : q = p
  · subst e; rw [upd_same] at h; cases h
  · refine ⟨?_, e⟩
    cases g : H q with
    | none => rfl
    | some o => rw [hl_set e g] at h; cases h
theorem BB.up (h : BB T s c b us os vo vn oo on H0 H vs ps) (hp : H p = none) (x : HO) : BB T s c b us os vo vn oo on H0 (upd H p x) vs ps :=
  h.lft (Lft.new hp) (h.kp.trans (Kp.new hp)) (h.st.new hp) h.sT h.cT fun q e => h.out q (free_upd e).1
theorem BB.step (h : BB T s c b us os vo vn oo on H0 H vs ps) {H' : Hp} (k : Kp [s, c] H H') (st : St s c H') : BB T s c b us os vo vn oo on H0 H' vs ps :=
  h.lft (Lft.kp k fun a m => by
    rcases List.mem_cons.mp m with rfl | m
    · exact h.sT
    · rw [List.mem_singleton.mp m]; exact h.cT) (h.kp.trans k) st h.sT h.cT fun q e m => by
    cases g : H q with
    | none => exact h.out q g m
    | some o =>
      by_cases z : q ∈ [s, c]
      · exact st.out e z
      · rw [k _ _ g z] at e; cases e
theorem BB.val (h : BB T s c b us os vo vn oo on H0 H vs ps) {v : V} (k : OKV T H v) : BB T s c b us os vo vn oo on H0 H (v :: vs) ps :=
  { h with al := List.forall_mem_cons.mpr ⟨k, h.al⟩ }
theorem BB.valp (h : BB T s c b us os vo vn oo on H0 H vs ps) {v : V} (k : OKP T H v) : BB T s c b us os vo vn oo on H0 H vs (v :: ps) :=
  { h with pl := List.forall_mem_cons.mpr ⟨k, h.pl⟩ }
theorem BB.tup (h : BB T s c b us os vo vn oo on H0 H vs ps) (hp : H p = none) {xs : List V} {qs : List O} (r : RepAll T H xs qs) (f : smallF (.tup qs) ∧ eqOkF (.tup qs)) : BB T s c b us os vo vn oo on H0 (upd H p (.tup xs)) (.ref p :: vs) ps :=
  (h.up hp _).val ⟨.tup qs, .tup upd_same (h.out p hp) (r.to (Lft.new hp)), f⟩
theorem BB.lst (h : BB T s c b us os vo vn oo on H0 H vs ps) (hp : H p = none) {xs : List V} {qs : List O} (r : RepAll T H xs qs) : BB T s c b us os vo vn oo on H0 (upd H p (.lst xs)) (.ref p :: vs) ps :=
  (h.up hp _).val ⟨.lst qs, .lst upd_same (h.out p hp) (r.to (Lft.new hp)), trivial, trivial⟩
theorem BB.tupp (h : BB T s c b us os vo vn oo on H0 H vs ps) (hp : H p = none) {xs : List V} {qs : List O} (r : RepAll T H xs qs) (f : smallT (.tup qs) ∧ eqOkT (.tup qs)) : BB T s c b us os vo vn oo on H0 (upd H p (.tup xs)) vs (.ref p :: ps) :=
  (h.up hp _).valp ⟨.tup qs, .tup upd_same (h.out p hp) (r.to (Lft.new hp)), f⟩
theorem BB.lstp (h : BB T s c b us os vo vn oo on H0 H vs ps) (hp : H p = none) {xs : List V} {qs : List O} (r : RepAll T H xs qs) : BB T s c b us os vo vn oo on H0 (upd H p (.lst xs)) vs (.ref p :: ps) :=
  (h.up hp _).valp ⟨.lst qs, .lst upd_same (h.out p hp) (r.to (Lft.new hp)), trivial, trivial⟩
theorem BB.own (h : BB T s c b us os vo vn oo on H0 H vs ps) (hp : H p = none) (x : HO) : BB (p :: T) s c b us os vo vn oo on H0 (upd H p x) vs ps :=
  h.lft (Lft.own hp) (h.kp.trans (Kp.new hp)) (h.st.new hp) (List.mem_cons_of_mem _ h.sT) (List.mem_cons_of_mem _ h.cT) fun q e m => by
    have z := free_upd e
    rcases List.mem_cons.mp m with m | m
    · exact z.2 m
    · exact h.out q z.1 m
theorem BB.set (h : BB T s c b us os vo vn oo on H0 H vs ps) (m : p ∈ T) (o : p ∉ [s, c]) (n : H0 p = none) (x : HO) : BB T s c b us os vo vn oo on H0 (upd H p x) vs ps :=
  h.lft (Lft.set m) (fun q y e g => hl_set (ne_of_none e n) (h.kp q y e g)) (h.st.set o) h.sT h.cT fun q e => h.out q (free_upd e).1
theorem BB.re (h : BB T s c b us os vo vn oo on H0 H vs ps) {vs' ps' : List V} (m : ∀ v ∈ vs', v ∈ vs) (n : ∀ v ∈ ps', v ∈ ps) : BB T s c b us os vo vn oo on H0 H vs' ps' :=
  { h with al := fun v e => h.al v (m v e), pl := fun v e => h.pl v (n v e) }
theorem BB.rb (h : BB T s c b us os vo vn oo on H0 H vs ps) : Rep T H (.ref b) (.tup os) := .tup h.hb h.bN h.rT
/-- a sum of tuples, whichever way it is made -/
theorem BB.cat {K : PySem.W.Frag} {Q : VK} {x y : Addr} {xs ys : List V} {qs rs : List O} (h : BB T s c b us os vo vn oo on H0 H vs ps) (h1 : H x = some (.tup xs)) (h2 : H y = some (.tup ys)) (xN : x ∉ T) (yN : y ∉ T) (r1 : RepAll T H xs qs) (r2 : RepAll T H ys rs) (l : xs.length + ys.length ≤ sizeLine)
    (fin : ∀ v H' zs, BB T s c b us os vo vn oo on H0 H' vs ps → (∀ a o, H a = some o → H' a = some o) → H' v = some (.tup zs) → v ∉ T → RepAll T H' zs (qs ++ rs) → zs.length = xs.length + ys.length → Q (.ref v) H') : rCatA K (.ref x) (.ref y) H Q := by
  refine ⟨x, y, xs, ys, rfl, rfl, SqT.of h1, SqT.of h2, l, fun e => ?_, fun _ e => ?_, fun _ _ p hp => ?_⟩
  · subst e
    cases r1
    exact fin y H ys h (fun _ _ e => e) h2 yN r2 (by simp)
  · subst e
    cases r2
    exact fin x H xs h (fun _ _ e => e) h1 xN (by rw [List.append_nil]; exact r1) (by simp)
  · exact fin p _ _ (h.up hp _) (fun a o e => hl_new e hp) upd_same (h.out p hp) ((r1.append r2).to (Lft.new hp)) (by simp)
end
theorem okTs_self {ts : List Tr} : smallF (.tup (ts.map trO)) ∧ eqOkF (.tup (ts.map trO)) := by
  match ts with
  | [] => exact ⟨trivial, trivial⟩
  | [_] => exact ⟨trivial, trivial⟩
  | [_, y] => exact ⟨⟨by simp, fun t m => by
      rcases List.mem_cons.mp m with rfl | m
      · exact trivial
      · rw [List.mem_singleton.mp m]; exact trivial⟩, fun t m => by
      rcases List.mem_cons.mp m with rfl | m
      · exact trivial
      · rw [List.mem_singleton.mp m]; exact trivial⟩
  | _ :: _ :: _ :: _ => exact ⟨trivial, trivial⟩
theorem OkTs.both {a : O} {xs ys : List O} (h : ∀ t ∈ xs ++ ys, smallT t ∧ eqOkT t) (l : (xs ++ ys).length ≤ 900) : smallF (.tup [a, .tup (xs ++ ys)]) ∧ eqOkF (.tup [a, .tup (xs ++ ys)]) := okTs_form ⟨l, h⟩
theorem good_eqOk {z : Str} (h : goodW (cs z)) : eqOk (.str z) := by
  show z.cps.all _ = true
  rw [← Array.all_toList, List.all_eq_true]
  exact fun x m => List.all_eq_true.mp signs_ok x (h.2.2.2 x m)
theorem sIx_nat (m d j : Nat) : HT.sIx m d (some (j : Int)) = min j m := by simp [HT.sIx]; omega
def sp_law_bent (_ : PySem.W.Frag) : Sp := fun vs H Q _ => ∃ (S : List Addr) (s c : Addr) (v : V) (n q : Int) (ts : List Tr), vs = [.ref s, v, .int q] ∧ St s c H ∧ s ∈ S ∧ c ∈ S ∧ (∀ a ∈ S, ∃ xs, H a = some (.lst xs)) ∧ FrmV H v n ts ∧ FormOk q n ts ∧ ts.length ≤ 64 ∧ (2 ≤ q ∧ q ≤ 997) ∧
  ∀ (w : V) (H' : Hp), Kp [s, c] H H' → St s c H' → OKV S H' w → Q w H'
local macro_rules | `(tactic| walk_at "st1") => `(tactic| first
  | ((with_reducible refine' r_mulS ?e1 ?e2 ?e3 ?_); (case e1 => decide); (case e2 => decide); (case e3 => decide)))
section
variable {P : Program} {w : World} {K : PySem.W.Frag} {mg : Str → Option Value} {base : Heap}
theorem ok_law_bent (T : Tx K mg) {f_law_draw : Addr} {fd_law_draw : FuncData} (C_law_draw : Cal P w K mg base "_law_draw" 1 ["state", "many"] (sp_law_draw K) s_law_draw f_law_draw fd_law_draw) {f : Addr} {fd : FuncData} (F : Here K mg "_law_bent" s_law_bent ["state", "lot", "q"] f fd) : Cal P w K mg base "_law_bent" 2 ["state", "lot", "q"] (sp_law_bent K) s_law_bent f fd := by
  refine F.cal sc_law_bent (fun vs H Q E h => ?_) (fun cdv A outer s H vs Q E hr h => ?_)
  · obtain ⟨S, s, c, v, n, q, ts, rfl, _⟩ := h
    rfl
  · obtain ⟨S, s, c, v, n, q, ts, rfl, hst, sS, cS, aS, hf, ok, lts, hq, fin⟩ := h
    have tupS : ∀ a xs, H a = some (.tup xs) → a ∉ S := fun a xs e m => by
      obtain ⟨ys, e2⟩ := aS a m
      rw [e] at e2; cases e2
    obtain ⟨a, b, us, rfl, ha, hb, aN, bN, rus⟩ := hf.rep tupS
    have okT := okTs_terms ok.ok lts
    refine ⟨_, (pss_cons (ps_asg (pv 1) (castPG (K := K) (n := 2) (pg_tup rfl (pgs_cons (pg_name (i := 3) sc_law_bent.nd rfl (by first | exact .inl rfl | exact .inr rfl)) (pgs_cons (pg_name (i := 4) sc_law_bent.nd rfl (by first | exact .inl rfl | exact .inr rfl)) pgs_nil)))))
      (pss_cons (ps_set (i := 5) sc_law_bent.nd rfl (by first | exact .inl rfl | exact .inr rfl) (pe_ix (ix_listK (K := K)) (pe_lst (pa_cons (pv 2) (pa_cons (pe_un un_neg pe_int) (pa_cons pe_bl (pa_cons pe_bl (pa_cons pe_non (pa_cons pe_str (pa_cons (pe_tup (pa_cons pe_int pa_nil)) (pa_cons pe_int (pa_cons (pe_op op_sub (pv 2) pe_int) (pa_cons (pe_op op_pow pe_int pe_int) pa_nil))))))))))) (pe_call C_law_draw.ok (hr.mono (by decide)) (by rfl) C_law_draw.at_ C_law_draw.kp C_law_draw.b .nil pass0 (pa_cons (pv 0) (pa_cons pe_int pa_nil))) (fun _ _ => rfl)))
      (pss_cons (ps_set (i := 6) sc_law_bent.nd rfl (by first | exact .inl rfl | exact .inr rfl) (pe_ix (ix_listK (K := K)) (pe_lst (pa_cons pe_str (pa_cons pe_str (pa_cons pe_str (pa_cons pe_str (pa_cons pe_str (pa_cons (pe_op op_mulS pe_str pe_int) (pa_cons pe_non (pa_cons pe_int (pa_cons (pe_tup (pa_cons pe_str pa_nil)) (pa_cons (pe_op op_mulS pe_str pe_int) (pa_cons pe_str (pa_cons pe_str pa_nil))))))))))))) (pe_call C_law_draw.ok (hr.mono (by decide)) (by rfl) C_law_draw.at_ C_law_draw.kp C_law_draw.b .nil pass0 (pa_cons (pv 0) (pa_cons pe_int pa_nil))) (fun _ _ => rfl)))
      (pss_cons (ps_set (i := 7) sc_law_bent.nd rfl (by first | exact .inl rfl | exact .inr rfl) (pe_lst (pa_cons (pe_tup (pa_cons (pv 5) (pa_cons (pv 4) pa_nil))) (pa_cons (pe_tup (pa_cons (pv 3) (pa_cons (pe_callTy (cr_listOfK (K := K)) (by rfl) T.m_list (by decide +kernel) (pa_cons (pv 4) pa_nil)) pa_nil))) (pa_cons (pe_lst (pa_cons (pv 3) (pa_cons (pv 4) pa_nil))) (pa_cons (pe_tup (pa_cons (pv 3) pa_nil)) (pa_cons (pe_tup (pa_cons (pv 3) (pa_cons (pv 4) (pa_cons pe_int pa_nil)))) (pa_cons (pv 4) (pa_cons (pv 3) (pa_cons pe_non (pa_cons (pe_tup (pa_cons (pv 4) (pa_cons (pv 3) pa_nil))) pa_nil)))))))))))
      (pss_cons (ps_set (i := 7) sc_law_bent.nd rfl (by first | exact .inl rfl | exact .inr rfl) (pe_op op_cat (pv 7) (pe_lst (pa_cons pe_str (pa_cons (pe_tup (pa_cons (pv 3) (pa_cons pe_non pa_nil))) pa_nil)))))
      (pss_cons (ps_set (i := 7) sc_law_bent.nd rfl (by first | exact .inl rfl | exact .inr rfl) (pe_op op_cat (pv 7) (pe_lst (pa_cons (pe_tup (pa_cons (pv 3) (pa_cons (pe_op (op_catAK (K := K)) (pv 4) (pv 4)) pa_nil))) (pa_cons (pe_tup (pa_cons (pv 3) (pa_cons (castRT (K := K) (pe_revT (pv 4))) pa_nil))) (pa_cons (pe_tup (pa_cons (pv 3) (pa_cons (pe_op (op_catAK (K := K)) (pv 4) (pe_tup (pa_cons (pe_tup (pa_cons (pv 6) (pa_cons pe_int pa_nil))) pa_nil))) pa_nil))) (pa_cons (pe_tup (pa_cons (pv 3) (pa_cons (pe_op (op_catAK (K := K)) (pe_tup (pa_cons (pe_tup (pa_cons (pv 6) (pa_cons pe_int pa_nil))) pa_nil)) (pv 4)) pa_nil))) pa_nil)))))))
      (pss_cons (ps_if (pt_cmpR (op_neNilTK (K := K) (hu_of64 hr)) (pv 4) (pe_tup pa_nil) (nomark _)) (pss_cons (ps_set (i := 8) sc_law_bent.nd rfl (by first | exact .inl rfl | exact .inr rfl) (pe_call C_law_draw.ok (hr.mono (by decide)) (by rfl) C_law_draw.at_ C_law_draw.kp C_law_draw.b .nil pass0 (pa_cons (pv 0) (pa_cons (pe_callB (cr_lenK (K := K)) (by rfl) T.m_len (by decide +kernel) (pa_cons (pv 4) pa_nil)) pa_nil))))
      (pss_cons (ps_asg (pe_ix (ix_tupK (K := K)) (pv 4) (pv 8) (fun _ _ => rfl)) (castPG (K := K) (n := 2) (pg_tup rfl (pgs_cons (pg_name (i := 9) sc_law_bent.nd rfl (by first | exact .inl rfl | exact .inr rfl)) (pgs_cons (pg_name (i := 10) sc_law_bent.nd rfl (by first | exact .inl rfl | exact .inr rfl)) pgs_nil)))))
      (pss_cons (ps_set (i := 11) sc_law_bent.nd rfl (by first | exact .inl rfl | exact .inr rfl) (pe_lst (pa_cons (pe_tup (pa_cons (pv 9) (pa_cons (pv 5) pa_nil))) (pa_cons (pe_tup (pa_cons (pv 6) (pa_cons (pv 10) pa_nil))) (pa_cons (pe_tup (pa_cons (pv 9) pa_nil)) (pa_cons (pe_lst (pa_cons (pv 9) (pa_cons (pv 10) pa_nil))) (pa_cons (pe_tup (pa_cons (pv 9) (pa_cons (pv 10) (pa_cons pe_int pa_nil)))) (pa_cons (pv 9) (pa_cons (pe_tup (pa_cons (pv 10) (pa_cons (pv 9) pa_nil))) (pa_cons (pe_tup pa_nil) pa_nil))))))))))
      (pss_one (ps_for PassesOwn.never rfl (pi_listK (K := K) (pv 11)) (pg_name (i := 12) sc_law_bent.nd rfl (by first | exact .inl rfl | exact .inr rfl)) (pss_one (ps_expr (castBM (K := K) (pe_bm PySem.F.plainAttrs_list PySem.F.slot_list_append PySem.F.type_list_append mt_append (pv 7) (pa_cons (pe_tup (pa_cons (pv 3) (pa_cons (pe_op (op_catAK (K := K)) (pe_op (op_catAK (K := K)) (pe_slice (sl_tupAK (K := K)) (pv 4) po_none (po_some (pv 8))) (pe_tup (pa_cons (pv 12) pa_nil))) (pe_slice (sl_tupAK (K := K)) (pv 4) (po_some (pe_op op_add (pv 8) pe_int)) po_none)) pa_nil))) pa_nil)))))))))) pss_nil)
      (pss_one (ps_ret (pe_ix (ix_listK (K := K)) (pv 7) (pe_call C_law_draw.ok (hr.mono (by decide)) (by rfl) C_law_draw.at_ C_law_draw.kp C_law_draw.b .nil pass0 (pa_cons (pv 0) (pa_cons (pe_callB (cr_lenK (K := K)) (by rfl) T.m_len (by decide +kernel) (pa_cons (pv 7) pa_nil)) pa_nil))) (fun _ _ => rfl))))))))))), ?_⟩
    walk_at "st"
    intro p1 hp1
    have nP := out_of aS Kp.refl hst hp1
    have K1 : Kp [s, c] H (upd H p1 (.tup [.int 1])) := Kp.new hp1
    have st1 := hst.new hp1 (x := .tup [.int 1])
    have e1 : upd H p1 (.tup [.int 1]) p1 = some (.tup [.int 1]) := upd_same
    generalize upd H p1 (.tup [.int 1]) = H1 at *
    walk_at "st"
    intro l1 hl1
    have ol1 := st1.out hl1
    walk_at "st"
    refine ⟨s, c, 10, rfl, by walk_at "stt", by omega, fun d2 H2 k2 st2 hd2 => ?_⟩
    have kk := (Kp.new (S := [s, c]) hl1 (x := .lst [V.int q, V.int (-1), V.bl true, V.bl false, V.non, V.str (Str.ofString "1"), V.ref p1, V.int 0, V.int (q - 1), V.int (10 ^ Int.toNat 9)])).trans k2
    have K2 := K1.trans kk
    have e2 := k2 _ _ upd_same ol1
    have Lk : ∀ {A B : Hp}, Kp [s, c] A B → Lft S A S B := fun k => Lft.kp k fun a m => by
      rcases List.mem_cons.mp m with rfl | m
      · exact sS
      · rw [List.mem_singleton.mp m]; exact cS
    have rp1 : Rep S H2 (.ref p1) (.tup [.int 1]) := (Rep.tup (S := S) e1 nP (.cons (.int 1) .nil)).to (Lk kk)
    obtain ⟨v2, ev2, mv2⟩ := atI_in (xs := [V.int q, V.int (-1), V.bl true, V.bl false, V.non, V.str (Str.ofString "1"), V.ref p1, V.int 0, V.int (q - 1), V.int (10 ^ Int.toNat 9)]) hd2.1 (by simpa using hd2.2)
    obtain ⟨oo, roo, so, eo⟩ : ∃ oo, Rep S H2 v2 oo ∧ smallS oo ∧ eqOk oo := by
      simp at mv2
      rcases mv2 with h | h | h | h | h | h | h | h | h | h <;> subst h
      · exact ⟨_, .int _, trivial, trivial⟩
      · exact ⟨_, .int _, trivial, trivial⟩
      · exact ⟨_, .bl _, trivial, trivial⟩
      · exact ⟨_, .bl _, trivial, trivial⟩
      · exact ⟨_, .non, trivial, trivial⟩
      · exact ⟨_, .str _, by show Str.length _ ≤ 1000; decide, by show Array.all _ _ = true; decide +kernel⟩
      · exact ⟨_, rp1, trivial, trivial⟩
      · exact ⟨_, .int _, trivial, trivial⟩
      · exact ⟨_, .int _, trivial, trivial⟩
      · exact ⟨_, .int _, trivial, trivial⟩
    clear mv2 rp1 kk k2 K1 st1 hl1 hp1
    walk_at "st"
    intro p3 hp3
    have nP3 := out_of aS K2 st2 hp3
    have K3 : Kp [s, c] H (upd H2 p3 (.tup [V.str (Str.ofString "a")])) := K2.trans (Kp.new hp3)
    have st3 := st2.new hp3 (x := .tup [V.str (Str.ofString "a")])
    have e3 : upd H2 p3 (.tup [V.str (Str.ofString "a")]) p3 = some (.tup [V.str (Str.ofString "a")]) := upd_same
    have roo3 := roo.to (Lft.new (S := S) hp3 (x := .tup [V.str (Str.ofString "a")]))
    generalize upd H2 p3 (.tup [V.str (Str.ofString "a")]) = H3 at *
    walk_at "st"
    intro l3 hl3
    have ol3 := st3.out hl3
    walk_at "st"
    refine ⟨s, c, 12, rfl, by walk_at "stt", by omega, fun d4 H4 k4 st4 hd4 => ?_⟩
    have e4 := k4 _ _ upd_same ol3
    have L4 := (Lft.new (S := S) hl3 (x := .lst [V.str (Str.ofString ""), V.str (Str.ofString "A"), V.str (Str.ofString "a-b"), V.str (Str.ofString ".a"), V.str (Str.ofString "1a"), V.str (repS (Str.ofString "a") (41 : Int).toNat), V.non, V.int 5, V.ref p3, V.str (repS (Str.ofString "a") (40 : Int).toNat), V.str (Str.ofString "a.."), V.str (Str.ofString "zz")])).trans (Lk k4)
    have K4 := (K3.trans (Kp.new hl3)).trans k4
    have rp3 : Rep S H4 (.ref p3) (.tup [.str (Str.ofString "a")]) := (Rep.tup (S := S) e3 nP3 (.cons (.str _) .nil)).to L4
    have roo4 := roo3.to L4
    obtain ⟨v4, ev4, mv4⟩ := atI_in (xs := [V.str (Str.ofString ""), V.str (Str.ofString "A"), V.str (Str.ofString "a-b"), V.str (Str.ofString ".a"), V.str (Str.ofString "1a"), V.str (repS (Str.ofString "a") (41 : Int).toNat), V.non, V.int 5, V.ref p3, V.str (repS (Str.ofString "a") (40 : Int).toNat), V.str (Str.ofString "a.."), V.str (Str.ofString "zz")]) hd4.1 (by simpa using hd4.2)
    obtain ⟨on, ron, sn⟩ : ∃ on, Rep S H4 v4 on ∧ smallS on := by
      simp at mv4
      rcases mv4 with h | h | h | h | h | h | h | h | h | h | h | h <;> subst h
      · exact ⟨_, .str _, by show Str.length _ ≤ 1000; decide⟩
      · exact ⟨_, .str _, by show Str.length _ ≤ 1000; decide⟩
      · exact ⟨_, .str _, by show Str.length _ ≤ 1000; decide⟩
      · exact ⟨_, .str _, by show Str.length _ ≤ 1000; decide⟩
      · exact ⟨_, .str _, by show Str.length _ ≤ 1000; decide⟩
      · exact ⟨_, .str _, by show Str.length _ ≤ 1000; decide⟩
      · exact ⟨_, .non, trivial⟩
      · exact ⟨_, .int _, trivial⟩
      · exact ⟨_, rp3, trivial⟩
      · exact ⟨_, .str _, by show Str.length _ ≤ 1000; decide⟩
      · exact ⟨_, .str _, by show Str.length _ ≤ 1000; decide⟩
      · exact ⟨_, .str _, by show Str.length _ ≤ 1000; decide⟩
    clear mv4 rp3 k4 K3 st3 hl3 hp3 roo roo3 L4
    have rT : RepAll S H4 us (ts.map trO) := rus.to (Lk K4)
    have hb4 : H4 b = some (.tup us) := (Lk K4 _ _ hb bN).1
    have rb4 : Rep S H4 (.ref b) (.tup (ts.map trO)) := .tup hb4 bN rT
    walk_at "st"
    intro q1 hq1
    have B0 : BB S s c b us (ts.map trO) v2 v4 oo on H H4 [] [] := ⟨K4, st4, sS, cS, fun p e => out_of aS K4 st4 e, hb4, bN, rT, roo4, ron, fun v m => absurd m List.not_mem_nil, fun v m => absurd m List.not_mem_nil⟩
    have B1 := B0.tup hq1 (.cons B0.ro (.cons B0.rb .nil)) (okTs_form okT)
    clear B0 rT hb4 rb4 roo4 ron K4 st4 hd4 e4
    generalize upd H4 q1 (.tup [v2, V.ref b]) = H5 at *
    have hb5 := B1.hb
    walk_at "st"
    intro x1 hx1
    have B2 := B1.up hx1 (.lst us)
    have rx1 : Rep S _ (.ref x1) (.lst (ts.map trO)) := .lst upd_same (B1.out _ hx1) B2.rT
    generalize upd H5 x1 (.lst us) = H6 at *
    have hb6 := B2.hb
    clear B1
    walk_at "st"
    intro q2 hq2
    have B3 := B2.tup hq2 (.cons (.int n) (.cons rx1 .nil)) ⟨trivial, trivial⟩
    generalize upd H6 q2 (.tup [V.int n, V.ref x1]) = H7 at *
    have hb7 := B3.hb
    clear B2
    clear rx1
    walk_at "st"
    intro q3 hq3
    have B4 := B3.lst hq3 (.cons (.int n) (.cons B3.rb .nil))
    generalize upd H7 q3 (.lst [V.int n, V.ref b]) = H8 at *
    have hb8 := B4.hb
    clear B3
    walk_at "st"
    intro q4 hq4
    have B5 := B4.tup hq4 (.cons (.int n) .nil) ⟨trivial, trivial⟩
    generalize upd H8 q4 (.tup [V.int n]) = H9 at *
    have hb9 := B5.hb
    clear B4
    walk_at "st"
    intro q5 hq5
    have B6 := B5.tup hq5 (.cons (.int n) (.cons B5.rb (.cons (.int 0) .nil))) ⟨trivial, trivial⟩
    generalize upd H9 q5 (.tup [V.int n, V.ref b, V.int 0]) = H10 at *
    have hb10 := B6.hb
    clear B5
    walk_at "st"
    intro q6 hq6
    have B7 := ((((B6.tup hq6 (.cons B6.rb (.cons (.int n) .nil)) ⟨trivial, trivial⟩).val ⟨_, (B6.up hq6 _).rb, okTs_self⟩).val ⟨_, .int n, trivial, trivial⟩).val ⟨_, .non, trivial, trivial⟩).val ⟨_, .str (Str.ofString "0"), trivial, trivial⟩
    generalize upd H10 q6 (.tup [V.ref b, V.int n]) = H11 at *
    have hb11 := B7.hb
    clear B6
    walk_at "st"
    intro l1 hl1
    have B8 := B7.up hl1 (.lst [V.ref q1, V.ref q2, V.ref q3, V.ref q4, V.ref q5, V.ref b, V.int n, V.non, V.ref q6])
    have el1 : upd H11 l1 (.lst [V.ref q1, V.ref q2, V.ref q3, V.ref q4, V.ref q5, V.ref b, V.int n, V.non, V.ref q6]) l1 = some (.lst [V.ref q1, V.ref q2, V.ref q3, V.ref q4, V.ref q5, V.ref b, V.int n, V.non, V.ref q6]) := upd_same
    generalize upd H11 l1 (.lst [V.ref q1, V.ref q2, V.ref q3, V.ref q4, V.ref q5, V.ref b, V.int n, V.non, V.ref q6]) = H12 at *
    have hb12 := B8.hb
    clear B7
    walk_at "st"
    intro q7 hq7
    have B9 := B8.tup hq7 (.cons (.int n) (.cons .non .nil)) ⟨trivial, trivial⟩
    replace el1 := hl_new (u := .tup [V.int n, V.non]) el1 hq7
    generalize upd H12 q7 (.tup [V.int n, V.non]) = H13 at *
    have hb13 := B9.hb
    clear B8
    walk_at "st"
    intro l2 hl2
    have B10 := B9.up hl2 (.lst [V.str (Str.ofString "0"), V.ref q7])
    have el2 : upd H13 l2 (.lst [V.str (Str.ofString "0"), V.ref q7]) l2 = some (.lst [V.str (Str.ofString "0"), V.ref q7]) := upd_same
    replace el1 := hl_new (u := .lst [V.str (Str.ofString "0"), V.ref q7]) el1 hl2
    generalize upd H13 l2 (.lst [V.str (Str.ofString "0"), V.ref q7]) = H14 at *
    have hb14 := B10.hb
    clear B9
    walk_at "st"
    refine ⟨l1, l2, [V.ref q1, V.ref q2, V.ref q3, V.ref q4, V.ref q5, V.ref b, V.int n, V.non, V.ref q6], [V.str (Str.ofString "0"), V.ref q7], rfl, rfl, el1, el2, by show 11 ≤ sizeLine; decide, fun l3 hl3 => ?_⟩
    have B11 := B10.up hl3 (.lst ([V.ref q1, V.ref q2, V.ref q3, V.ref q4, V.ref q5, V.ref b, V.int n, V.non, V.ref q6] ++ [V.str (Str.ofString "0"), V.ref q7]))
    have el3 : upd H14 l3 (.lst ([V.ref q1, V.ref q2, V.ref q3, V.ref q4, V.ref q5, V.ref b, V.int n, V.non, V.ref q6] ++ [V.str (Str.ofString "0"), V.ref q7])) l3 = some (.lst ([V.ref q1, V.ref q2, V.ref q3, V.ref q4, V.ref q5, V.ref b, V.int n, V.non, V.ref q6] ++ [V.str (Str.ofString "0"), V.ref q7])) := upd_same
    replace el1 := hl_new (u := .lst ([V.ref q1, V.ref q2, V.ref q3, V.ref q4, V.ref q5, V.ref b, V.int n, V.non, V.ref q6] ++ [V.str (Str.ofString "0"), V.ref q7])) el1 hl3
    replace el2 := hl_new (u := .lst ([V.ref q1, V.ref q2, V.ref q3, V.ref q4, V.ref q5, V.ref b, V.int n, V.non, V.ref q6] ++ [V.str (Str.ofString "0"), V.ref q7])) el2 hl3
    generalize upd H14 l3 (.lst ([V.ref q1, V.ref q2, V.ref q3, V.ref q4, V.ref q5, V.ref b, V.int n, V.non, V.ref q6] ++ [V.str (Str.ofString "0"), V.ref q7])) = H15 at *
    have hb15 := B11.hb
    clear B10
    clear el1 el2
    have lus : us.length = ts.length := by rw [B11.rT.length, List.length_map]
    have big : (1000000 : Nat) ≤ sizeLine := by decide
    walk_at "st"
    refine B11.cat (xs := us) (ys := us) hb15 hb15 B11.bN B11.bN B11.rT B11.rT (by first | omega | (simp only [List.length_cons, List.length_nil]; omega)) (fun v8 H16 zv8 B12 kv8 ev8 nv8 rv8 lv8 => ?_)
    replace el3 := kv8 _ _ el3
    have hb16 := B12.hb
    clear B11
    walk_at "st"
    intro q8 hq8
    have B13 := B12.tup hq8 (.cons (.int n) (.cons (.tup ev8 nv8 rv8) .nil)) (okTs_form ⟨by simp only [List.length_append, List.length_map]; omega, fun t m => (List.mem_append.mp m).elim (okT.2 t) (okT.2 t)⟩)
    replace el3 := hl_new (u := .tup [V.int n, V.ref v8]) el3 hq8
    generalize upd H16 q8 (.tup [V.int n, V.ref v8]) = H17 at *
    have hb17 := B13.hb
    clear B12
    clear ev8 rv8 kv8
    walk_at "st"
    refine ⟨.ref b, rfl, b, us, rfl, SqT.of hb17, fun r9 hr9 => ?_⟩
    have B14 := B13.up hr9 (.tup us.reverse)
    have rr9 : Rep S _ (.ref r9) (.tup (ts.map trO).reverse) := .tup upd_same (B13.out _ hr9) B14.rT.rev
    replace el3 := hl_new (u := .tup us.reverse) el3 hr9
    generalize upd H17 r9 (.tup us.reverse) = H18 at *
    have hb18 := B14.hb
    clear B13
    walk_at "st"
    intro q9 hq9
    have B15 := B14.tup hq9 (.cons (.int n) (.cons rr9 .nil)) (okTs_form ⟨by simp only [List.length_reverse, List.length_map]; omega, fun t m => okT.2 t (List.mem_reverse.mp m)⟩)
    replace el3 := hl_new (u := .tup [V.int n, V.ref r9]) el3 hq9
    generalize upd H18 q9 (.tup [V.int n, V.ref r9]) = H19 at *
    have hb19 := B15.hb
    clear B14
    clear rr9
    walk_at "st"
    intro a10 ha10
    have B16 := B15.up ha10 (.tup [v4, V.int 1])
    have ra10 : RepAll S _ [V.ref a10] [.tup [on, .int 1]] := .cons (.tup upd_same (B15.out _ ha10) (.cons B16.rn (.cons (.int 1) .nil))) .nil
    replace el3 := hl_new (u := .tup [v4, V.int 1]) el3 ha10
    generalize upd H19 a10 (.tup [v4, V.int 1]) = H20 at *
    have hb20 := B16.hb
    clear B15
    walk_at "st"
    intro c10 hc10
    have B17 := B16.up hc10 (.tup [V.ref a10])
    replace ra10 := ra10.to (Lft.new hc10 (x := .tup [V.ref a10]))
    have ec10 : upd H20 c10 (.tup [V.ref a10]) c10 = some (.tup [V.ref a10]) := upd_same
    have nc10 := B16.out _ hc10
    replace el3 := hl_new (u := .tup [V.ref a10]) el3 hc10
    generalize upd H20 c10 (.tup [V.ref a10]) = H21 at *
    have hb21 := B17.hb
    clear B16
    walk_at "st"
    refine B17.cat (xs := us) (ys := [V.ref a10]) hb21 ec10 B17.bN nc10 B17.rT ra10 (by first | omega | (simp only [List.length_cons, List.length_nil]; omega)) (fun v10 H22 zv10 B18 kv10 ev10 nv10 rv10 lv10 => ?_)
    replace el3 := kv10 _ _ el3
    have hb22 := B18.hb
    clear B17
    walk_at "st"
    intro q10 hq10
    have B19 := B18.tup hq10 (.cons (.int n) (.cons (.tup ev10 nv10 rv10) .nil)) (okTs_form ⟨by simp only [List.length_append, List.length_map, List.length_cons, List.length_nil]; omega, fun t m => (List.mem_append.mp m).elim (okT.2 t) (fun m => by rw [List.mem_singleton.mp m]; exact ⟨sn, trivial⟩)⟩)
    replace el3 := hl_new (u := .tup [V.int n, V.ref v10]) el3 hq10
    generalize upd H22 q10 (.tup [V.int n, V.ref v10]) = H23 at *
    have hb23 := B19.hb
    clear B18
    clear ev10 rv10 kv10 ra10 ec10
    walk_at "st"
    intro a11 ha11
    have B20 := B19.up ha11 (.tup [v4, V.int 1])
    have ra11 : RepAll S _ [V.ref a11] [.tup [on, .int 1]] := .cons (.tup upd_same (B19.out _ ha11) (.cons B20.rn (.cons (.int 1) .nil))) .nil
    replace el3 := hl_new (u := .tup [v4, V.int 1]) el3 ha11
    generalize upd H23 a11 (.tup [v4, V.int 1]) = H24 at *
    have hb24 := B20.hb
    clear B19
    walk_at "st"
    intro c11 hc11
    have B21 := B20.up hc11 (.tup [V.ref a11])
    replace ra11 := ra11.to (Lft.new hc11 (x := .tup [V.ref a11]))
    have ec11 : upd H24 c11 (.tup [V.ref a11]) c11 = some (.tup [V.ref a11]) := upd_same
    have nc11 := B20.out _ hc11
    replace el3 := hl_new (u := .tup [V.ref a11]) el3 hc11
    generalize upd H24 c11 (.tup [V.ref a11]) = H25 at *
    have hb25 := B21.hb
    clear B20
    walk_at "st"
    refine B21.cat (xs := [V.ref a11]) (ys := us) ec11 hb25 nc11 B21.bN ra11 B21.rT (by first | omega | (simp only [List.length_cons, List.length_nil]; omega)) (fun v11 H26 zv11 B22 kv11 ev11 nv11 rv11 lv11 => ?_)
    replace el3 := kv11 _ _ el3
    have hb26 := B22.hb
    clear B21
    walk_at "st"
    intro q11 hq11
    have B23 := B22.tup hq11 (.cons (.int n) (.cons (.tup ev11 nv11 rv11) .nil)) (okTs_form ⟨by simp only [List.length_append, List.length_map, List.length_cons, List.length_nil]; omega, fun t m => (List.mem_append.mp m).elim (fun m => by rw [List.mem_singleton.mp m]; exact ⟨sn, trivial⟩) (okT.2 t)⟩)
    replace el3 := hl_new (u := .tup [V.int n, V.ref v11]) el3 hq11
    generalize upd H26 q11 (.tup [V.int n, V.ref v11]) = H27 at *
    have hb27 := B23.hb
    clear B22
    clear ev11 rv11 kv11 ra11 ec11
    walk_at "st"
    intro l4 hl4
    have B24 := B23.up hl4 (.lst [V.ref q8, V.ref q9, V.ref q10, V.ref q11])
    have el4 : upd H27 l4 (.lst [V.ref q8, V.ref q9, V.ref q10, V.ref q11]) l4 = some (.lst [V.ref q8, V.ref q9, V.ref q10, V.ref q11]) := upd_same
    replace el3 := hl_new (u := .lst [V.ref q8, V.ref q9, V.ref q10, V.ref q11]) el3 hl4
    generalize upd H27 l4 (.lst [V.ref q8, V.ref q9, V.ref q10, V.ref q11]) = H28 at *
    have hb28 := B24.hb
    clear B23
    walk_at "st"
    refine ⟨l3, l4, [V.ref q1, V.ref q2, V.ref q3, V.ref q4, V.ref q5, V.ref b, V.int n, V.non, V.ref q6] ++ [V.str (Str.ofString "0"), V.ref q7], [V.ref q8, V.ref q9, V.ref q10, V.ref q11], rfl, rfl, el3, el4, by show 15 ≤ sizeLine; decide, fun l hl => ?_⟩
    have kp00 := B24.kp
    have ol : l ∉ [s, c] := B24.st.out hl
    have l0 : H l = none := kp00.free hl ol
    have B25 := (B24.own hl (.lst (([V.ref q1, V.ref q2, V.ref q3, V.ref q4, V.ref q5, V.ref b, V.int n, V.non, V.ref q6] ++ [V.str (Str.ofString "0"), V.ref q7]) ++ [V.ref q8, V.ref q9, V.ref q10, V.ref q11]))).re (vs' := [V.ref q1, V.ref q2, V.ref q3, V.ref q4, V.ref q5, V.ref b, V.int n, V.non, V.ref q6, V.str (Str.ofString "0"), V.ref q7, V.ref q8, V.ref q9, V.ref q10, V.ref q11]) (ps' := []) (by repeat' (first | exact List.forall_mem_nil _ | refine List.forall_mem_cons.mpr ⟨by simp, ?_⟩)) (List.forall_mem_nil _)
    have el : upd H28 l (.lst (([V.ref q1, V.ref q2, V.ref q3, V.ref q4, V.ref q5, V.ref b, V.int n, V.non, V.ref q6] ++ [V.str (Str.ofString "0"), V.ref q7]) ++ [V.ref q8, V.ref q9, V.ref q10, V.ref q11])) l = some (.lst [V.ref q1, V.ref q2, V.ref q3, V.ref q4, V.ref q5, V.ref b, V.int n, V.non, V.ref q6, V.str (Str.ofString "0"), V.ref q7, V.ref q8, V.ref q9, V.ref q10, V.ref q11]) := upd_same
    replace el3 := hl_new (u := .lst (([V.ref q1, V.ref q2, V.ref q3, V.ref q4, V.ref q5, V.ref b, V.int n, V.non, V.ref q6] ++ [V.str (Str.ofString "0"), V.ref q7]) ++ [V.ref q8, V.ref q9, V.ref q10, V.ref q11])) el3 hl
    generalize upd H28 l (.lst (([V.ref q1, V.ref q2, V.ref q3, V.ref q4, V.ref q5, V.ref b, V.int n, V.non, V.ref q6] ++ [V.str (Str.ofString "0"), V.ref q7]) ++ [V.ref q8, V.ref q9, V.ref q10, V.ref q11])) = H29 at *
    have hb29 := B25.hb
    clear B24
    clear el3 el4
    clear hl hl1 hl2 hl4
    walk_at "st"
    refine r_join (fun σ' H' => ∃ x8 x9 x10 x11 x12 L, σ' = [some (.ref s), some (.ref a), some (.int q), some (.int n), some (.ref b), some v2, some v4, some (.ref l), x8, x9, x10, x11, x12] ∧ H' l = some (.lst L) ∧ (1 ≤ L.length ∧ L.length ≤ 100) ∧ BB (l :: S) s c b us (ts.map trO) v2 v4 oo on H H' L []) (fun σ' HF g => ?_) (fun N hN => ?_)
    · obtain ⟨x8, x9, x10, x11, x12, L, rfl, eL, lL, BF⟩ := g
      walk_at "st"
      refine ⟨s, c, _, rfl, BF.st, by omega, fun d H' k st' hd => ?_⟩
      have BG := BF.step k st'
      have eL' := k _ _ eL ol
      obtain ⟨v, ev, mv⟩ := atI_in (xs := L) hd.1 hd.2
      walk_at "st"
      exact fin v H' BG.kp st' ((BG.al v mv).to (Lft.sub fun _ m => List.mem_cons_of_mem _ m))
    walk_at "if"
    intro e0 he0
    have B26 := B25.up he0 (.tup [])
    have ee0 : upd H29 e0 (.tup []) e0 = some (.tup []) := upd_same
    replace el := hl_new (u := .tup []) el he0
    generalize upd H29 e0 (.tup []) = H30 at *
    have hb30 := B26.hb
    clear B25
    walk_at "st"
    by_cases hu : us = []
    · rw [if_neg (by simp [hu])]
      walk_at "st"
      exact hN _ _ ⟨_, _, _, _, _, _, rfl, el, ⟨by simp, by simp⟩, B26⟩
    rw [if_pos (by cases us with | nil => exact absurd rfl hu | cons _ _ => rfl)]
    have lpos : 0 < us.length := List.length_pos_iff.mpr hu
    clear ee0
    walk_at "st"
    refine ⟨s, c, _, rfl, B26.st, by omega, fun d H31 kd st' hd => ?_⟩
    have B27 := B26.step kd st'
    replace el := kd _ _ el ol
    have hb31 := B27.hb
    clear B26 kd st'
    obtain ⟨u, eu, mu⟩ := atI_in (xs := us) hd.1 hd.2
    obtain ⟨z, k, hx, t, rfl, et⟩ : ∃ z k, (z, k) ∈ ts ∧ ∃ t, u = .ref t ∧ H31 t = some (.tup [.str z, .int k]) := by
      obtain ⟨i, ei⟩ := List.mem_iff_getElem?.mp mu
      obtain ⟨o, eo, ro⟩ := B27.rT.get ei
      obtain ⟨⟨z, k⟩, hx, rfl⟩ := List.mem_map.mp (List.mem_of_getElem? eo)
      cases ro with
      | tup e n ra =>
        cases ra with
        | cons r1 r2 =>
          cases r1
          cases r2 with
          | cons r3 r4 =>
            cases r3
            cases r4
            exact ⟨z, k, hx, _, rfl, e⟩
    have gz := (ok.ok.ok (z, k) hx).1
    obtain ⟨dn, rfl⟩ := Int.eq_ofNat_of_zero_le hd.1
    walk_at "st"
    intro p1 hp1
    have B28 := B27.tupp hp1 (.cons (.str z) (.cons B27.ro .nil)) ⟨smallS_good gz, eo⟩
    replace el := hl_new (u := .tup [V.str z, v2]) el hp1
    generalize upd H31 p1 (.tup [V.str z, v2]) = H32 at *
    have hb32 := B28.hb
    clear B27
    walk_at "st"
    intro p2 hp2
    have B29 := B28.tupp hp2 (.cons B28.rn (.cons (.int k) .nil)) ⟨sn, trivial⟩
    replace el := hl_new (u := .tup [v4, V.int k]) el hp2
    generalize upd H32 p2 (.tup [v4, V.int k]) = H33 at *
    have hb33 := B29.hb
    clear B28
    walk_at "st"
    intro p3 hp3
    have B30 := B29.tupp hp3 (.cons (.str z) .nil) ⟨trivial, trivial⟩
    replace el := hl_new (u := .tup [V.str z]) el hp3
    generalize upd H33 p3 (.tup [V.str z]) = H34 at *
    have hb34 := B30.hb
    clear B29
    walk_at "st"
    intro p4 hp4
    have B31 := B30.lstp hp4 (.cons (.str z) (.cons (.int k) .nil))
    replace el := hl_new (u := .lst [V.str z, V.int k]) el hp4
    generalize upd H34 p4 (.lst [V.str z, V.int k]) = H35 at *
    have hb35 := B31.hb
    clear B30
    walk_at "st"
    intro p5 hp5
    have B32 := B31.tupp hp5 (.cons (.str z) (.cons (.int k) (.cons (.int 1) .nil))) ⟨trivial, trivial⟩
    replace el := hl_new (u := .tup [V.str z, V.int k, V.int 1]) el hp5
    generalize upd H35 p5 (.tup [V.str z, V.int k, V.int 1]) = H36 at *
    have hb36 := B32.hb
    clear B31
    walk_at "st"
    intro p6 hp6
    have B33 := (B32.tupp hp6 (.cons (.int k) (.cons (.str z) .nil)) ⟨trivial, good_eqOk gz⟩).valp ⟨_, .str z, trivial, trivial⟩
    replace el := hl_new (u := .tup [V.int k, V.str z]) el hp6
    generalize upd H36 p6 (.tup [V.int k, V.str z]) = H37 at *
    have hb37 := B33.hb
    clear B32
    walk_at "st"
    intro p7 hp7
    have B34 := B33.tupp hp7 .nil ⟨trivial, trivial⟩
    replace el := hl_new (u := .tup []) el hp7
    generalize upd H37 p7 (.tup []) = H38 at *
    have hb38 := B34.hb
    clear B33
    walk_at "st"
    intro lp hlp
    have nlp : lp ≠ l := fun e => by rw [e, el] at hlp; cases hlp
    have B35 := (B34.up hlp (.lst [V.ref p1, V.ref p2, V.ref p3, V.ref p4, V.ref p5, V.str z, V.ref p6, V.ref p7])).re (vs' := [V.ref q1, V.ref q2, V.ref q3, V.ref q4, V.ref q5, V.ref b, V.int n, V.non, V.ref q6, V.str (Str.ofString "0"), V.ref q7, V.ref q8, V.ref q9, V.ref q10, V.ref q11]) (ps' := [V.ref p1, V.ref p2, V.ref p3, V.ref p4, V.ref p5, V.str z, V.ref p6, V.ref p7]) (fun _ m => m) (by repeat' (first | exact List.forall_mem_nil _ | refine List.forall_mem_cons.mpr ⟨by simp, ?_⟩))
    have elp : upd H38 lp (.lst [V.ref p1, V.ref p2, V.ref p3, V.ref p4, V.ref p5, V.str z, V.ref p6, V.ref p7]) lp = some (.lst [V.ref p1, V.ref p2, V.ref p3, V.ref p4, V.ref p5, V.str z, V.ref p6, V.ref p7]) := upd_same
    replace el := hl_new (u := .lst [V.ref p1, V.ref p2, V.ref p3, V.ref p4, V.ref p5, V.str z, V.ref p6, V.ref p7]) el hlp
    generalize upd H38 lp (.lst [V.ref p1, V.ref p2, V.ref p3, V.ref p4, V.ref p5, V.str z, V.ref p6, V.ref p7]) = H39 at *
    have hb39 := B35.hb
    clear B34
    walk_at "st"
    have hd2 : dn < us.length := Int.ofNat_lt.mp hd.2
    have hsx : HT.sIx us.length us.length (some (dn : Int)) = dn := (sIx_nat _ _ _).trans (by omega)
    have hsy : HT.sIx us.length 0 (some ((dn : Int) + 1)) = dn + 1 := (sIx_nat us.length 0 (dn + 1)).trans (by omega)
    have hct : cutV us none (some (dn : Int)) = us.take dn := by
      show (us.drop (HT.sIx us.length 0 none)).take (HT.sIx us.length us.length (some (dn : Int)) - HT.sIx us.length 0 none) = _
      rw [hsx]; rfl
    have hcd : cutV us (some ((dn : Int) + 1)) none = us.drop (dn + 1) := by
      show (us.drop (HT.sIx us.length 0 (some ((dn : Int) + 1)))).take (us.length - HT.sIx us.length 0 (some ((dn : Int) + 1))) = _
      rw [hsy]
      exact List.take_of_length_le (by rw [List.length_drop]; omega)
    have hlt : (us.take dn).length ≤ 64 := by rw [List.length_take]; omega
    have hld : (us.drop (dn + 1)).length ≤ 64 := by rw [List.length_drop]; omega
    refine lp_by (walk_list (a := lp) (xs := [V.ref p1, V.ref p2, V.ref p3, V.ref p4, V.ref p5, V.str z, V.ref p6, V.ref p7])) (fun i σ' H' => ∃ x12 L, σ' = [some (.ref s), some (.ref a), some (.int q), some (.int n), some (.ref b), some v2, some v4, some (.ref l), some (.int (dn : Int)), some (.str z), some (.int k), some (.ref lp), x12] ∧ H' l = some (.lst L) ∧ L.length = 15 + i ∧ H' lp = some (.lst [V.ref p1, V.ref p2, V.ref p3, V.ref p4, V.ref p5, V.str z, V.ref p6, V.ref p7]) ∧ BB (l :: S) s c b us (ts.map trO) v2 v4 oo on H H' L [V.ref p1, V.ref p2, V.ref p3, V.ref p4, V.ref p5, V.str z, V.ref p6, V.ref p7]) ⟨_, _, rfl, el, rfl, elp, B35⟩ (fun _ _ _ _ p => SqL.of (by obtain ⟨_, _, _, _, _, e, _⟩ := p; exact e)) (fun i x σ' HA HB hi g y => ?_) (fun σ' H3 g => ?_)
    · obtain ⟨x12, L, rfl, el3, lL, elp3, C0⟩ := g
      obtain ⟨rfl, ex⟩ := y
      replace hi : i < 8 := hi
      obtain ⟨ox, rox, sox, eox⟩ := C0.pl x (List.mem_of_getElem? ex)
      have hbC := C0.hb
      have hbig : (1000000 : Nat) ≤ sizeLine := by decide
      walk_at "st"
      refine ⟨b, us, rfl, SqT.of hbC, fun e => absurd e.2 (by rw [hsx]; omega), fun _ s1 hs1 => ?_⟩
      rw [hct]
      have C1 := C0.up hs1 (.tup (us.take dn))
      have r1 := C1.rT.take dn
      have e1 : upd HB s1 (.tup (us.take dn)) s1 = some (.tup (us.take dn)) := upd_same
      have n1 := C0.out s1 hs1
      replace el3 := hl_new (u := .tup (us.take dn)) el3 hs1
      replace elp3 := hl_new (u := .tup (us.take dn)) elp3 hs1
      replace rox := rox.to (Lft.new hs1 (x := .tup (us.take dn)))
      clear C0 hbC
      generalize upd HB s1 (.tup (us.take dn)) = H4 at *
      walk_at "st"
      intro w1 hw1
      have C2 := C1.up hw1 (.tup [x])
      replace rox := rox.to (Lft.new hw1 (x := .tup [x]))
      replace r1 := r1.to (Lft.new hw1 (x := .tup [x]))
      replace e1 := hl_new (u := .tup [x]) e1 hw1
      have e2 : upd H4 w1 (.tup [x]) w1 = some (.tup [x]) := upd_same
      have n2 := C1.out w1 hw1
      replace el3 := hl_new (u := .tup [x]) el3 hw1
      replace elp3 := hl_new (u := .tup [x]) elp3 hw1
      clear C1
      generalize upd H4 w1 (.tup [x]) = H5 at *
      walk_at "st"
      refine C2.cat (xs := us.take dn) (ys := [x]) e1 e2 n1 n2 r1 (.cons rox .nil) (by show _ + 1 ≤ _; omega) (fun v3 H6 z3 C3 k3 e3 n3 r3 l3 => ?_)
      replace el3 := k3 _ _ el3
      replace elp3 := k3 _ _ elp3
      replace l3 : z3.length = (us.take dn).length + 1 := l3
      have hbC := C3.hb
      clear C2 e1 e2 r1 k3
      walk_at "st"
      refine ⟨b, us, rfl, SqT.of hbC, fun e => absurd e.1 (by rw [hsy]; omega), fun _ s2 hs2 => ?_⟩
      rw [hcd]
      have C4 := C3.up hs2 (.tup (us.drop (dn + 1)))
      have r4 := C4.rT.drop (dn + 1)
      have e4 : upd H6 s2 (.tup (us.drop (dn + 1))) s2 = some (.tup (us.drop (dn + 1))) := upd_same
      have n4 := C3.out s2 hs2
      replace e3 := hl_new (u := .tup (us.drop (dn + 1))) e3 hs2
      replace r3 := r3.to (Lft.new hs2 (x := .tup (us.drop (dn + 1))))
      replace el3 := hl_new (u := .tup (us.drop (dn + 1))) el3 hs2
      replace elp3 := hl_new (u := .tup (us.drop (dn + 1))) elp3 hs2
      clear C3 hbC
      generalize upd H6 s2 (.tup (us.drop (dn + 1))) = H7 at *
      walk_at "st"
      refine C4.cat (xs := z3) (ys := us.drop (dn + 1)) e3 e4 n3 n4 r3 r4 (by omega) (fun v5 H8 z5 C5 k5 e5 n5 r5 l5 => ?_)
      replace el3 := k5 _ _ el3
      replace elp3 := k5 _ _ elp3
      clear C4 e3 e4 r3 r4 k5
      walk_at "st"
      intro y1 hy1
      have C6 := C5.tup hy1 (.cons (.int n) (.cons (.tup e5 n5 r5) .nil)) (okTs_form ⟨by
        simp only [List.length_append, List.length_take, List.length_drop, List.length_map, List.length_cons, List.length_nil]; omega, fun t m => by
        rcases List.mem_append.mp m with m | m
        · rcases List.mem_append.mp m with m | m
          · exact okT.2 t (List.mem_of_mem_take m)
          · rw [List.mem_singleton.mp m]; exact ⟨sox, eox⟩
        · exact okT.2 t (List.mem_of_mem_drop m)⟩)
      replace el3 := hl_new (u := .tup [V.int n, V.ref v5]) el3 hy1
      replace elp3 := hl_new (u := .tup [V.int n, V.ref v5]) elp3 hy1
      clear C5 e5 r5
      generalize upd H8 y1 (.tup [V.int n, V.ref v5]) = H9 at *
      walk_at "st"
      exact ⟨_, L ++ [V.ref y1], rfl, upd_same, by rw [List.length_append, lL]; rfl, hl_set nlp elp3, (C6.set List.mem_cons_self ol l0 _).re (fun v m => by
        rcases List.mem_append.mp m with m | m
        · exact List.mem_cons_of_mem _ m
        · rw [List.mem_singleton.mp m]; exact List.mem_cons_self) (fun _ m => m)⟩
    · obtain ⟨x12, L, rfl, el3, lL, elp3, C0⟩ := g
      have lL2 : L.length = 15 + 8 := lL
      exact hN _ _ ⟨_, _, _, _, _, _, rfl, el3, ⟨by omega, by omega⟩, C0.re (fun _ m => m) (List.forall_mem_nil _)⟩
end
/-! ### == and != of tuples of rows; comprehensions within comprehensions -/
theorem lookup_relabel2 {env : Env} : ∀ {names : List (Str × NameKind)} {x : Str}, (names.lookup x = some .cell ∨ names.lookup x = some .free) →
    ((names.map fun (n, k) => if (k == NameKind.free && env.scope.kind == .function && env.kindOf n == some .cell) then (n, NameKind.cell) else (n, k)).lookup x = some .cell ∨
    (names.map fun (n, k) => if (k == NameKind.free && env.scope.kind == .function && env.kindOf n == some .cell) then (n, NameKind.cell) else (n, k)).lookup x = some .free)
  | [], _, h => by simp at h
  | (n, k) :: r, x, h => by
    have ih := @lookup_relabel2 env r x
    by_cases hc : (k == NameKind.free && env.scope.kind == .function && env.kindOf n == some .cell) = true
    · rw [List.map_cons]
      simp only [hc, ↓reduceIte]
      cases hx : x == n with
      | true => exact .inl (by simp only [List.lookup_cons, hx])
      | false =>
        simp only [List.lookup_cons, hx] at h ⊢
        exact ih h
    · rw [List.map_cons]
      simp only [hc, ↓reduceIte, Bool.false_eq_true]
      cases hx : x == n with
      | true =>
        simp only [List.lookup_cons, hx] at h ⊢
        exact h
      | false =>
        simp only [List.lookup_cons, hx] at h ⊢
        exact ih h
theorem blkOk_in {N : List Str} {sc scope : Scope} {env : Env} {own : List (Str × Nat)} (h : blkC N sc scope own = true) : BlkOk N (relabel sc env) scope own := by
  have b := blkOk_by h
  exact ⟨b.kind, b.uniq, b.ix, fun y m e => lookup_relabel2 (b.free y m e), b.own⟩
/-! ### dicts whose values are objects -/
theorem hits_same {A : Around} {s : Shared} {kvs : List (Key × V)} {vb : List (Key × Value)} (rb : KV kvs vb) {ks : List (Key × V)} {va : List (Key × Value)} (ra : KV ks va) :
    (∀ p ∈ ks, valV kvs p.1 = some p.2 ∧ ∃ r, p.2 = V.ref r) → PySem.W.KeqHits A s vb va true := by
  unfold KV at ra
  induction ra with
  | nil => exact fun _ => .nil
  | @cons p q ps qs h t ih =>
    intro hp
    obtain ⟨h1, h2⟩ := h
    obtain ⟨e, r, f⟩ := hp p List.mem_cons_self
    obtain ⟨y, hy, ry⟩ := RelO.some_of (v := p.2) (o := valueAt vb p.1) (by rw [← e]; exact rb.val p.1)
    obtain ⟨k, v⟩ := q
    obtain rfl : p.1 = k := h1
    rw [f] at h2 ry
    obtain rfl : v = Value.ref r := h2
    obtain rfl : y = Value.ref r := ry
    show PySem.W.KeqHits A s vb ((p.1, Value.ref r) :: qs) (true && true)
    exact .hit hy (SeqAt.EqAt.same _) (ih fun p' m => hp p' (List.mem_cons_of_mem _ m))
theorem valV_in {kvs : List (Key × V)} (nd : (kvs.map (·.1)).Nodup) : ∀ p ∈ kvs, valV kvs p.1 = some p.2 := by
  induction kvs with
  | nil => intro p m; cases m
  | cons e kvs ih =>
    intro p m
    rw [List.map_cons] at nd
    have nd2 := List.nodup_cons.mp nd
    rcases List.mem_cons.mp m with rfl | m
    · exact valV_pos rfl
    · rw [valV_neg fun z => nd2.1 (List.mem_map.mpr ⟨p, m, z.symm⟩)]
      exact ih nd2.2 p m
def rNeDR : R2 := fun x y H Q => ∃ a b ks, x = .ref a ∧ y = .ref b ∧ H a = some (.dK ks) ∧ H b = some (.dK ks) ∧ (ks.map (·.1)).Nodup ∧ (∀ p ∈ ks, ∃ r, p.2 = V.ref r) ∧ Q (.bl false) H
theorem op_ne_dictR {X : Cx} (hu : X.A.units < cLine) : OpR X (compareOp .NotEq) rNeDR := by
  intro pins s σ H x y v u Q I rx ry h
  obtain ⟨a, b, ks, rfl, rfl, ea, eb, nd, hp, q⟩ := h
  obtain rfl : v = Value.ref a := rx
  obtain rfl : u = Value.ref b := ry
  obtain ⟨_, ya, va, ra, da⟩ := (show ObjOk X.prog X.w H s.heap a (.dK ks) from I.hok a _ ea)
  obtain ⟨_, yb, vb, rb, db⟩ := (show ObjOk X.prog X.w H s.heap b (.dK ks) from I.hok b _ eb)
  have hl : va.length = vb.length := by rw [← ra.length, ← rb.length]
  exact PySem.W.keq_ne (knd := mixKind X.prog X.w) (r := true) ya yb da db hu (fun _ => hits_same rb ra fun p m => ⟨valV_in nd p m, hp p m⟩) (fin_bl I q (by simp [hl]))
def rDictD : List V → Hp → VK → Prop := fun xs H Q => ∃ (a : Addr) (kvs : List (Key × V)), xs = [.ref a] ∧ Rd H a (.dK kvs) ∧ ∀ p, H p = none → Q (.ref p) (upd H p (.dK kvs))
theorem cr_dictD {X : Cx} : CallR X (.type "dict") rDictD := call_dictD
def rDictP (K : PySem.W.Frag) : List V → Hp → VK → Prop := fun xs H Q => ∃ (a : Addr) (ps : List Addr) (kvs : List (Key × V)), xs = [.ref a] ∧ SqL K H a (ps.map V.ref) ∧ Paired (fun p kv => SqT K H p [kV kv.1, kv.2]) ps kvs ∧
    ∀ p, H p = none → Q (.ref p) (upd H p (.dK (mergeK [] kvs)))
theorem cr_dictP {X : Cx} {K : PySem.W.Frag} (hc : X.calm = true) (q : X.K = K := by rfl) : CallR X (.type "dict") (rDictP K) := q ▸ call_dictP hc
theorem merge_nodup : ∀ (more kvs : List (Key × V)), ((kvs ++ more).map (·.1)).Nodup → mergeK kvs more = kvs ++ more
  | [], kvs, _ => by rw [List.append_nil]; rfl
  | p :: more, kvs, nd => by
    have e : kvs ++ p :: more = (kvs ++ [p]) ++ more := by rw [List.append_assoc]; rfl
    have h1 : putK kvs p.1 p.2 = kvs ++ [p] := by
      rw [putK_new p.2 ?_]
      rw [List.map_append, List.map_cons] at nd
      have nd2 := (List.nodup_append.mp nd).2.2
      cases h : valV kvs p.1 with
      | none => rfl
      | some v =>
        exfalso
        have : (kvs.any fun kv => decide (kv.1 = p.1)) = true := by rw [valV_any, h]; rfl
        obtain ⟨x, m, e2⟩ := List.any_eq_true.mp this
        exact nd2 x.1 (List.mem_map.mpr ⟨x, m, rfl⟩) p.1 List.mem_cons_self (of_decide_eq_true e2)
    show mergeK (putK kvs p.1 p.2) more = _
    rw [h1, e]
    exact merge_nodup more _ (by rw [← e]; exact nd)
theorem Canon.form {p n : Int} {ps ts : List Tr} (hp : 0 < p) (h : Canon p ps ts) (g : ∀ x ∈ ps, goodW (cs x.1)) : FormOk p (n % p) ts := ⟨⟨Int.emod_nonneg _ (by omega), Int.emod_lt_of_pos _ hp⟩, h.ok hp g⟩
theorem Canon.len {p : Int} {ps ts : List Tr} (h : Canon p ps ts) : ts.length ≤ ps.length := by
  have sub : ∀ z ∈ ts.map (fun x : Tr => x.1), z ∈ ps.map (fun x : Tr => x.1) := fun z m => by
    obtain ⟨⟨z, k⟩, hx, rfl⟩ := List.mem_map.mp m
    obtain ⟨e, ne⟩ := (h.mem z k).mp hx
    by_cases c : z ∈ ps.map (fun x : Tr => x.1)
    · exact c
    · rw [coef_out c] at e
      exact absurd (by rw [e]; rfl) ne
  have := List.Nodup.length_le_of_subset h.rise.nodup sub
  rw [List.length_map, List.length_map] at this
  exact this
theorem prd_imp {α β : Type} {R S : α → β → Prop} (h : ∀ a b, R a b → S a b) {xs : List α} {ys : List β} (p : Paired R xs ys) : Paired S xs ys := by
  induction p with
  | nil => exact .nil
  | cons q _ ih => exact .cons (h _ _ q) ih
theorem prd_snoc {α β : Type} {R : α → β → Prop} {xs : List α} {ys : List β} {a : α} {b : β} (p : Paired R xs ys) (q : R a b) : Paired R (xs ++ [a]) (ys ++ [b]) := by
  induction p with
  | nil => exact .cons q .nil
  | cons q _ ih => exact .cons q ih
theorem prd_len {α β : Type} {R : α → β → Prop} {xs : List α} {ys : List β} (p : Paired R xs ys) : xs.length = ys.length := by
  induction p with
  | nil => rfl
  | cons _ _ ih => rw [List.length_cons, List.length_cons, ih]
theorem dict_keysT (D : List Tr) : (encT D).map (fun x : Key × V => x.1) = (D.map (fun x : Tr => x.1)).map Sum.inr := by
  unfold encT; rw [List.map_map, List.map_map]; rfl
theorem encT_nodup {D : List Tr} (nd : (D.map (fun x : Tr => x.1)).Nodup) : ((encT D).map (fun x : Key × V => x.1)).Nodup := by
  rw [dict_keysT]; exact List.pairwise_map.mpr (nd.imp fun n e => n (Sum.inr.inj e))
/-- lists of pairs, tuples of texts: compared -/
theorem trs_shaped {ps : List Tr} (h : ∀ x ∈ ps, goodW (cs x.1)) : SeqAt.shaped (.list (ps.map trD)) = true := by
  have c : PyData.canLay0 (.list (ps.map trD)) = true := by
    rw [PyData.canLay0]
    refine canLay_all fun d m => ?_
    obtain ⟨x, hx, rfl⟩ := List.mem_map.mp m
    unfold trD
    rw [PyData.canLay0]
    refine canLay_all fun d m => ?_
    rcases List.mem_cons.mp m with rfl | m
    · exact (Nice.str (h x hx)).lay
    · rw [List.mem_singleton.mp m, PyData.canLay0]
  have e : PyData.depth (.list (ps.map trD)) ≤ 2 := by
    rw [PyData.depth]
    refine Nat.succ_le_succ (depth_all fun d m => ?_)
    obtain ⟨x, hx, rfl⟩ := List.mem_map.mp m
    unfold trD
    rw [PyData.depth]
    refine Nat.succ_le_succ (depth_all fun d m => ?_)
    rcases List.mem_cons.mp m with rfl | m
    · rw [PyData.depth]; exact Nat.le_refl _
    · rw [List.mem_singleton.mp m, PyData.depth]; exact Nat.le_refl _
  unfold SeqAt.shaped
  rw [c, Bool.true_and]
  exact decide_eq_true (by omega)
theorem strs_shaped {zs : List Str} (h : ∀ z ∈ zs, goodW (cs z)) : SeqAt.shaped (.tuple (zs.map PyData.str)) = true := by
  have c : PyData.canLay0 (.tuple (zs.map PyData.str)) = true := by
    rw [PyData.canLay0]
    refine canLay_all fun d m => ?_
    obtain ⟨x, hx, rfl⟩ := List.mem_map.mp m
    exact (Nice.str (h x hx)).lay
  have e : PyData.depth (.tuple (zs.map PyData.str)) ≤ 1 := by
    rw [PyData.depth]
    refine Nat.succ_le_succ (depth_all fun d m => ?_)
    obtain ⟨x, hx, rfl⟩ := List.mem_map.mp m
    rw [PyData.depth]; exact Nat.le_refl _
  unfold SeqAt.shaped
  rw [c, Bool.true_and]
  exact decide_eq_true (by omega)
theorem eqv_trs (a b : List Tr) : PyData.eqvAll (a.map trD) (b.map trD) = decide (a = b) := eqvAll_map (g := trD) (fun x y => by
    unfold trD
    obtain ⟨x1, x2⟩ := x
    obtain ⟨y1, y2⟩ := y
    rw [PyData.eqv, PyData.eqvAll, PyData.eqvAll, PyData.eqvAll, PyData.eqv, PyData.eqv]
    by_cases c : x1 = y1 <;> by_cases d : x2 = y2 <;> simp [c, d]) a b
theorem DpAll.strs {K : PySem.W.Frag} {H : Hp} : ∀ {zs : List Str}, DpAll K H (zs.map V.str) (zs.map PyData.str)
  | [] => .nil
  | _ :: _ => .cons (.str _) DpAll.strs
section
variable {K : PySem.W.Frag} {H : Hp} {Q : VK}
theorem r_neTrs {d e : Addr} {us vs : List V} {a b : List Tr} (h1 : H d = some (.lst us)) (t1 : Trs H us a) (h2 : H e = some (.lst vs)) (t2 : Trs H vs b) (g1 : ∀ x ∈ a, goodW (cs x.1)) (g2 : ∀ x ∈ b, goodW (cs x.1)) (q : Q (.bl (!decide (a = b))) H) : rNeD K (.ref d) (.ref e) H Q :=
  ⟨_, _, .lst (SqL.of h1) (DpAll.trs t1), .lst (SqL.of h2) (DpAll.trs t2), trs_shaped g1, trs_shaped g2, by rw [PyData.eqv, eqv_trs]; exact q⟩
theorem r_neStrs {d e : Addr} {a b : List Str} (h1 : H d = some (.tup (a.map V.str))) (h2 : H e = some (.tup (b.map V.str))) (g1 : ∀ x ∈ a, goodW (cs x)) (g2 : ∀ x ∈ b, goodW (cs x)) (q : Q (.bl (!decide (a = b))) H) : rNeD K (.ref d) (.ref e) H Q :=
  ⟨_, _, .tup (SqT.of h1) DpAll.strs, .tup (SqT.of h2) DpAll.strs, strs_shaped g1, strs_shaped g2, by
    rw [PyData.eqv, eqvAll_map (g := PyData.str) (fun x y => by rw [PyData.eqv]; by_cases c : x = y <;> simp [c])]; exact q⟩
end
local macro_rules | `(tactic| walk_at "ssz") => `(tactic| first | decide | exact str_small (by assumption) | (have : (1000000 : Nat) ≤ sizeLine := (by decide); omega))
local macro_rules | `(tactic| walk_at "st1") => `(tactic| first
  | with_reducible refine' r_nt ?_ | with_reducible refine' r_nf ?_
  | ((with_reducible refine r_lenS ?e1 ?_); (case e1 => walk_at "ssz"))
  | with_reducible refine r_inS ?_
  | with_reducible refine r_ninS ?_
  | ((with_reducible refine r_addS ?e1 ?_); (case e1 => walk_at "ssz"))
  | ((with_reducible refine' r_ixS ?e1 ?e2 ?_); (case e1 => walk_at "ssz"); (case e2 => first | assumption | rfl))
  | with_reducible refine r_istr ?_
  | with_reducible refine r_is ?_
  | with_reducible refine r_un ?_
  | with_reducible refine r_u ?_)
local macro_rules | `(tactic| walk_at "st1") => `(tactic| first
  | with_reducible refine r_par ?_
  | with_reducible refine r_parx ?_
  | ((with_reducible refine' r_gtup ?e1 ?e2 ?_); (case e1 => walk_at "sq"); (case e2 => rfl))
  | with_reducible refine r_gcons ?_
  | with_reducible refine r_gnil ?_
  | with_reducible refine r_disp ?_
  | with_reducible refine r_tp1 ?_
  | with_reducible refine r_tp0 ?_
  | ((with_reducible refine' r_dp1 ?e1 ?_); (case e1 => walk_at "hl"))
  | with_reducible refine r_dnewK ?_
  | with_reducible refine r_dget2 ?_
  | ((with_reducible refine' r_dg2 ?e1 ?_); (case e1 => walk_at "hl"))
  | ((with_reducible refine' r_dg3 ?e1 ?_); (case e1 => walk_at "hl"))
  | with_reducible refine r_dget ?_
  | ((with_reducible refine' r_dgv ?e1 ?e2 ?_); (case e1 => walk_at "hl"); (case e2 => assumption))
  | ((with_reducible refine' r_setD ?e1 ?e2 ?_); (case e1 => walk_at "hl"); (case e2 => omega)))
theorem prime14_in {q : Int} (h : q ∈ primes14) : 2 ≤ q ∧ q ≤ 997 := by
  simp [primes14] at h
  omega
theorem strs_of {ys : List V} {zs : List Str} (el : ys.length = zs.length) (h : ∀ (i : Nat) (y : V), ys[i]? = some y → ∃ z, zs[i]? = some z ∧ y = .str z) : ys = zs.map V.str := by
  apply List.ext_getElem?
  intro i
  cases e : ys[i]? with
  | none =>
    rw [List.getElem?_eq_none_iff] at e
    rw [List.getElem?_eq_none_iff.mpr (by rw [List.length_map]; omega)]
  | some y =>
    obtain ⟨z, h1, rfl⟩ := h i y e
    rw [List.getElem?_map, h1]; rfl
def sp_law (K : PySem.W.Frag) : Sp := fun vs H Q _ => ∃ (a : Addr) (ns : List Int), vs = [.ref a] ∧ SqL K H a (ns.map .int) ∧ ns.length ≤ 63 ∧ ∀ H', Q (.bl true) H'
section
variable {P : Program} {w : World} {K : PySem.W.Frag} {mg : Str → Option Value} {base : Heap}
theorem ok_law (T : Tx K mg) {f_law_begun : Addr} {fd_law_begun : FuncData} (C_law_begun : Cal P w K mg base "_law_begun" 1 ["script"] (sp_law_begun K) s_law_begun f_law_begun fd_law_begun) {f_law_prime : Addr} {fd_law_prime : FuncData} (C_law_prime : Cal P w K mg base "_law_prime" 2 ["state"] (sp_law_prime K) s_law_prime f_law_prime fd_law_prime) {f_law_places : Addr} {fd_law_places : FuncData} (C_law_places : Cal P w K mg base "_law_places" 3 ["state", "many"] (sp_law_places K) s_law_places f_law_places fd_law_places) {f_law_form : Addr} {fd_law_form : FuncData} (C_law_form : Cal P w K mg base "_law_form" 2 ["state", "places", "q"] (sp_law_form K) s_law_form f_law_form fd_law_form) {f_new_form : Addr} {fd_new_form : FuncData} (C_new_form : Cal P w K mg base "new_form" 1 ["n", "pairs", "p"] (sp_new_form K) s_new_form f_new_form fd_new_form) {f_is_form : Addr} {fd_is_form : FuncData} (C_is_form : Cal P w K mg base "is_form" 4 ["thing", "p"] (sp_is_form K) s_is_form f_is_form fd_is_form) {f_law_pairs : Addr} {fd_law_pairs : FuncData} (C_law_pairs : Cal P w K mg base "_law_pairs" 2 ["state", "places", "q"] (sp_law_pairs K) s_law_pairs f_law_pairs fd_law_pairs) {f_places_in : Addr} {fd_places_in : FuncData} (C_places_in : Cal P w K mg base "places_in" 1 ["form"] (sp_places_in K) s_places_in f_places_in fd_places_in) {f_law_bent : Addr} {fd_law_bent : FuncData} (C_law_bent : Cal P w K mg base "_law_bent" 2 ["state", "lot", "q"] (sp_law_bent K) s_law_bent f_law_bent fd_law_bent) {f_law_draw : Addr} {fd_law_draw : FuncData} (C_law_draw : Cal P w K mg base "_law_draw" 1 ["state", "many"] (sp_law_draw K) s_law_draw f_law_draw fd_law_draw) {f_law_good : Addr} {fd_law_good : FuncData} (C_law_good : Cal P w K mg base "_law_good" 2 ["what", "q"] (sp_law_good K) s_law_good f_law_good fd_law_good) {f : Addr} {fd : FuncData} (F : Here K mg "law" s_law ["script"] f fd) : FnG P w K mg base 5 f fd ["script"] (sp_law K) := by
  refine fnG_of F.fn sc_law (fun vs H Q E h => ?_) (fun cdv A outer s H vs Q E hga hr h => ?_)
  · obtain ⟨a, ns, rfl, _⟩ := h
    rfl
  · obtain ⟨a, ns, rfl, hS, hlen, fin⟩ := h
    refine ⟨_, (pss_cons (ps_set (i := 1) sc_law.nd rfl (by first | exact .inl rfl | exact .inr rfl) (pe_call C_law_begun.ok (hr.mono (by decide)) (by rfl) C_law_begun.at_ C_law_begun.kp C_law_begun.b .nil pass0 (pa_cons (pv 0) pa_nil)))
      (pss_cons (ps_for PassesOwn.never rfl (pi_range1 (by rfl) T.m_range (pa_cons pe_int pa_nil)) (pg_name (i := 2) sc_law.nd rfl (by first | exact .inl rfl | exact .inr rfl)) (pss_cons (ps_set (i := 3) sc_law.nd rfl (by first | exact .inl rfl | exact .inr rfl) (pe_call C_law_prime.ok (hr.mono (by decide)) (by rfl) C_law_prime.at_ C_law_prime.kp C_law_prime.b .nil pass0 (pa_cons (pv 1) pa_nil)))
      (pss_cons (ps_set (i := 4) sc_law.nd rfl (by first | exact .inl rfl | exact .inr rfl) (pe_call C_law_places.ok (hr.mono (by decide)) (by rfl) C_law_places.at_ C_law_places.kp C_law_places.b .nil pass0 (pa_cons (pv 1) (pa_cons (pe_ix (ix_listK (K := K)) (pe_lst (pa_cons (pe_call C_law_draw.ok (hr.mono (by decide)) (by rfl) C_law_draw.at_ C_law_draw.kp C_law_draw.b .nil pass0 (pa_cons (pv 1) (pa_cons pe_int pa_nil))) (pa_cons pe_int pa_nil))) (pe_op op_fdivW (pe_call C_law_draw.ok (hr.mono (by decide)) (by rfl) C_law_draw.at_ C_law_draw.kp C_law_draw.b .nil pass0 (pa_cons (pv 1) (pa_cons pe_int pa_nil))) pe_int) (fun _ _ => rfl)) pa_nil))))
      (pss_cons (ps_set (i := 5) sc_law.nd rfl (by first | exact .inl rfl | exact .inr rfl) (pe_call C_law_form.ok (hr.mono (by decide)) (by rfl) C_law_form.at_ C_law_form.kp C_law_form.b .nil pass0 (pa_cons (pv 1) (pa_cons (pv 4) (pa_cons (pv 3) pa_nil)))))
      (pss_cons (ps_for PassesOwn.never rfl (pi_listK (K := K) (pe_op op_cat (pe_lst (pa_cons (pv 5) pa_nil)) (pe_lc rfl sc_law.nd (pi_range1 (by rfl) T.m_range (pa_cons pe_int pa_nil)) (blkOk_by (own := [("k", 7)]) (N := ["script", "state", "turn", "q", "places", "lot", "what", "k", "told", "num", "couples", "kept", "sums", "place", "one", "times", "owed", "made", "term"]) (sc := (defScope s_law)) (by decide +kernel)) (fun _ _ _ _ _ => (pg_name (i := 7) sc_law.nd rfl (by first | exact .inl rfl | exact .inr rfl))) (fun _ _ _ _ _ => pts_nil) (fun _ _ _ _ _ => (pe_call C_law_bent.ok (hr.mono (by decide)) (by rfl) C_law_bent.at_ C_law_bent.kp C_law_bent.b .nil pass0 (pa_cons (pv 1) (pa_cons (pv 5) (pa_cons (pv 3) pa_nil)))))))) (pg_name (i := 6) sc_law.nd rfl (by first | exact .inl rfl | exact .inr rfl)) (pss_cons (ps_set (i := 8) sc_law.nd rfl (by first | exact .inl rfl | exact .inr rfl) (pe_call C_is_form.ok (hr.mono (by decide)) (by rfl) C_is_form.at_ C_is_form.kp C_is_form.b .nil pass0 (pa_cons (pv 6) (pa_cons (pv 3) pa_nil))))
      (pss_one (ps_if (PW.pt (pw_or (pt_not (pt_val (pe_callB (cr_isiK (K := K)) (by rfl) T.m_isinstance (by decide +kernel) (pa_cons (pv 8) (pa_cons (pe_bltn (v := .ty "bool") (by rfl) T.m_bool (by decide +kernel) rfl) pa_nil))))) (pw_or (pt_cmpR op_ne (pv 8) (pe_call C_law_good.ok (hr.mono (by decide)) (by rfl) C_law_good.at_ C_law_good.kp C_law_good.b .nil pass0 (pa_cons (pv 6) (pa_cons (pv 3) pa_nil))) (nomark _)) (pw_or1 (pt_cmpR op_ne (pe_callK0 C_is_form.ok (hr.mono (by decide)) (by rfl) C_is_form.at_ C_is_form.kp (kb_perm (us0 := 0) (ws0 := 2) (is := [1, 0]) (by simp) (fun us ws h1 h2 => kb_is_form_1_0 C_is_form.fn us ws h1 h2)) pass0 (pk_cons (pv 3) (pk_cons (pv 6) pk_nil))) (pv 8) (nomark _)))))) (pss_one (ps_ret pe_bl)) pss_nil))))
      (pss_cons (ps_asg (pe_tup (pa_cons (pe_op op_sub (pe_call C_law_draw.ok (hr.mono (by decide)) (by rfl) C_law_draw.at_ C_law_draw.kp C_law_draw.b .nil pass0 (pa_cons (pv 1) (pa_cons (pe_op op_pow pe_int pe_int) pa_nil))) (pe_op op_mul pe_int (pe_op op_pow pe_int pe_int))) (pa_cons (pe_call C_law_pairs.ok (hr.mono (by decide)) (by rfl) C_law_pairs.at_ C_law_pairs.kp C_law_pairs.b .nil pass0 (pa_cons (pv 1) (pa_cons (pv 4) (pa_cons (pv 3) pa_nil)))) pa_nil))) (castPG (K := K) (n := 2) (pg_tup rfl (pgs_cons (pg_name (i := 9) sc_law.nd rfl (by first | exact .inl rfl | exact .inr rfl)) (pgs_cons (pg_name (i := 10) sc_law.nd rfl (by first | exact .inl rfl | exact .inr rfl)) pgs_nil)))))
      (pss_cons (ps_set (i := 11) sc_law.nd rfl (by first | exact .inl rfl | exact .inr rfl) (pe_callTy (cr_listOfK (K := K)) (by rfl) T.m_list (by decide +kernel) (pa_cons (pv 10) pa_nil)))
      (pss_cons (ps_set (i := 12) sc_law.nd rfl (by first | exact .inl rfl | exact .inr rfl) (pe_callTy (cr_dictP (K := K) rfl) (by rfl) T.m_dict (by decide +kernel) (pa_cons (pe_lc rfl sc_law.nd (pi_listK (K := K) (pv 4)) (blkOk_by (own := [("place", 13)]) (N := ["script", "state", "turn", "q", "places", "lot", "what", "k", "told", "num", "couples", "kept", "sums", "place", "one", "times", "owed", "made", "term"]) (sc := (defScope s_law)) (by decide +kernel)) (fun _ _ _ _ _ => (pg_name (i := 13) sc_law.nd rfl (by first | exact .inl rfl | exact .inr rfl))) (fun _ _ _ _ _ => pts_nil) (fun _ _ _ _ _ => (pe_tup (pa_cons (pv 13) (pa_cons (pe_op op_mod (pe_callB (cr_sumK (K := K) rfl) (by rfl) T.m_sum (by decide +kernel) (pa_cons (pe_lc rfl sc_law.nd (pi_listK (K := K) (pv 10)) (blkOk_in (own := [("one", 14), ("times", 15)]) (N := ["script", "state", "turn", "q", "places", "lot", "what", "k", "told", "num", "couples", "kept", "sums", "place", "one", "times", "owed", "made", "term"]) (by decide +kernel)) (fun _ _ _ _ _ => (castPG (K := K) (n := 2) (pg_tup rfl (pgs_cons (pg_name (i := 14) sc_law.nd rfl (by first | exact .inl rfl | exact .inr rfl)) (pgs_cons (pg_name (i := 15) sc_law.nd rfl (by first | exact .inl rfl | exact .inr rfl)) pgs_nil))))) (fun _ _ _ _ _ => (pts_one (pt_cmpR op_eq (pv 14) (pv 13) (nomark _)))) (fun _ _ _ _ _ => (pv 15))) pa_nil)) (pv 3)) pa_nil))))) pa_nil)))
      (pss_cons (ps_set (i := 16) sc_law.nd rfl (by first | exact .inl rfl | exact .inr rfl) (pe_tup (pa_cons (pe_op op_mod (pv 9) (pv 3)) (pa_cons (pe_callTy (cr_tupOfK (K := K)) (by rfl) T.m_tuple (by decide +kernel) (pa_cons (pe_lc rfl sc_law.nd (pi_listK (K := K) (pe_callB (cr_sortedD rfl) (by rfl) T.m_sorted (by decide +kernel) (pa_cons (pv 12) pa_nil))) (blkOk_by (own := [("place", 13)]) (N := ["script", "state", "turn", "q", "places", "lot", "what", "k", "told", "num", "couples", "kept", "sums", "place", "one", "times", "owed", "made", "term"]) (sc := (defScope s_law)) (by decide +kernel)) (fun _ _ _ _ _ => (pg_name (i := 13) sc_law.nd rfl (by first | exact .inl rfl | exact .inr rfl))) (fun _ _ _ _ _ => (pts_one (pt_cmpR op_ne (pe_dget (hu_of hr) (pv 12) (pv 13) (fun _ _ => rfl)) pe_int (nomark _)))) (fun _ _ _ _ _ => (pe_tup (pa_cons (pv 13) (pa_cons (pe_dget (hu_of hr) (pv 12) (pv 13) (fun _ _ => rfl)) pa_nil))))) pa_nil)) pa_nil))))
      (pss_cons (ps_set (i := 17) sc_law.nd rfl (by first | exact .inl rfl | exact .inr rfl) (pe_call C_new_form.ok (hr.mono (by decide)) (by rfl) C_new_form.at_ C_new_form.kp C_new_form.b .nil pass0 (pa_cons (pv 9) (pa_cons (pv 10) (pa_cons (pv 3) pa_nil)))))
      (pss_cons (ps_if (PW.pt (pw_or (pt_cmpR op_ne (pe_callB (cr_reprK (K := K) hga (hu_of64 hr)) (by rfl) T.m_repr (by decide +kernel) (pa_cons (pv 17) pa_nil)) (pe_callB (cr_reprK (K := K) hga (hu_of64 hr)) (by rfl) T.m_repr (by decide +kernel) (pa_cons (pv 16) pa_nil)) (nomark _)) (pw_or (pt_cmpR (op_neDK (K := K) (hu_of64 hr)) (pe_callK0 C_new_form.ok (hr.mono (by decide)) (by rfl) C_new_form.at_ C_new_form.kp (kb_perm (us0 := 0) (ws0 := 3) (is := [2, 1, 0]) (by simp) (fun us ws h1 h2 => kb_new_form_2_1_0 C_new_form.fn us ws h1 h2)) pass0 (pk_cons (pv 3) (pk_cons (pv 10) (pk_cons (pv 9) pk_nil)))) (pv 16) (nomark _)) (pw_or1 (pt_cmpR (op_neDK (K := K) (hu_of64 hr)) (pv 10) (pv 11) (nomark _)))))) (pss_one (ps_ret pe_bl)) pss_nil)
      (pss_cons (ps_if (pt_cmpR (op_neDK (K := K) (hu_of64 hr)) (pe_call C_places_in.ok (hr.mono (by decide)) (by rfl) C_places_in.at_ C_places_in.kp C_places_in.b .nil pass0 (pa_cons (pv 17) pa_nil)) (pe_callTy (cr_tupOfK (K := K)) (by rfl) T.m_tuple (by decide +kernel) (pa_cons (pe_lc rfl sc_law.nd (pi_tupK (K := K) (pe_ix (ix_tupK (K := K)) (pv 16) pe_int (fun _ _ => rfl))) (blkOk_by (own := [("term", 18)]) (N := ["script", "state", "turn", "q", "places", "lot", "what", "k", "told", "num", "couples", "kept", "sums", "place", "one", "times", "owed", "made", "term"]) (sc := (defScope s_law)) (by decide +kernel)) (fun _ _ _ _ _ => (pg_name (i := 18) sc_law.nd rfl (by first | exact .inl rfl | exact .inr rfl))) (fun _ _ _ _ _ => pts_nil) (fun _ _ _ _ _ => (pe_ix (ix_tupK (K := K)) (pv 18) pe_int (fun _ _ => rfl)))) pa_nil)) (nomark _)) (pss_one (ps_ret pe_bl)) pss_nil)
      (pss_one (ps_if (pt_cmpR (op_neDK (K := K) (hu_of64 hr)) (pe_callK0 C_places_in.ok (hr.mono (by decide)) (by rfl) C_places_in.at_ C_places_in.kp (kb_perm (us0 := 0) (ws0 := 1) (is := [0]) (by simp) (fun us ws h1 h2 => kb_places_in_0 C_places_in.fn us ws h1 h2)) pass0 (pk_cons (pv 5) pk_nil)) (pe_callTy (cr_tupOfK (K := K)) (by rfl) T.m_tuple (by decide +kernel) (pa_cons (pe_lc rfl sc_law.nd (pi_tupK (K := K) (pe_ix (ix_tupK (K := K)) (pv 5) pe_int (fun _ _ => rfl))) (blkOk_by (own := [("term", 18)]) (N := ["script", "state", "turn", "q", "places", "lot", "what", "k", "told", "num", "couples", "kept", "sums", "place", "one", "times", "owed", "made", "term"]) (sc := (defScope s_law)) (by decide +kernel)) (fun _ _ _ _ _ => (pg_name (i := 18) sc_law.nd rfl (by first | exact .inl rfl | exact .inr rfl))) (fun _ _ _ _ _ => pts_nil) (fun _ _ _ _ _ => (pe_ix (ix_tupK (K := K)) (pv 18) pe_int (fun _ _ => rfl)))) pa_nil)) (nomark _)) (pss_one (ps_ret pe_bl)) pss_nil))))))))))))))
      (pss_one (ps_ret pe_bl)))), ?_⟩
    walk_at "st"
    refine ⟨a, ns, rfl, hS, hlen, fun s c H1 s1 st1 => ?_⟩
    walk_at "st"
    refine lp_by (walk_range (lo := 0) (n := Int.toNat 4)) (fun i σ' H' => ∃ x2 x3 x4 x5 x6 x7 x8 x9 x10 x11 x12 x13 x14 x15 x16 x17 x18, σ' = [some (.ref a), some (.ref s), x2, x3, x4, x5, x6, x7, x8, x9, x10, x11, x12, x13, x14, x15, x16, x17, x18] ∧ St s c H') ⟨_, _, _, _, _, _, _, _, _, _, _, _, _, _, _, _, _, rfl, st1⟩ (fun _ _ _ _ _ => trivial) (fun i x σ' H2 H2' hi p y => ?_) (fun σ' H2 p => ?_)
    · obtain ⟨x2, x3, x4, x5, x6, x7, x8, x9, x10, x11, x12, x13, x14, x15, x16, x17, x18, rfl, st2⟩ := p
      obtain ⟨rfl, rfl⟩ := y
      walk_at "st"
      refine ⟨s, c, rfl, st2, fun b H3 k3 st3 hb => ?_⟩
      have hq := prime14_in hb
      walk_at "st"
      refine ⟨s, c, 7, rfl, st3, by omega, fun d4 H4 k4 st4 hd4 => ?_⟩
      walk_at "st"
      intro l1 hl1
      have ol1 := st4.out hl1
      have st5 := st4.new hl1 (x := .lst [V.int d4, V.int 20])
      have el1 : upd H4 l1 (.lst [V.int d4, V.int 20]) l1 = some (.lst [V.int d4, V.int 20]) := upd_same
      generalize upd H4 l1 (.lst [V.int d4, V.int 20]) = H5 at *
      walk_at "st"
      refine ⟨s, c, 8, rfl, st5, by omega, fun d6 H6 k6 st6 hd6 => ?_⟩
      replace el1 := k6 _ _ el1 ol1
      walk_at "st"
      obtain ⟨v7, ev7, mv7⟩ := atI_in (xs := [V.int d4, V.int 20]) (i := d6 / 7) (by omega) (by show d6 / 7 < 2; omega)
      obtain ⟨m, rfl, hm⟩ : ∃ m, v7 = .int m ∧ 0 ≤ m ∧ m ≤ 20 := by
        simp at mv7
        rcases mv7 with h | h
        · exact ⟨_, h, by omega, by omega⟩
        · exact ⟨_, h, by omega, by omega⟩
      walk_at "st"
      refine ⟨s, c, m, rfl, st6, hm, fun l zs H8 k8 st8 nl el ln nd gz => ?_⟩
      have ol := st6.out nl
      walk_at "st"
      refine ⟨s, c, l, b, zs, rfl, st8, el, ol, nd, by omega, gz, hq, fun av n ts H9 k9 st9 hf ok mz lts => ?_⟩
      replace el := k9 _ _ el ol
      walk_at "st"
      intro m1 hm1
      have om1 := st9.out hm1
      have st10 := st9.new hm1 (x := .lst [V.ref av])
      have em1 : upd H9 m1 (.lst [V.ref av]) m1 = some (.lst [V.ref av]) := upd_same
      replace hf := hf.to (Tups.same (Same.upd_new hm1 (x := .lst [V.ref av])))
      replace el := hl_new (u := .lst [V.ref av]) el hm1
      generalize upd H9 m1 (.lst [V.ref av]) = H10 at *
      walk_at "st"
      intro D hD
      have oD := st10.out hD
      have stD := st10.new hD (x := .lst [])
      refine lc_by (walk_range (lo := 0) (n := Int.toNat 6)) (fun i H' => Kp [s, c] H10 H' ∧ St s c H' ∧ ∃ ws, H' D = some (.lst ws) ∧ ws.length = i ∧ ∀ v ∈ ws, OKV [D, s, c] H' v) ⟨Kp.new hD, stD, [], upd_same, rfl, fun v m => absurd m List.not_mem_nil⟩ (fun _ _ _ _ => trivial) (fun j x HA HB hj p y => ?_) (fun HF p => ?_)
      · obtain ⟨kA, stA, ws, eD, lw, hw⟩ := p
        obtain ⟨rfl, rfl⟩ := y
        replace hj : j < 6 := hj
        refine ⟨rfl, ?_⟩
        walk_at "st"
        obtain ⟨⟨cs1, eS⟩, ⟨cs2, eC⟩⟩ : (∃ xs, HB s = some (.lst xs)) ∧ ∃ xs, HB c = some (.lst xs) := by
          obtain ⟨_, cs, j, r, sa⟩ := stA
          exact ⟨⟨_, sa.hs⟩, ⟨_, sa.hc⟩⟩
        refine ⟨[D, s, c], s, c, .ref av, n, b, ts, rfl, stA, by simp, by simp, ?_, hf.to (Tups.st kA st10), ok, by omega, hq, fun w HC kC stC ow => ?_⟩
        · intro q hq2
          simp only [List.mem_cons, List.not_mem_nil, or_false] at hq2
          rcases hq2 with rfl | rfl | rfl
          · exact ⟨_, eD⟩
          · exact ⟨_, eS⟩
          · exact ⟨_, eC⟩
        have eD2 := kC _ _ eD oD
        have lft : Lft [D, s, c] HB [D, s, c] HC := Lft.kp kC (by simp)
        have lft2 : ∀ o, Lft [D, s, c] HC [D, s, c] (upd HC D o) := fun o => Lft.set (by simp)
        walk_at "st"
        refine ⟨ws, eD2, by have : (1000000 : Nat) ≤ sizeLine := (by decide); omega, fun q o e m => hl_set (ne_of_none e hD) ((kA.trans kC) q o e m), stC.set oD, ws ++ [w], upd_same, by rw [List.length_append, lw]; rfl, fun v m => ?_⟩
        rcases List.mem_append.mp m with m | m
        · exact ((hw v m).to lft).to (lft2 _)
        · rw [List.mem_singleton.mp m]; exact ow.to (lft2 _)
      obtain ⟨kF, stF, ws, eD, lw, hw⟩ := p
      walk_at "st"
      have fF := hf.to (Tups.st kF st10)
      refine ⟨m1, D, [V.ref av], ws, rfl, rfl, kF _ _ em1 om1, eD, by rw [lw]; show 7 ≤ sizeLine; decide, fun M hM => ?_⟩
      have stM := stF.new hM (x := .lst ([V.ref av] ++ ws))
      have kM : Kp [s, c] H10 (upd HF M (.lst ([V.ref av] ++ ws))) := kF.trans (Kp.new hM)
      have fM := fF.to (Tups.same (Same.upd_new hM (x := .lst ([V.ref av] ++ ws))))
      have eM : upd HF M (.lst ([V.ref av] ++ ws)) M = some (.lst ([V.ref av] ++ ws)) := upd_same
      have hall : ∀ v ∈ [V.ref av] ++ ws, OKV [D, s, c] (upd HF M (.lst ([V.ref av] ++ ws))) v := fun v m => by
        rcases List.mem_append.mp m with m | m
        · rw [List.mem_singleton.mp m]
          obtain ⟨_, cs, j, r, sa⟩ := stM
          obtain ⟨a2, b2, us2, e2, h1, h2, n1, n2, rr⟩ := fM.rep (S := [D, s, c]) (fun q xs e m => by
            simp only [List.mem_cons, List.not_mem_nil, or_false] at m
            rcases m with rfl | rfl | rfl
            · rw [hl_new eD hM] at e; cases e
            · rw [sa.hs] at e; cases e
            · rw [sa.hc] at e; cases e)
          cases e2
          exact ⟨_, .tup h1 n1 (.cons (.int n) (.cons (.tup h2 n2 rr) .nil)), okTs_form (okTs_terms ok.ok (by omega))⟩
        · exact (hw v m).to (Lft.new hM)
      generalize upd HF M (.lst ([V.ref av] ++ ws)) = HM at *
      walk_at "st"
      refine lp_by (walk_list (a := M) (xs := [V.ref av] ++ ws)) (fun _ σ' H' => ∃ x6 x8, σ' = [some (.ref a), some (.ref s), some (.int (0 + (i : Int))), some (.int b), some (.ref l), some (.ref av), x6, x7, x8, x9, x10, x11, x12, x13, x14, x15, x16, x17, x18] ∧ Same HM H') ⟨_, _, rfl, Same.refl _⟩ (fun _ _ _ _ p => SqL.of (by obtain ⟨_, _, _, sm⟩ := p; exact sm _ _ eM)) (fun j x σ' HA HB hj p y => ?_) (fun σ' HN p => ?_)
      · obtain ⟨y6, y8, rfl, sm⟩ := p
        obtain ⟨rfl, ex⟩ := y
        obtain ⟨o, ro, so, eo⟩ := hall x (List.mem_of_getElem? ex)
        walk_at "st"
        refine ⟨_, x, o, b, rfl, ro.to (Lft.same sm), so, fun HA' kA' => ?_⟩
        walk_at "st"
        walk_at "if"
        refine ⟨_, x, o, b, rfl, ro.to (Lft.same (sm.trans kA')), so, eo, fun HB' kB' => ?_⟩
        walk_at "st"
        rw [if_neg (by simp)]
        walk_at "st"
        refine ⟨_, x, o, b, rfl, ro.to (Lft.same ((sm.trans kA').trans kB')), so, fun HC' kC' => ?_⟩
        walk_at "st"
        try rw [if_neg (by simp)]
        try walk_at "st"
        exact ⟨_, _, rfl, ((sm.trans kA').trans kB').trans kC'⟩
      obtain ⟨y6, y8, rfl, sm⟩ := p
      replace stM := stM.same sm
      replace el := sm _ _ (kM _ _ el ol)
      walk_at "st"
      refine ⟨s, c, _, rfl, stM, by decide, fun d1 HP k1 stP hd1 => ?_⟩
      replace el := k1 _ _ el ol
      walk_at "st"
      refine ⟨s, c, l, b, zs, rfl, stP, el, ol, by omega, hq, fun dl us ps HR k2 stR nd2 edl hus lps mps => ?_⟩
      replace el := k2 _ _ el ol
      have fR : FrmV HR (.ref av) n ts := ((fM.to (Tups.same sm)).to (Tups.st k1 stM)).to (Tups.st k2 stP)
      clear fM fF hall hw hf kM kF k1 k2 stP stM sm eM em1 eD stF
      walk_at "st"
      intro pt hpt
      generalize d1 - 5 * 10 ^ Int.toNat 5 = num at *
      walk_at "st"
      intro lk hlk
      have SA : Same HR (upd (upd HR pt (.tup [V.int num, V.ref dl])) lk (.lst us)) := (Same.upd_new hpt).trans (Same.upd_new hlk)
      have ekA : upd (upd HR pt (.tup [V.int num, V.ref dl])) lk (.lst us) lk = some (.lst us) := upd_same
      generalize upd (upd HR pt (.tup [V.int num, V.ref dl])) lk (.lst us) = HA at *
      have elA := SA _ _ el
      have edA := SA _ _ edl
      have huA := hus.to (Tups.same SA)
      have stA := stR.same SA
      have fA := fR.to (Tups.same SA)
      clear SA hlk hpt el edl hus stR fR
      walk_at "st"
      intro D1 hD1
      refine lc_by (walk_list (a := l) (xs := zs.map V.str)) (fun i H' => Same HA H' ∧ ∃ pa : List Addr, H' D1 = some (.lst (pa.map V.ref)) ∧ Paired (fun p kv => H' p = some (.tup [kV kv.1, kv.2])) pa (encT ((zs.take i).map fun z => (z, coef ps z % b)))) ⟨Same.upd_new hD1, [], upd_same, .nil⟩ (fun i H' _ g => SqL.of (g.1 _ _ elA)) (fun i x HB HB' hi g y => ?_) (fun HB g => ?_)
      · obtain ⟨sB, pa, eD, pr⟩ := g
        obtain ⟨rfl, ex⟩ := y
        obtain ⟨z, ez, rfl⟩ := getElem?_map_str ex
        refine ⟨rfl, ?_⟩
        walk_at "st"
        intro D2 hD2
        refine lc_by (walk_list (a := dl) (xs := us)) (fun j H' => Same HB' H' ∧ H' D2 = some (.lst (((ps.take j).filter fun x => decide (x.1 = z)).map fun x => V.int x.2))) ⟨Same.upd_new hD2, upd_same⟩ (fun i H' _ g => SqL.of (g.1 _ _ (sB _ _ edA))) (fun j x HC HC' hj g y => ?_) (fun HC g => ?_)
        · obtain ⟨sC, eD2⟩ := g
          obtain ⟨rfl, ex2⟩ := y
          obtain ⟨⟨z2, m2⟩, e2, t2, rfl, ht2⟩ := huA.2 j x ex2
          have ht3 := sC _ _ (sB _ _ ht2)
          refine ⟨t2, _, rfl, SqT.of ht3, rfl, ?_⟩
          walk_at "st"
          refine ⟨rfl, ?_⟩
          walk_at "st"
          have tk : (ps.take (j + 1)).filter (fun x => decide (x.1 = z)) = (ps.take j).filter (fun x => decide (x.1 = z)) ++ ([(z2, m2)] : List Tr).filter (fun x => decide (x.1 = z)) := by
            rw [List.take_succ, e2, List.filter_append]; rfl
          have lj : ((ps.take j).filter fun x => decide (x.1 = z)).length ≤ 8 := Nat.le_trans (List.length_filter_le _ _) (by rw [List.length_take]; omega)
          refine r_iteB (fun h => ?_) (fun h => ?_)
          · have hz : z2 = z := by simpa using h
            walk_at "st"
            refine ⟨_, eD2, by rw [List.length_map]; exact Nat.lt_of_le_of_lt lj (by decide), fun p o e => hl_set (ne_of_none e hD2) (sC _ _ e), ?_⟩
            rw [upd_same, tk, List.filter_cons_of_pos (by simpa using hz), List.map_append]; rfl
          · have hz : ¬ z2 = z := by simpa using h
            refine ⟨sC, ?_⟩
            rw [tk, List.filter_cons_of_neg (by simpa using hz), List.filter_nil, List.append_nil]; exact eD2
        · obtain ⟨sC, eD2⟩ := g
          rw [List.take_of_length_le (by rw [huA.1]; exact Nat.le_refl _)] at eD2
          have e3 : (ps.filter fun x => decide (x.1 = z)).map (fun x : Tr => V.int x.2) = ((ps.filter fun x => decide (x.1 = z)).map (fun x : Tr => x.2)).map V.int := by rw [List.map_map]; rfl
          rw [e3] at eD2
          walk_at "st"
          intro t ht
          have lpa : pa.length ≤ 20 := by
            have h1 := prd_len pr
            unfold encT at h1
            rw [List.length_map, List.length_map, List.length_take] at h1
            omega
          refine ⟨_, hl_new (sC _ _ eD) ht, by rw [List.length_map]; exact Nat.lt_of_le_of_lt lpa (by decide), fun p o e => hl_set (ne_of_none e hD1) (hl_new (sC _ _ (sB _ _ e)) ht), pa ++ [t], by rw [upd_same, List.map_append]; rfl, ?_⟩
          have ek : encT ((zs.take (i + 1)).map fun z => (z, coef ps z % b)) = encT ((zs.take i).map fun z => (z, coef ps z % b)) ++ [(Sum.inr z, V.int (coef ps z % b))] := by
            rw [List.take_succ, ez]
            unfold encT
            rw [List.map_append, List.map_append]; rfl
          rw [ek]
          have eDC := hl_new (sC _ _ eD) ht (u := .tup [V.str z, V.int (((ps.filter fun x => decide (x.1 = z)).map (fun x : Tr => x.2)).sum % b)])
          refine prd_snoc (prd_imp (fun p kv e => Tups.lst eDC _ _ (hl_new (sC _ _ e) ht)) pr) (Tups.lst eDC _ _ upd_same)
      · obtain ⟨sB, pa, eD, pr⟩ := g
        rw [List.take_of_length_le (by rw [List.length_map]; exact Nat.le_refl _)] at pr
        have ekT : (zs.map fun z => (z, coef ps z % b)).map (fun x : Tr => x.1) = zs := by rw [List.map_map]; exact List.map_id' zs
        have gT : ∀ z ∈ zs, getT (zs.map fun z => (z, coef ps z % b)) z = some (coef ps z % b) := fun z m => getT_in (by rw [ekT]; exact nd) (List.mem_map.mpr ⟨z, m, rfl⟩)
        generalize zs.map (fun z => (z, coef ps z % b)) = T at *
        walk_at "st"
        refine ⟨D1, pa, _, rfl, SqL.of eD, prd_imp (fun _ _ e => SqT.of e) pr, fun ds hds => ?_⟩
        rw [merge_nodup (encT T) [] (encT_nodup (by rw [ekT]; exact nd)), List.nil_append]
        have SE : Same HA (upd HB ds (.dK (encT T))) := sB.trans (Same.upd_new hds)
        have eT : upd HB ds (.dK (encT T)) ds = some (.dK (encT T)) := upd_same
        generalize upd HB ds (.dK (encT T)) = HE at *
        have lT : T.length < 64 := by
          have := congrArg List.length ekT
          rw [List.length_map] at this
          omega
        walk_at "st"
        refine r_sortD eT lT fun ys p0 pm so hp0 => ?_
        have eTp := hl_new eT hp0 (u := .lst (ys.map V.str))
        have SF : Same HA (upd HE p0 (.lst (ys.map V.str))) := SE.trans (Same.upd_new hp0)
        have ep : upd HE p0 (.lst (ys.map V.str)) p0 = some (.lst (ys.map V.str)) := upd_same
        rw [ekT] at pm
        have nys : ys.Nodup := pm.symm.nodup nd
        have ri := sortedS_rise so nys
        have lys : ys.length < 64 := by rw [pm.length_eq]; omega
        generalize upd HE p0 (.lst (ys.map V.str)) = HF at *
        clear eT SE hp0 pr eD sB hds hD1 so
        walk_at "st"
        intro Dl hDl
        refine lc_by (walk_list (a := p0) (xs := ys.map V.str)) (fun i H' => Same HF H' ∧ ∃ us ts, H' Dl = some (.lst us) ∧ Trs H' us ts ∧ (ts.map (·.1)).Sublist (ys.take i) ∧ (∀ x ∈ ts, x.2 = coef ps x.1 % b ∧ x.2 ≠ 0) ∧ ∀ (j : Nat) z, j < i → ys[j]? = some z → coef ps z % b ≠ 0 → (z, coef ps z % b) ∈ ts)
          ⟨Same.upd_new hDl, [], [], upd_same, Trs.nil, List.Sublist.refl _, by simp, fun j z g => absurd g (Nat.not_lt_zero j)⟩ (fun i H' _ g => SqL.of (g.1 _ _ ep)) (fun i x HG HG' hi g y => ?_) (fun HG g => ?_)
        · obtain ⟨sG, us2, ts2, et, ht, sb, h1, h2⟩ := g
          obtain ⟨rfl, ex⟩ := y
          obtain ⟨z, ez, rfl⟩ := getElem?_map_str ex
          have mz : z ∈ zs := pm.mem_iff.mp (List.mem_of_getElem? ez)
          have gk := gT z mz
          have ed4 := sG _ _ eTp
          have lts2 : ts2.length ≤ 64 := by
            have := sb.length_le
            rw [List.length_map, List.length_take] at this
            omega
          have sb' : (ts2.map (·.1)).Sublist (ys.take (i + 1)) := sb.trans (by rw [List.take_succ]; exact List.sublist_append_left _ _)
          refine ⟨rfl, ?_⟩
          walk_at "st"
          have old : ∀ (j : Nat) z'', j < i + 1 → ys[j]? = some z'' → coef ps z'' % b ≠ 0 → (z'', coef ps z'' % b) ∈ ts2 ∨ z'' = z := fun j z'' lt e1 e3 => by
            rcases Nat.lt_succ_iff_lt_or_eq.mp lt with g | g
            · exact .inl (h2 j _ g e1 e3)
            · rw [g, ez] at e1
              cases e1
              exact .inr rfl
          refine r_iteB (fun h => ?_) (fun h => ?_)
          · have k0 : coef ps z % b ≠ 0 := by simpa using h
            walk_at "st"
            intro t ht8
            have ht4 := hl_new et ht8 (u := .tup [V.str z, V.int (coef ps z % b)])
            refine ⟨us2, ht4, by rw [ht.1]; exact Nat.lt_of_le_of_lt lts2 (by decide), fun b o e => hl_set (ne_of_none e hDl) (hl_new (sG _ _ e) ht8), us2 ++ [.ref t], ts2 ++ [(z, coef ps z % b)], upd_same, ?_, ?_, fun x m => ?_, fun j z'' lt e1 e3 => ?_⟩
            · exact ((ht.to (Tups.same (Same.upd_new ht8))).append (Trs.one ⟨t, rfl, upd_same⟩)).to (Tups.lst ht4)
            · rw [List.map_append, List.take_succ, ez]
              exact sb.append (List.Sublist.refl _)
            · rcases List.mem_append.mp m with m | m
              · exact h1 x m
              · rw [List.mem_singleton.mp m]; exact ⟨rfl, k0⟩
            · rcases old j z'' lt e1 e3 with g | g
              · exact List.mem_append_left _ g
              · rw [g]; exact List.mem_append_right _ (List.mem_singleton.mpr rfl)
          · have k0 : coef ps z % b = 0 := by simpa using h
            refine ⟨sG, us2, ts2, et, ht, sb', h1, fun j z'' lt e1 e3 => ?_⟩
            rcases old j z'' lt e1 e3 with g | g
            · exact g
            · exact absurd (g ▸ k0) e3
        obtain ⟨sG, us2, ts2, et, ht, sb, h1, h2⟩ := g
        rw [List.take_of_length_le (by rw [List.length_map]; exact Nat.le_refl _)] at sb
        rw [List.length_map] at h2
        walk_at "st"
        intro bt hbt
        walk_at "st"
        intro ow how
        have S5 : Same HG (upd (upd HG bt (.tup us2)) ow (.tup [V.int (num % b), V.ref bt])) := (Same.upd_new hbt).trans (Same.upd_new how)
        have fO : FrmV (upd (upd HG bt (.tup us2)) ow (.tup [V.int (num % b), V.ref bt])) (.ref ow) (num % b) ts2 := ⟨ow, bt, us2, rfl, upd_same, hl_new upd_same how, ht.to (Tups.same S5)⟩
        have SO : Same HA (upd (upd HG bt (.tup us2)) ow (.tup [V.int (num % b), V.ref bt])) := (SF.trans sG).trans S5
        have cO : Canon b ps ts2 := by
          refine ⟨ri.sublist sb, fun z k => ⟨fun m => h1 _ m, fun m => ?_⟩⟩
          obtain ⟨e, ne⟩ := m
          have mz : z ∈ zs := by
            by_cases c : z ∈ ps.map (fun x : Tr => x.1)
            · obtain ⟨x, hx, rfl⟩ := List.mem_map.mp c
              exact mps x hx
            · rw [coef_out c] at e
              exact absurd (by rw [e]; rfl) ne
          obtain ⟨j, ej⟩ := List.getElem?_of_mem (pm.mem_iff.mpr mz)
          rw [e] at ne ⊢
          exact h2 j z (List.getElem?_eq_some_iff.mp ej).1 ej ne
        generalize upd (upd HG bt (.tup us2)) ow (.tup [V.int (num % b), V.ref bt]) = HO1 at *
        clear S5 sG et ht sb h1 h2 SF ep eTp how hbt hDl gT ri nys lys pm
        have gps : ∀ x ∈ ps, goodW (cs x.1) := fun x m => gz _ (mps x m)
        have FO := cO.form (n := num) (by omega) gps
        have lO := cO.len
        have NO := frm_nice FO (by omega) (by omega)
        have gO : ∀ x ∈ ts2, goodW (cs x.1) := fun x m => (FO.ok.ok x m).1
        walk_at "st"
        refine ⟨dl, num, b, us, ps, rfl, SO _ _ edA, huA.to (Tups.same SO), by omega, hq, fun am tm HP2 smP fm cm => ?_⟩
        obtain rfl : tm = ts2 := cm.same cO fun _ => rfl
        walk_at "st"
        walk_at "if"
        refine r_reprF fm NO ?_
        walk_at "st"
        refine r_reprF (fO.to (Tups.same smP)) NO ?_
        walk_at "st"
        refine r_iteB (fun h => by simp at h) (fun _ => ?_)
        walk_at "st"
        have SO2 := SO.trans smP
        refine ⟨dl, num, b, us, ps, rfl, SO2 _ _ edA, huA.to (Tups.same SO2), by omega, hq, fun aq tq HQ smQ fq cq => ?_⟩
        obtain rfl : tq = tm := cq.same cO fun _ => rfl
        have SO3 := SO2.trans smQ
        walk_at "st"
        refine r_neF fq (fO.to (Tups.same (smP.trans smQ))) NO NO ?_
        walk_at "st"
        refine r_iteB (fun h => by simp at h) (fun _ => ?_)
        walk_at "st"
        refine r_neTrs (SO3 _ _ edA) (huA.to (Tups.same SO3)) (SO3 _ _ ekA) (huA.to (Tups.same SO3)) gps gps ?_
        walk_at "st"
        refine r_iteB (fun h => by simp at h) (fun _ => ?_)
        have fmQ := fm.to (Tups.same smQ)
        have fOQ := fO.to (Tups.same (smP.trans smQ))
        have fAQ := fA.to (Tups.same SO3)
        have stQ := stA.same SO3
        clear fm fO fA stA SO SO2 SO3 smP smQ fq edA ekA huA elA
        walk_at "st"
        walk_at "if"
        obtain ⟨oa, ob, ou, eo, ho1, ho2, ho3⟩ := fOQ
        cases eo
        obtain ⟨va, vb, vu, ev, hv1, hv2, hv3⟩ := fAQ
        cases ev
        refine ⟨am, num % b, tq, rfl, fmQ, by omega, fun pb HS smS epb => ?_⟩
        have ho1 := smS _ _ ho1
        have ho2 := smS _ _ ho2
        have ho3 := ho3.to (Tups.same smS)
        have stS := stQ.same smS
        have hv1 := smS _ _ hv1
        have hv2 := smS _ _ hv2
        have hv3 := hv3.to (Tups.same smS)
        have lou : ou.length ≤ 20 := by rw [ho3.1]; omega
        clear fmQ smS stQ
        walk_at "st"
        intro D3 hD3
        refine lc_map (walk_tup (xs := ou)) (by omega) hD3 (fun i y _ => ∃ z, (tq.map fun x : Tr => x.1)[i]? = some z ∧ y = .str z) (fun _ _ _ _ h _ => h) (fun _ _ _ _ _ h _ => h) (fun H' k => SqT.of (k _ _ ho2)) (fun i H1 x H2 y => by rw [y.1]; exact Same.refl _)
          (fun i x H1 H2 Y No hi sm y hY => ?_) (fun ys HT ely smT eD3 hys => ?_)
        · obtain ⟨rfl, ex⟩ := y
          obtain ⟨⟨z, k⟩, ez, t, rfl, ht⟩ := ho3.2 i x ex
          have ht3 := sm _ _ ht
          refine ⟨rfl, ?_⟩
          walk_at "st"
          exact hY _ _ (Same.refl _) ⟨z, by rw [List.getElem?_map, ez]; rfl, rfl⟩
        rw [strs_of (by rw [ely, ho3.1, List.length_map]) hys] at eD3
        walk_at "st"
        intro T4 hT4
        have SU : Same HS (upd HT T4 (.tup ((tq.map fun x : Tr => x.1).map V.str))) := smT.trans (Same.upd_new hT4)
        have eT4 : upd HT T4 (.tup ((tq.map fun x : Tr => x.1).map V.str)) T4 = some (.tup ((tq.map fun x : Tr => x.1).map V.str)) := upd_same
        generalize upd HT T4 (.tup ((tq.map fun x : Tr => x.1).map V.str)) = HU at *
        have gq : ∀ z ∈ tq.map (fun x : Tr => x.1), goodW (cs z) := fun z m => by
          obtain ⟨x, hx, rfl⟩ := List.mem_map.mp m
          exact gO x hx
        refine r_neStrs (SU _ _ epb) eT4 gq gq ?_
        walk_at "st"
        refine r_iteB (fun h => by simp at h) (fun _ => ?_)
        have stU := stS.same SU
        have hv1 := SU _ _ hv1
        have hv2 := SU _ _ hv2
        have hv3 := hv3.to (Tups.same SU)
        have lvu : vu.length ≤ 20 := by rw [hv3.1]; omega
        clear ho1 ho2 ho3 eT4 SU hT4 eD3 smT epb hys hD3 stS
        walk_at "st"
        walk_at "if"
        refine ⟨av, n, ts, rfl, ⟨av, vb, vu, rfl, hv1, hv2, hv3⟩, by omega, fun pb HS smS epb => ?_⟩
        have hv1 := smS _ _ hv1
        have hv2 := smS _ _ hv2
        have hv3 := hv3.to (Tups.same smS)
        have stS := stU.same smS
        walk_at "st"
        intro D3 hD3
        refine lc_map (walk_tup (xs := vu)) (by omega) hD3 (fun i y _ => ∃ z, (ts.map fun x : Tr => x.1)[i]? = some z ∧ y = .str z) (fun _ _ _ _ h _ => h) (fun _ _ _ _ _ h _ => h) (fun H' k => SqT.of (k _ _ hv2)) (fun i H1 x H2 y => by rw [y.1]; exact Same.refl _)
          (fun i x H1 H2 Y No hi sm y hY => ?_) (fun ys HT ely smT eD3 hys => ?_)
        · obtain ⟨rfl, ex⟩ := y
          obtain ⟨⟨z, k⟩, ez, t, rfl, ht⟩ := hv3.2 i x ex
          have ht3 := sm _ _ ht
          refine ⟨rfl, ?_⟩
          walk_at "st"
          exact hY _ _ (Same.refl _) ⟨z, by rw [List.getElem?_map, ez]; rfl, rfl⟩
        rw [strs_of (by rw [ely, hv3.1, List.length_map]) hys] at eD3
        walk_at "st"
        intro T4 hT4
        have SU : Same HS (upd HT T4 (.tup ((ts.map fun x : Tr => x.1).map V.str))) := smT.trans (Same.upd_new hT4)
        have eT4 : upd HT T4 (.tup ((ts.map fun x : Tr => x.1).map V.str)) T4 = some (.tup ((ts.map fun x : Tr => x.1).map V.str)) := upd_same
        generalize upd HT T4 (.tup ((ts.map fun x : Tr => x.1).map V.str)) = HU at *
        have gq : ∀ z ∈ ts.map (fun x : Tr => x.1), goodW (cs z) := fun z m => by
          obtain ⟨x, hx, rfl⟩ := List.mem_map.mp m
          exact (ok.ok.ok x hx).1
        refine r_neStrs (SU _ _ epb) eT4 gq gq ?_
        walk_at "st"
        refine r_iteB (fun h => by simp at h) (fun _ => ?_)
        walk_at "st"
        exact ⟨_, _, _, _, _, _, _, _, _, _, _, _, _, _, _, _, _, rfl, stS.same SU⟩
    · obtain ⟨x2, x3, x4, x5, x6, x7, x8, x9, x10, x11, x12, x13, x14, x15, x16, x17, x18, rfl, st2⟩ := p
      walk_at "st"
      exact fin _
end
/-! ### what the top has written; the law -/
theorem all_mk {l : PySem.W.OpenLaw} {w : World} {K : PySem.W.Frag} {h : Heap} {mg : Str → Option Value} {fa : Addr} (X : K.In h) (G : h.Ns mainGlobals mg) (hfa : mg "law" = some (.ref fa))
    {od1 an1 : Option Addr} {sl1 : Array (Option Value)} {oc1 kV1 dc1 pm1 cd1 ct1 : Value} {f1 : Addr}
    {od2 an2 : Option Addr} {sl2 : Array (Option Value)} {oc2 kV2 dc2 pm2 cd2 ct2 : Value} {f2 : Addr}
    {od3 an3 : Option Addr} {sl3 : Array (Option Value)} {oc3 kV3 dc3 pm3 cd3 ct3 : Value} {f3 : Addr}
    {od4 an4 : Option Addr} {sl4 : Array (Option Value)} {oc4 kV4 dc4 pm4 cd4 ct4 : Value} {f4 : Addr}
    {od5 an5 : Option Addr} {sl5 : Array (Option Value)} {oc5 kV5 dc5 pm5 cd5 ct5 : Value} {f5 : Addr}
    {od6 an6 : Option Addr} {sl6 : Array (Option Value)} {oc6 kV6 dc6 pm6 cd6 ct6 : Value} {f6 : Addr}
    {od7 an7 : Option Addr} {sl7 : Array (Option Value)} {oc7 kV7 dc7 pm7 cd7 ct7 : Value} {f7 : Addr}
    {od8 an8 : Option Addr} {sl8 : Array (Option Value)} {oc8 kV8 dc8 pm8 cd8 ct8 : Value} {f8 : Addr}
    {od9 an9 : Option Addr} {sl9 : Array (Option Value)} {oc9 kV9 dc9 pm9 cd9 ct9 : Value} {f9 : Addr}
    {od10 an10 : Option Addr} {sl10 : Array (Option Value)} {oc10 kV10 dc10 pm10 cd10 ct10 : Value} {f10 : Addr}
    {od11 an11 : Option Addr} {sl11 : Array (Option Value)} {oc11 kV11 dc11 pm11 cd11 ct11 : Value} {f11 : Addr}
    {od12 an12 : Option Addr} {sl12 : Array (Option Value)} {oc12 kV12 dc12 pm12 cd12 ct12 : Value} {f12 : Addr}
    {od13 an13 : Option Addr} {sl13 : Array (Option Value)} {oc13 kV13 dc13 pm13 cd13 ct13 : Value} {f13 : Addr}
    {od14 an14 : Option Addr} {sl14 : Array (Option Value)} {oc14 kV14 dc14 pm14 cd14 ct14 : Value} {f14 : Addr}
    {od15 an15 : Option Addr} {sl15 : Array (Option Value)} {oc15 kV15 dc15 pm15 cd15 ct15 : Value} {f15 : Addr}
    {od16 an16 : Option Addr} {sl16 : Array (Option Value)} {oc16 kV16 dc16 pm16 cd16 ct16 : Value} {f16 : Addr}
    {od17 an17 : Option Addr} {sl17 : Array (Option Value)} {oc17 kV17 dc17 pm17 cd17 ct17 : Value} {f17 : Addr}
    {od18 an18 : Option Addr} {sl18 : Array (Option Value)} {oc18 kV18 dc18 pm18 cd18 ct18 : Value} {f18 : Addr}
    {od19 an19 : Option Addr} {sl19 : Array (Option Value)} {oc19 kV19 dc19 pm19 cd19 ct19 : Value} {f19 : Addr}
    {od20 an20 : Option Addr} {sl20 : Array (Option Value)} {oc20 kV20 dc20 pm20 cd20 ct20 : Value} {f20 : Addr}
    {od21 an21 : Option Addr} {sl21 : Array (Option Value)} {oc21 kV21 dc21 pm21 cd21 ct21 : Value} {f21 : Addr}
    (a1 : PySem.W.nsIn K mainGlobals "is_whole" = some (some (.ref f1))) (l1 : K.lookup f1 = some ⟨oc1, od1, .func (PySem.W.fnOf "is_whole" "is_whole" (defArgs s_is_whole) (defBody s_is_whole) (defScope s_is_whole) .none kV1 dc1 pm1 an1 cd1 ct1), sl1⟩) (c1 : PySem.W.codeIn K cd1 "is_whole" = true) (k1 : PySem.W.keepIn K (.ref f1) = true)
    (a2 : PySem.W.nsIn K mainGlobals "is_number" = some (some (.ref f2))) (l2 : K.lookup f2 = some ⟨oc2, od2, .func (PySem.W.fnOf "is_number" "is_number" (defArgs s_is_number) (defBody s_is_number) (defScope s_is_number) .none kV2 dc2 pm2 an2 cd2 ct2), sl2⟩) (c2 : PySem.W.codeIn K cd2 "is_number" = true) (k2 : PySem.W.keepIn K (.ref f2) = true)
    (a3 : PySem.W.nsIn K mainGlobals "is_place" = some (some (.ref f3))) (l3 : K.lookup f3 = some ⟨oc3, od3, .func (PySem.W.fnOf "is_place" "is_place" (defArgs s_is_place) (defBody s_is_place) (defScope s_is_place) .none kV3 dc3 pm3 an3 cd3 ct3), sl3⟩) (c3 : PySem.W.codeIn K cd3 "is_place" = true) (k3 : PySem.W.keepIn K (.ref f3) = true)
    (a4 : PySem.W.nsIn K mainGlobals "has_only" = some (some (.ref f4))) (l4 : K.lookup f4 = some ⟨oc4, od4, .func (PySem.W.fnOf "has_only" "has_only" (defArgs s_has_only) (defBody s_has_only) (defScope s_has_only) .none kV4 dc4 pm4 an4 cd4 ct4), sl4⟩) (c4 : PySem.W.codeIn K cd4 "has_only" = true) (k4 : PySem.W.keepIn K (.ref f4) = true)
    (a5 : PySem.W.nsIn K mainGlobals "is_tuple" = some (some (.ref f5))) (l5 : K.lookup f5 = some ⟨oc5, od5, .func (PySem.W.fnOf "is_tuple" "is_tuple" (defArgs s_is_tuple) (defBody s_is_tuple) (defScope s_is_tuple) .none kV5 dc5 pm5 an5 cd5 ct5), sl5⟩) (c5 : PySem.W.codeIn K cd5 "is_tuple" = true) (k5 : PySem.W.keepIn K (.ref f5) = true)
    (a6 : PySem.W.nsIn K mainGlobals "do_rise" = some (some (.ref f6))) (l6 : K.lookup f6 = some ⟨oc6, od6, .func (PySem.W.fnOf "do_rise" "do_rise" (defArgs s_do_rise) (defBody s_do_rise) (defScope s_do_rise) .none kV6 dc6 pm6 an6 cd6 ct6), sl6⟩) (c6 : PySem.W.codeIn K cd6 "do_rise" = true) (k6 : PySem.W.keepIn K (.ref f6) = true)
    (a7 : PySem.W.nsIn K mainGlobals "is_form" = some (some (.ref f7))) (l7 : K.lookup f7 = some ⟨oc7, od7, .func (PySem.W.fnOf "is_form" "is_form" (defArgs s_is_form) (defBody s_is_form) (defScope s_is_form) .none kV7 dc7 pm7 an7 cd7 ct7), sl7⟩) (c7 : PySem.W.codeIn K cd7 "is_form" = true) (k7 : PySem.W.keepIn K (.ref f7) = true)
    (a8 : PySem.W.nsIn K mainGlobals "is_term" = some (some (.ref f8))) (l8 : K.lookup f8 = some ⟨oc8, od8, .func (PySem.W.fnOf "is_term" "is_term" (defArgs s_is_term) (defBody s_is_term) (defScope s_is_term) .none kV8 dc8 pm8 an8 cd8 ct8), sl8⟩) (c8 : PySem.W.codeIn K cd8 "is_term" = true) (k8 : PySem.W.keepIn K (.ref f8) = true)
    (a9 : PySem.W.nsIn K mainGlobals "new_form" = some (some (.ref f9))) (l9 : K.lookup f9 = some ⟨oc9, od9, .func (PySem.W.fnOf "new_form" "new_form" (defArgs s_new_form) (defBody s_new_form) (defScope s_new_form) .none kV9 dc9 pm9 an9 cd9 ct9), sl9⟩) (c9 : PySem.W.codeIn K cd9 "new_form" = true) (k9 : PySem.W.keepIn K (.ref f9) = true)
    (a10 : PySem.W.nsIn K mainGlobals "places_in" = some (some (.ref f10))) (l10 : K.lookup f10 = some ⟨oc10, od10, .func (PySem.W.fnOf "places_in" "places_in" (defArgs s_places_in) (defBody s_places_in) (defScope s_places_in) .none kV10 dc10 pm10 an10 cd10 ct10), sl10⟩) (c10 : PySem.W.codeIn K cd10 "places_in" = true) (k10 : PySem.W.keepIn K (.ref f10) = true)
    (a11 : PySem.W.nsIn K mainGlobals "_law_begun" = some (some (.ref f11))) (l11 : K.lookup f11 = some ⟨oc11, od11, .func (PySem.W.fnOf "_law_begun" "_law_begun" (defArgs s_law_begun) (defBody s_law_begun) (defScope s_law_begun) .none kV11 dc11 pm11 an11 cd11 ct11), sl11⟩) (c11 : PySem.W.codeIn K cd11 "_law_begun" = true) (k11 : PySem.W.keepIn K (.ref f11) = true)
    (a12 : PySem.W.nsIn K mainGlobals "_law_draw" = some (some (.ref f12))) (l12 : K.lookup f12 = some ⟨oc12, od12, .func (PySem.W.fnOf "_law_draw" "_law_draw" (defArgs s_law_draw) (defBody s_law_draw) (defScope s_law_draw) .none kV12 dc12 pm12 an12 cd12 ct12), sl12⟩) (c12 : PySem.W.codeIn K cd12 "_law_draw" = true) (k12 : PySem.W.keepIn K (.ref f12) = true)
    (a13 : PySem.W.nsIn K mainGlobals "_law_prime" = some (some (.ref f13))) (l13 : K.lookup f13 = some ⟨oc13, od13, .func (PySem.W.fnOf "_law_prime" "_law_prime" (defArgs s_law_prime) (defBody s_law_prime) (defScope s_law_prime) .none kV13 dc13 pm13 an13 cd13 ct13), sl13⟩) (c13 : PySem.W.codeIn K cd13 "_law_prime" = true) (k13 : PySem.W.keepIn K (.ref f13) = true)
    (a14 : PySem.W.nsIn K mainGlobals "_law_place" = some (some (.ref f14))) (l14 : K.lookup f14 = some ⟨oc14, od14, .func (PySem.W.fnOf "_law_place" "_law_place" (defArgs s_law_place) (defBody s_law_place) (defScope s_law_place) .none kV14 dc14 pm14 an14 cd14 ct14), sl14⟩) (c14 : PySem.W.codeIn K cd14 "_law_place" = true) (k14 : PySem.W.keepIn K (.ref f14) = true)
    (a15 : PySem.W.nsIn K mainGlobals "_law_places" = some (some (.ref f15))) (l15 : K.lookup f15 = some ⟨oc15, od15, .func (PySem.W.fnOf "_law_places" "_law_places" (defArgs s_law_places) (defBody s_law_places) (defScope s_law_places) .none kV15 dc15 pm15 an15 cd15 ct15), sl15⟩) (c15 : PySem.W.codeIn K cd15 "_law_places" = true) (k15 : PySem.W.keepIn K (.ref f15) = true)
    (a16 : PySem.W.nsIn K mainGlobals "_law_form" = some (some (.ref f16))) (l16 : K.lookup f16 = some ⟨oc16, od16, .func (PySem.W.fnOf "_law_form" "_law_form" (defArgs s_law_form) (defBody s_law_form) (defScope s_law_form) .none kV16 dc16 pm16 an16 cd16 ct16), sl16⟩) (c16 : PySem.W.codeIn K cd16 "_law_form" = true) (k16 : PySem.W.keepIn K (.ref f16) = true)
    (a17 : PySem.W.nsIn K mainGlobals "_law_is_place" = some (some (.ref f17))) (l17 : K.lookup f17 = some ⟨oc17, od17, .func (PySem.W.fnOf "_law_is_place" "_law_is_place" (defArgs s_law_is_place) (defBody s_law_is_place) (defScope s_law_is_place) .none kV17 dc17 pm17 an17 cd17 ct17), sl17⟩) (c17 : PySem.W.codeIn K cd17 "_law_is_place" = true) (k17 : PySem.W.keepIn K (.ref f17) = true)
    (a18 : PySem.W.nsIn K mainGlobals "_law_good" = some (some (.ref f18))) (l18 : K.lookup f18 = some ⟨oc18, od18, .func (PySem.W.fnOf "_law_good" "_law_good" (defArgs s_law_good) (defBody s_law_good) (defScope s_law_good) .none kV18 dc18 pm18 an18 cd18 ct18), sl18⟩) (c18 : PySem.W.codeIn K cd18 "_law_good" = true) (k18 : PySem.W.keepIn K (.ref f18) = true)
    (a19 : PySem.W.nsIn K mainGlobals "_law_bent" = some (some (.ref f19))) (l19 : K.lookup f19 = some ⟨oc19, od19, .func (PySem.W.fnOf "_law_bent" "_law_bent" (defArgs s_law_bent) (defBody s_law_bent) (defScope s_law_bent) .none kV19 dc19 pm19 an19 cd19 ct19), sl19⟩) (c19 : PySem.W.codeIn K cd19 "_law_bent" = true) (k19 : PySem.W.keepIn K (.ref f19) = true)
    (a20 : PySem.W.nsIn K mainGlobals "_law_pairs" = some (some (.ref f20))) (l20 : K.lookup f20 = some ⟨oc20, od20, .func (PySem.W.fnOf "_law_pairs" "_law_pairs" (defArgs s_law_pairs) (defBody s_law_pairs) (defScope s_law_pairs) .none kV20 dc20 pm20 an20 cd20 ct20), sl20⟩) (c20 : PySem.W.codeIn K cd20 "_law_pairs" = true) (k20 : PySem.W.keepIn K (.ref f20) = true)
    (a21 : PySem.W.nsIn K mainGlobals "law" = some (some (.ref f21))) (l21 : K.lookup f21 = some ⟨oc21, od21, .func (PySem.W.fnOf "law" "law" (defArgs s_law) (defBody s_law) (defScope s_law) .none kV21 dc21 pm21 an21 cd21 ct21), sl21⟩) (c21 : PySem.W.codeIn K cd21 "law" = true) (k21 : PySem.W.keepIn K (.ref f21) = true)
    (z_abs : PySem.W.nsIn K mainGlobals "abs" = some none)
    (z_all : PySem.W.nsIn K mainGlobals "all" = some none)
    (z_bool : PySem.W.nsIn K mainGlobals "bool" = some none)
    (z_dict : PySem.W.nsIn K mainGlobals "dict" = some none)
    (z_int : PySem.W.nsIn K mainGlobals "int" = some none)
    (z_isinstance : PySem.W.nsIn K mainGlobals "isinstance" = some none)
    (z_len : PySem.W.nsIn K mainGlobals "len" = some none)
    (z_list : PySem.W.nsIn K mainGlobals "list" = some none)
    (z_range : PySem.W.nsIn K mainGlobals "range" = some none)
    (z_repr : PySem.W.nsIn K mainGlobals "repr" = some none)
    (z_sorted : PySem.W.nsIn K mainGlobals "sorted" = some none)
    (z_str : PySem.W.nsIn K mainGlobals "str" = some none)
    (z_sum : PySem.W.nsIn K mainGlobals "sum" = some none)
    (z_tuple : PySem.W.nsIn K mainGlobals "tuple" = some none)
    (z_zip : PySem.W.nsIn K mainGlobals "zip" = some none)
    {t_FIGURES : Tok} (y_FIGURES : PySem.W.nsIn K mainGlobals "FIGURES" = some (some (.str "0123456789" t_FIGURES)))
    {t_LETTERS : Tok} (y_LETTERS : PySem.W.nsIn K mainGlobals "LETTERS" = some (some (.str "abcdefghijklmnopqrstuvwxyz" t_LETTERS)))
    {t_LONGEST_PLACE : Tok} (y_LONGEST_PLACE : PySem.W.nsIn K mainGlobals "LONGEST_PLACE" = some (some (.int 40 t_LONGEST_PLACE))) :
    ∃ fd : FuncData, (∀ (s : Shared) (v : Value), BindsTo s fd ⟨[v], []⟩ [("script", v)]) ∧ ∀ base : Heap, K.In base → base.Ns mainGlobals mg → FnG l.prog w K mg base 5 fa fd ["script"] (sp_law K) := by
  have e := hfa.symm.trans (PySem.W.mg_of X G a21)
  cases e
  have G1 := fun_mk (st := s_is_whole) l1 c1 k1
  have F1 : Here K mg "is_whole" s_is_whole ["thing"] f1 _ := ⟨G1, PySem.W.mg_of X G a1, G1.binds (ps := ["thing"]) fun _ _ _ _ _ _ us hl => match us, hl with | [_], _ => rfl⟩
  have G2 := fun_mk (st := s_is_number) l2 c2 k2
  have F2 : Here K mg "is_number" s_is_number ["thing", "p"] f2 _ := ⟨G2, PySem.W.mg_of X G a2, G2.binds (ps := ["thing", "p"]) fun _ _ _ _ _ _ us hl => match us, hl with | [_, _], _ => rfl⟩
  have G3 := fun_mk (st := s_is_place) l3 c3 k3
  have F3 : Here K mg "is_place" s_is_place ["thing"] f3 _ := ⟨G3, PySem.W.mg_of X G a3, G3.binds (ps := ["thing"]) fun _ _ _ _ _ _ us hl => match us, hl with | [_], _ => rfl⟩
  have G4 := fun_mk (st := s_has_only) l4 c4 k4
  have F4 : Here K mg "has_only" s_has_only ["text", "signs"] f4 _ := ⟨G4, PySem.W.mg_of X G a4, G4.binds (ps := ["text", "signs"]) fun _ _ _ _ _ _ us hl => match us, hl with | [_, _], _ => rfl⟩
  have G5 := fun_mk (st := s_is_tuple) l5 c5 k5
  have F5 : Here K mg "is_tuple" s_is_tuple ["thing", "least", "most"] f5 _ := ⟨G5, PySem.W.mg_of X G a5, G5.binds (ps := ["thing", "least", "most"]) fun _ _ _ _ _ _ us hl => match us, hl with | [_, _, _], _ => rfl⟩
  have G6 := fun_mk (st := s_do_rise) l6 c6 k6
  have F6 : Here K mg "do_rise" s_do_rise ["things"] f6 _ := ⟨G6, PySem.W.mg_of X G a6, G6.binds (ps := ["things"]) fun _ _ _ _ _ _ us hl => match us, hl with | [_], _ => rfl⟩
  have G7 := fun_mk (st := s_is_form) l7 c7 k7
  have F7 : Here K mg "is_form" s_is_form ["thing", "p"] f7 _ := ⟨G7, PySem.W.mg_of X G a7, G7.binds (ps := ["thing", "p"]) fun _ _ _ _ _ _ us hl => match us, hl with | [_, _], _ => rfl⟩
  have G8 := fun_mk (st := s_is_term) l8 c8 k8
  have F8 : Here K mg "is_term" s_is_term ["thing", "p"] f8 _ := ⟨G8, PySem.W.mg_of X G a8, G8.binds (ps := ["thing", "p"]) fun _ _ _ _ _ _ us hl => match us, hl with | [_, _], _ => rfl⟩
  have G9 := fun_mk (st := s_new_form) l9 c9 k9
  have F9 : Here K mg "new_form" s_new_form ["n", "pairs", "p"] f9 _ := ⟨G9, PySem.W.mg_of X G a9, G9.binds (ps := ["n", "pairs", "p"]) fun _ _ _ _ _ _ us hl => match us, hl with | [_, _, _], _ => rfl⟩
  have G10 := fun_mk (st := s_places_in) l10 c10 k10
  have F10 : Here K mg "places_in" s_places_in ["form"] f10 _ := ⟨G10, PySem.W.mg_of X G a10, G10.binds (ps := ["form"]) fun _ _ _ _ _ _ us hl => match us, hl with | [_], _ => rfl⟩
  have G11 := fun_mk (st := s_law_begun) l11 c11 k11
  have F11 : Here K mg "_law_begun" s_law_begun ["script"] f11 _ := ⟨G11, PySem.W.mg_of X G a11, G11.binds (ps := ["script"]) fun _ _ _ _ _ _ us hl => match us, hl with | [_], _ => rfl⟩
  have G12 := fun_mk (st := s_law_draw) l12 c12 k12
  have F12 : Here K mg "_law_draw" s_law_draw ["state", "many"] f12 _ := ⟨G12, PySem.W.mg_of X G a12, G12.binds (ps := ["state", "many"]) fun _ _ _ _ _ _ us hl => match us, hl with | [_, _], _ => rfl⟩
  have G13 := fun_mk (st := s_law_prime) l13 c13 k13
  have F13 : Here K mg "_law_prime" s_law_prime ["state"] f13 _ := ⟨G13, PySem.W.mg_of X G a13, G13.binds (ps := ["state"]) fun _ _ _ _ _ _ us hl => match us, hl with | [_], _ => rfl⟩
  have G14 := fun_mk (st := s_law_place) l14 c14 k14
  have F14 : Here K mg "_law_place" s_law_place ["state"] f14 _ := ⟨G14, PySem.W.mg_of X G a14, G14.binds (ps := ["state"]) fun _ _ _ _ _ _ us hl => match us, hl with | [_], _ => rfl⟩
  have G15 := fun_mk (st := s_law_places) l15 c15 k15
  have F15 : Here K mg "_law_places" s_law_places ["state", "many"] f15 _ := ⟨G15, PySem.W.mg_of X G a15, G15.binds (ps := ["state", "many"]) fun _ _ _ _ _ _ us hl => match us, hl with | [_, _], _ => rfl⟩
  have G16 := fun_mk (st := s_law_form) l16 c16 k16
  have F16 : Here K mg "_law_form" s_law_form ["state", "places", "q"] f16 _ := ⟨G16, PySem.W.mg_of X G a16, G16.binds (ps := ["state", "places", "q"]) fun _ _ _ _ _ _ us hl => match us, hl with | [_, _, _], _ => rfl⟩
  have G17 := fun_mk (st := s_law_is_place) l17 c17 k17
  have F17 : Here K mg "_law_is_place" s_law_is_place ["what"] f17 _ := ⟨G17, PySem.W.mg_of X G a17, G17.binds (ps := ["what"]) fun _ _ _ _ _ _ us hl => match us, hl with | [_], _ => rfl⟩
  have G18 := fun_mk (st := s_law_good) l18 c18 k18
  have F18 : Here K mg "_law_good" s_law_good ["what", "q"] f18 _ := ⟨G18, PySem.W.mg_of X G a18, G18.binds (ps := ["what", "q"]) fun _ _ _ _ _ _ us hl => match us, hl with | [_, _], _ => rfl⟩
  have G19 := fun_mk (st := s_law_bent) l19 c19 k19
  have F19 : Here K mg "_law_bent" s_law_bent ["state", "lot", "q"] f19 _ := ⟨G19, PySem.W.mg_of X G a19, G19.binds (ps := ["state", "lot", "q"]) fun _ _ _ _ _ _ us hl => match us, hl with | [_, _, _], _ => rfl⟩
  have G20 := fun_mk (st := s_law_pairs) l20 c20 k20
  have F20 : Here K mg "_law_pairs" s_law_pairs ["state", "places", "q"] f20 _ := ⟨G20, PySem.W.mg_of X G a20, G20.binds (ps := ["state", "places", "q"]) fun _ _ _ _ _ _ us hl => match us, hl with | [_, _, _], _ => rfl⟩
  have G21 := fun_mk (st := s_law) l21 c21 k21
  have F21 : Here K mg "law" s_law ["script"] fa _ := ⟨G21, PySem.W.mg_of X G a21, G21.binds (ps := ["script"]) fun _ _ _ _ _ _ us hl => match us, hl with | [_], _ => rfl⟩
  have T : Tx K mg := ⟨⟨_, PySem.W.mg_of X G y_FIGURES⟩, ⟨_, PySem.W.mg_of X G y_LETTERS⟩, ⟨_, PySem.W.mg_of X G y_LONGEST_PLACE⟩, PySem.W.mg_none_of X G z_abs, PySem.W.mg_none_of X G z_all, PySem.W.mg_none_of X G z_bool, PySem.W.mg_none_of X G z_dict, PySem.W.mg_none_of X G z_int, PySem.W.mg_none_of X G z_isinstance, PySem.W.mg_none_of X G z_len, PySem.W.mg_none_of X G z_list, PySem.W.mg_none_of X G z_range, PySem.W.mg_none_of X G z_repr, PySem.W.mg_none_of X G z_sorted, PySem.W.mg_none_of X G z_str, PySem.W.mg_none_of X G z_sum, PySem.W.mg_none_of X G z_tuple, PySem.W.mg_none_of X G z_zip⟩
  refine ⟨PySem.W.fnOf "law" "law" (defArgs s_law) (defBody s_law) (defScope s_law) .none kV21 dc21 pm21 an21 cd21 ct21, fun s v => .of_eq rfl, fun base _ _ => ?_⟩
  have C_law_begun := ok_law_begun (P := l.prog) (w := w) (base := base) T  F11
  have C_law_draw := ok_law_draw (P := l.prog) (w := w) (base := base) T  F12
  have C_law_prime := ok_law_prime (P := l.prog) (w := w) (base := base) T C_law_draw F13
  have C_law_place := ok_law_place (P := l.prog) (w := w) (base := base) T C_law_draw F14
  have C_law_places := ok_law_places (P := l.prog) (w := w) (base := base) T C_law_place C_law_draw F15
  have C_law_form := ok_law_form (P := l.prog) (w := w) (base := base) T C_law_draw F16
  have C_new_form := ok_new_form (P := l.prog) (w := w) (base := base) T  F9
  have C_is_tuple := ok_is_tuple (P := l.prog) (w := w) (base := base) T  F5
  have C_do_rise := ok_do_rise (P := l.prog) (w := w) (base := base) T  F6
  have C_is_whole := ok_is_whole (P := l.prog) (w := w) (base := base) T  F1
  have C_is_number := ok_is_number (P := l.prog) (w := w) (base := base) T C_is_whole F2
  have C_has_only := ok_has_only (P := l.prog) (w := w) (base := base) T  F4
  have C_is_place := ok_is_place (P := l.prog) (w := w) (base := base) T C_has_only F3
  have C_is_term := ok_is_term (P := l.prog) (w := w) (base := base) T C_is_tuple C_is_place C_is_number F8
  have C_is_form := ok_is_form (P := l.prog) (w := w) (base := base) T C_is_tuple C_do_rise C_is_number C_is_term F7
  have C_law_pairs := ok_law_pairs (P := l.prog) (w := w) (base := base) T C_law_draw F20
  have C_places_in := ok_places_in (P := l.prog) (w := w) (base := base) T  F10
  have C_law_bent := ok_law_bent (P := l.prog) (w := w) (base := base) T C_law_draw F19
  have C_law_is_place := ok_law_is_place (P := l.prog) (w := w) (base := base) T  F17
  have C_law_good := ok_law_good (P := l.prog) (w := w) (base := base) T C_law_is_place F18
  have C_law := ok_law (P := l.prog) (w := w) (base := base) T C_law_begun C_law_prime C_law_places C_law_form C_new_form C_is_form C_law_pairs C_places_in C_law_bent C_law_draw C_law_good F21
  exact C_law
end Z
open PySem PySem.W PyProof.Rows
set_option maxHeartbeats 0 in
theorem PySem.Challenge.cw_onetrace_k02_forms_known_and_made_holds : PySem.Challenge.rw_onetrace_k02_forms_known_and_made.Holds := by
  w_on; o_law; k_head; (case hw => w_witness2)
  k_fill
  refine Z.walkG_of (l := PySem.Challenge.rw_onetrace_k02_forms_known_and_made) (n := 63) (k := 5) (x := "script") (sp := fun w => Z.sp_law _) rfl (by decide) rfl ⟨rfl, by decide, by decide⟩ (fun w h Y => PySem.W.kIn_of Y) ?F (fun _ _ a ns hl _ hS => ⟨a, ns, rfl, hS, hl, fun _ => rfl⟩)
  case F =>
    intro w mg fa h KX G hmg
    refine' Z.all_mk KX G hmg ?a1 ?l1 ?c1 ?k1 ?a2 ?l2 ?c2 ?k2 ?a3 ?l3 ?c3 ?k3 ?a4 ?l4 ?c4 ?k4 ?a5 ?l5 ?c5 ?k5 ?a6 ?l6 ?c6 ?k6 ?a7 ?l7 ?c7 ?k7 ?a8 ?l8 ?c8 ?k8 ?a9 ?l9 ?c9 ?k9 ?a10 ?l10 ?c10 ?k10 ?a11 ?l11 ?c11 ?k11 ?a12 ?l12 ?c12 ?k12 ?a13 ?l13 ?c13 ?k13 ?a14 ?l14 ?c14 ?k14 ?a15 ?l15 ?c15 ?k15 ?a16 ?l16 ?c16 ?k16 ?a17 ?l17 ?c17 ?k17 ?a18 ?l18 ?c18 ?k18 ?a19 ?l19 ?c19 ?k19 ?a20 ?l20 ?c20 ?k20 ?a21 ?l21 ?c21 ?k21 ?z_abs ?z_all ?z_bool ?z_dict ?z_int ?z_isinstance ?z_len ?z_list ?z_range ?z_repr ?z_sorted ?z_str ?z_sum ?z_tuple ?z_zip ?y_FIGURES ?y_LETTERS ?y_LONGEST_PLACE
    (case a1 => k_is)
    (case l1 => k_is)
    (case c1 => k_is)
    (case k1 => k_is)
    (case a2 => k_is)
    (case l2 => k_is)
    (case c2 => k_is)
    (case k2 => k_is)
    (case a3 => k_is)
    (case l3 => k_is)
    (case c3 => k_is)
    (case k3 => k_is)
    (case a4 => k_is)
    (case l4 => k_is)
    (case c4 => k_is)
    (case k4 => k_is)
    (case a5 => k_is)
    (case l5 => k_is)
    (case c5 => k_is)
    (case k5 => k_is)
    (case a6 => k_is)
    (case l6 => k_is)
    (case c6 => k_is)
    (case k6 => k_is)
    (case a7 => k_is)
    (case l7 => k_is)
    (case c7 => k_is)
    (case k7 => k_is)
    (case a8 => k_is)
    (case l8 => k_is)
    (case c8 => k_is)
    (case k8 => k_is)
    (case a9 => k_is)
    (case l9 => k_is)
    (case c9 => k_is)
    (case k9 => k_is)
    (case a10 => k_is)
    (case l10 => k_is)
    (case c10 => k_is)
    (case k10 => k_is)
    (case a11 => k_is)
    (case l11 => k_is)
    (case c11 => k_is)
    (case k11 => k_is)
    (case a12 => k_is)
    (case l12 => k_is)
    (case c12 => k_is)
    (case k12 => k_is)
    (case a13 => k_is)
    (case l13 => k_is)
    (case c13 => k_is)
    (case k13 => k_is)
    (case a14 => k_is)
    (case l14 => k_is)
    (case c14 => k_is)
    (case k14 => k_is)
    (case a15 => k_is)
    (case l15 => k_is)
    (case c15 => k_is)
    (case k15 => k_is)
    (case a16 => k_is)
    (case l16 => k_is)
    (case c16 => k_is)
    (case k16 => k_is)
    (case a17 => k_is)
    (case l17 => k_is)
    (case c17 => k_is)
    (case k17 => k_is)
    (case a18 => k_is)
    (case l18 => k_is)
    (case c18 => k_is)
    (case k18 => k_is)
    (case a19 => k_is)
    (case l19 => k_is)
    (case c19 => k_is)
    (case k19 => k_is)
    (case a20 => k_is)
    (case l20 => k_is)
    (case c20 => k_is)
    (case k20 => k_is)
    (case a21 => k_is)
    (case l21 => k_is)
    (case c21 => k_is)
    (case k21 => k_is)
    (case z_abs => k_is)
    (case z_all => k_is)
    (case z_bool => k_is)
    (case z_dict => k_is)
    (case z_int => k_is)
    (case z_isinstance => k_is)
    (case z_len => k_is)
    (case z_list => k_is)
    (case z_range => k_is)
    (case z_repr => k_is)
    (case z_sorted => k_is)
    (case z_str => k_is)
    (case z_sum => k_is)
    (case z_tuple => k_is)
    (case z_zip => k_is)
    (case y_FIGURES => k_is)
    (case y_LETTERS => k_is)
    (case y_LONGEST_PLACE => k_is)
