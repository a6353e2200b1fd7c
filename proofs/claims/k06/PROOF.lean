import PyProof.Rows.All
import Wide.All
import OpenK.AllK
import Wide.FinOn
import HandS.ForMost
import HandS.Wide
import HandS.Zip
import HandS.Walk
import HandS.IsInst
import HandS.TupAny
import HandS.Style
import HandS.SortOrd
import HandS.Remove
import KE.DataFind
import KE.GoesEnum
import HandS.TupMul
import PySem.Challenge.RW_onetrace_k06_rows_known
set_option Elab.async false
set_option linter.all false
set_option maxRecDepth 100000
set_option maxHeartbeats 4000000
namespace Z
open PySem PySem.Spec PyProof.Rows L2 RZ
/-- a def that is called: where it stands, what it promises -/
structure Cal (P : Program) (w : World) (K : PySem.W.Frag) (mg : Str → Option Value) (base : Heap) (x : Str) (k : Nat) (ps : List Str) (sp : Sp) (st : Stmt) (f : Addr) (fd : FuncData) : Prop where
  ok : FnOk P w K mg base CX0 k f fd ps sp
  at_ : mg x = some (.ref f)
  kp : PySem.W.keepIn K (.ref f) = true
  b : Binds K fd ps []
  fn : Fun K x x st f fd
/-- a def as it stands behind the top -/
structure Here (K : PySem.W.Frag) (mg : Str → Option Value) (x : Str) (st : Stmt) (ps : List Str) (f : Addr) (fd : FuncData) : Prop where
  fn : Fun K x x st f fd
  at_ : mg x = some (.ref f)
  b : Binds K fd ps []
section
variable {P : Program} {w : World} {K : PySem.W.Frag} {mg : Str → Option Value} {base : Heap}
theorem Here.cal {x : Str} {st : Stmt} {ps N : List Str} {f : Addr} {fd : FuncData} {k : Nat} {sp : Sp} (F : Here K mg x st ps f fd) (S : FnScope N ps (defScope st)) (len : ∀ vs H Q E, sp vs H Q E → vs.length = ps.length)
    (hbody : ∀ (cdv : Value) (A : Around) (outer : List Env) (s : Shared) (H : Hp) (vs : List V) (Q : VK) (E : XK), Room k (A.deeper (envOfC x (defScope st) s.heap.objs.size f cdv)) → sp vs H Q E →
      ∃ t, PSs (cxOf CX0 P w K mg base N x (defScope st) f cdv A outer s H E).nox (defBody st) t ∧ t { nx := fun _ H' => Q .non H', rt := Q } (L2.start N vs) H) : Cal P w K mg base x (k + 1) ps sp st f fd :=
  ⟨F.fn.ok S len hbody, F.at_, F.fn.kp, F.b, F.fn⟩
end
/-! readings, rule by rule -/
def rLen (K : PySem.W.Frag) : List V → Hp → VK → Prop := fun xs H Q => ∃ p ys, xs = [.ref p] ∧ (SqL K H p ys ∨ SqT K H p ys) ∧ Q (.int ys.length) H
theorem cr_len {X : Cx} : CallR X (.builtin "len") (rLen X.K) := call_len_seq
theorem r_app0 {l : Addr} {xs : List V} {y : V} {H : Hp} {Q : VK} (h : H l = some (.lst xs)) (z : xs.length < sizeLine) (q : Q .non (upd H l (.lst (xs ++ [y])))) : rAppend (.ref l) [y] H Q := ⟨l, xs, y, rfl, rfl, h, z, q⟩
theorem r_ty {K : PySem.W.Frag} {l : Addr} {xs : List V} {H : Hp} {A : Prop} (h : H l = some (.lst xs)) (q : A) : tyV K "list" (.ref l) H ∧ A := ⟨.inl ⟨rfl, _, .inl (.inl h)⟩, q⟩
theorem r_all {K : PySem.W.Frag} {a : Addr} {bs : List Bool} {H : Hp} {Q : VK} (h : SqL K H a (bs.map V.bl)) (q : Q (.bl (bs.all id)) H) : rAll K [.ref a] H Q := ⟨a, bs, rfl, h, q⟩
theorem r_sum {K : PySem.W.Frag} {a : Addr} {ns : List Int} {H : Hp} {Q : VK} (h : SqL K H a (ns.map V.int)) (q : Q (.int ns.sum) H) : rSum K [.ref a] H Q := ⟨a, ns, rfl, h, q⟩
theorem r_isi {K : PySem.W.Frag} {x c : V} {t u : Value} {b : Bool} {H : Hp} {Q : VK} (h1 : ClsV c u) (h2 : TyX K H x t) (h3 : PySem.W.kitOne K t u = some b) (q : Q (.bl b) H) : rIsi K [x, c] H Q := ⟨x, c, t, u, b, rfl, h1, h2, h3, q⟩
def rAbs : List V → Hp → VK → Prop := fun xs H Q => ∃ i, xs = [.int i] ∧ Q (.int (if i < 0 then -i else i)) H
theorem cr_abs {X : Cx} : CallR X (.builtin "abs") rAbs := call_abs
def rListOf (K : PySem.W.Frag) : List V → Hp → VK → Prop := fun xs H Q => ∃ p ys, xs = [.ref p] ∧ (SqL K H p ys ∨ SqT K H p ys) ∧ ∀ l, H l = none → Q (.ref l) (upd H l (.lst ys))
theorem cr_listOf {X : Cx} : CallR X (.type "list") (rListOf X.K) := call_list_of
def rTupOf (K : PySem.W.Frag) : List V → Hp → VK → Prop := fun xs H Q => ∃ p ys, xs = [.ref p] ∧ ((SqL K H p ys ∧ ∀ l, H l = none → Q (.ref l) (upd H l (.tup ys))) ∨ (SqT K H p ys ∧ Q (.ref p) H))
theorem cr_tupOf {X : Cx} : CallR X (.type "tuple") (rTupOf X.K) := call_tuple_of
section
variable {K : PySem.W.Frag} {D : Ends} {σ : L2.St} {H : Hp} {Q : VK}
theorem r_seq {t u : TS} (h : t { D with nx := u D } σ H) : tSeq t u D σ H := h
theorem r_asg {te : TE} {g : TG} (h : te σ H fun x H1 => g x σ H1 D.nx) : tAsg te g D σ H := h
theorem r_gname {i : Nat} {v : V} {N : L2.St → Hp → Prop} (h : N (σ.set i (some v)) H) : gName i v σ H N := h
theorem r_var {i : Nat} {v : V} (e : σ[i]? = some (some v)) (h : Q v H) : tVar i σ H Q := ⟨v, e, h⟩
theorem r_c {v : V} (h : Q v H) : tC v σ H Q := h
theorem r_op {r : R2} {ta tb : TE} (h : ta σ H fun x H1 => tb σ H1 fun y H2 => r x y H2 Q) : tOp r ta tb σ H Q := h
theorem r_i0 {g : Int → Int → V} {i j : Int} (h : Q (g i j) H) : rI0 g (.int i) (.int j) H Q := ⟨i, j, rfl, rfl, h⟩
theorem r_i {C : Int → Int → Prop} {g : Int → Int → V} {i j : Int} (c : C i j) (h : Q (g i j) H) : rI C g (.int i) (.int j) H Q := ⟨i, j, rfl, rfl, c, h⟩
theorem r_ixl {p : Addr} {xs : List V} {i : Int} {v : V} (h : SqL K H p xs) (e : atI xs i = some v) (q : Q v H) : rIxL K (.ref p) (.int i) H Q := ⟨p, xs, i, v, rfl, rfl, h, e, q⟩
theorem r_ixt {p : Addr} {xs : List V} {i : Int} {v : V} (h : SqT K H p xs) (e : atI xs i = some v) (q : Q v H) : rIxT K (.ref p) (.int i) H Q := ⟨p, xs, i, v, rfl, rfl, h, e, q⟩
theorem r_cb {r : List V → Hp → VK → Prop} {t : TA} (h : t σ H fun vs H1 => r vs H1 Q) : tCB r t σ H Q := h
theorem r_cons {ta : TE} {tr : TA} {R : List V → Hp → Prop} (h : ta σ H fun x H1 => tr σ H1 fun xs H2 => R (x :: xs) H2) : tCons ta tr σ H R := h
theorem r_nil {R : List V → Hp → Prop} (h : R [] H) : tNil σ H R := h
theorem r_len {p : Addr} {ys : List V} (h : SqL K H p ys) (q : Q (.int ys.length) H) : rLen K [.ref p] H Q := ⟨p, ys, rfl, .inl h, q⟩
theorem r_lent {p : Addr} {ys : List V} (h : SqT K H p ys) (q : Q (.int ys.length) H) : rLen K [.ref p] H Q := ⟨p, ys, rfl, .inr h, q⟩
theorem r_abs {i : Int} (q : Q (.int (if i < 0 then -i else i)) H) : rAbs [.int i] H Q := ⟨i, rfl, q⟩
theorem r_listl {p : Addr} {ys : List V} (h : SqL K H p ys) (q : ∀ l, H l = none → Q (.ref l) (upd H l (.lst ys))) : rListOf K [.ref p] H Q := ⟨p, ys, rfl, .inl h, q⟩
theorem r_listt {p : Addr} {ys : List V} (h : SqT K H p ys) (q : ∀ l, H l = none → Q (.ref l) (upd H l (.lst ys))) : rListOf K [.ref p] H Q := ⟨p, ys, rfl, .inr h, q⟩
theorem r_tupl {p : Addr} {ys : List V} (h : SqL K H p ys) (q : ∀ l, H l = none → Q (.ref l) (upd H l (.tup ys))) : rTupOf K [.ref p] H Q := ⟨p, ys, rfl, .inl ⟨h, q⟩⟩
theorem r_tupt {p : Addr} {ys : List V} (h : SqT K H p ys) (q : Q (.ref p) H) : rTupOf K [.ref p] H Q := ⟨p, ys, rfl, .inr ⟨h, q⟩⟩
theorem r_if {c : TT} {t u : TS} (h : c σ H fun b H1 => if b = true then t D σ H1 else u D σ H1) : tIfS c t u D σ H := h
theorem r_ife {c : TT} {t u : TE} (h : c σ H fun b H1 => if b = true then t σ H1 Q else u σ H1 Q) : tIf c t u σ H Q := h
theorem r_test {te : TE} {R : Bool → Hp → Prop} (h : te σ H fun x H' => ∃ k, x = .bl k ∧ R k H') : tTest te σ H R := h
theorem r_bl {b : Bool} {R : Bool → Prop} (h : R b) : ∃ k, V.bl b = .bl k ∧ R k := ⟨b, rfl, h⟩
theorem r_ite {p : Prop} {inst : Decidable p} {A B : Prop} (h1 : p → A) (h2 : ¬p → B) : if decide p = true then A else B := by
  by_cases h : p
  · rw [if_pos (decide_eq_true h)]; exact h1 h
  · rw [if_neg (by simpa using h)]; exact h2 h
theorem r_tand {t u : TT} {R : Bool → Hp → Prop} (h : t σ H fun c H1 => if c = true then u σ H1 R else R false H1) : tAnd t u σ H R := h
theorem r_tor {t u : TT} {R : Bool → Hp → Prop} (h : t σ H fun c H1 => if c = true then R true H1 else u σ H1 R) : tOr t u σ H R := h
theorem r_tnot {t : TT} {R : Bool → Hp → Prop} (h : t σ H fun c H1 => R (!c) H1) : tNot t σ H R := h
theorem r_andv {ta tb : TE} (h : ta σ H fun x H1 => ∃ c, x = .bl c ∧ if c = true then tb σ H1 Q else Q (.bl false) H1) : tAndV ta tb σ H Q := h
theorem r_orv {ta tb : TE} (h : ta σ H fun x H1 => ∃ c, x = .bl c ∧ if c = true then Q (.bl true) H1 else tb σ H1 Q) : tOrV ta tb σ H Q := h
theorem r_notv {ta : TE} (h : ta σ H fun x H1 => ∃ c, x = .bl c ∧ Q (.bl (!c)) H1) : tNotV ta σ H Q := h
theorem r_chain {r r' : R2} {ta tb tc : TE} (h : ta σ H fun x H1 => tb σ H1 fun y H2 => r x y H2 fun z H3 => ∃ k, z = .bl k ∧ (if k = true then tc σ H3 fun w' H4 => r' y w' H4 Q else Q (.bl false) H3)) : tChain r r' ta tb tc σ H Q := h
theorem r_t {A B : Prop} (h : A) : if true = true then A else B := by rw [if_pos rfl]; exact h
theorem r_f {A B : Prop} (h : B) : if false = true then A else B := by rw [if_neg (by decide)]; exact h
theorem r_nt {A B : Prop} (h : B) : if (!true) = true then A else B := by rw [if_neg (by decide)]; exact h
theorem r_nf {A B : Prop} (h : A) : if (!false) = true then A else B := by rw [if_pos (by decide)]; exact h
theorem r_bm {T : String} {r : V → List V → Hp → VK → Prop} {to : TE} {t : TA} (h : to σ H fun x H1 => tyV K T x H1 ∧ t σ H1 fun xs H2 => r x xs H2 Q) : tBM K T r to t σ H Q := h
theorem r_sl {r : V → Option Int → Option Int → Hp → VK → Prop} {te : TE} {tl th : TO} (h : te σ H fun x H1 => tl σ H1 fun l H2 => th σ H2 fun u H3 => r x l u H3 Q) : tSl r te tl th σ H Q := h
theorem r_sll {a : Addr} {xs : List V} {lo hi : Option Int} (h : SqL K H a xs) (q : ∀ p, H p = none → Q (.ref p) (upd H p (.lst (cutV xs lo hi)))) : rSlL K (.ref a) lo hi H Q := ⟨a, xs, rfl, h, q⟩
theorem r_nopart {R : Option Int → Hp → Prop} (h : R none H) : tNoPart σ H R := h
theorem r_part {te : TE} {R : Option Int → Hp → Prop} (h : te σ H fun x H1 => ∃ i, x = .int i ∧ R (some i) H1) : tPart te σ H R := h
theorem r_parti {i : Int} {R : Int → Prop} (h : R i) : ∃ j, V.int i = .int j ∧ R j := ⟨i, rfl, h⟩
theorem r_yes {R : Bool → Hp → Prop} (h : R true H) : tYes σ H R := h
theorem r_sz {xs : List V} {B : Prop} (e : Nat.ble xs.length 1000 = true) (h : B) : xs.length ≤ sizeLine ∧ B := ⟨Nat.le_trans (Nat.le_of_ble_eq_true e) (by decide), h⟩
theorem r_iteB {b : Bool} {A B : Prop} (h1 : b = true → A) (h2 : b = false → B) : if b = true then A else B := by
  cases b with
  | true => rw [if_pos rfl]; exact h1 rfl
  | false => rw [if_neg (by decide)]; exact h2 rfl
theorem r_tb {t : TE} {R : Bool → Hp → Prop} (h : t σ H fun x H1 => ∃ c, x = .bl c ∧ R c H1) : tB t σ H R := h
theorem r_un {r : V → Hp → VK → Prop} {ta : TE} (h : ta σ H fun x H1 => r x H1 Q) : tUn r ta σ H Q := h
theorem r_u {g : Int → V} {i : Int} (h : Q (g i) H) : rU g (.int i) H Q := ⟨i, rfl, h⟩
theorem r_ret {te : TE} (h : te σ H D.rt) : tRet te D σ H := h
theorem r_gsub {to ti : TE} {t : TSet} {v : V} {N : L2.St → Hp → Prop} (h : to σ H fun o H1 => ti σ H1 fun i H2 => t o i v H2 fun H3 => N σ H3) : gSub to ti t v σ H N := h
theorem r_setl {p : Addr} {xs : List V} {k : Int} {j : Nat} {v : V} {R : Hp → Prop} (h : H p = some (.lst xs)) (e : ixN xs.length k = some j) (q : R (upd H p (.lst (xs.set j v)))) : rSetL (.ref p) (.int k) v H R := ⟨p, xs, k, j, rfl, rfl, h, e, q⟩
theorem r_next (h : D.nx σ H) : tNext D σ H := h
theorem r_call {sp : Sp} {dvs : List V} {E : XK} {t : TA} (h : t σ H fun vs H1 => sp (vs ++ dvs) H1 Q E) : tCall sp dvs E t σ H Q := h
theorem r_lst {t : TA} (h : t σ H fun xs H1 => xs.length ≤ sizeLine ∧ ∀ p, H1 p = none → Q (.ref p) (upd H1 p (.lst xs))) : tLst t σ H Q := h
theorem r_tup {t : TA} (h : t σ H fun xs H1 => xs.length ≤ sizeLine ∧ ∀ p, H1 p = none → Q (.ref p) (upd H1 p (.tup xs))) : tTup t σ H Q := h
theorem r_drop {te : TE} (h : te σ H fun _ H1 => D.nx σ H1) : tDrop te D σ H := h
theorem r_eq {x y : V} (s : scal x y = true) (q : Q (.bl (decide (x = y))) H) : rEq x y H Q := ⟨s, q⟩
theorem r_ne {x y : V} (s : scal x y = true) (q : Q (.bl (!decide (x = y))) H) : rNe x y H Q := ⟨s, q⟩
theorem hl_new {H : Hp} {a b : Addr} {o u : HO} (h : H a = some o) (n : H b = none) : upd H b u a = some o := (upd_ne (ne_of_none h n)).trans h
theorem hl_set {H : Hp} {a b : Addr} {o u : HO} (n : a ≠ b) (h : H a = some o) : upd H b u a = some o := (upd_ne n).trans h
end

/-! ### what stands at an address, over the heaps -/
def Kp (S : List Addr) (H H' : Hp) : Prop := ∀ b o, H b = some o → b ∉ S → H' b = some o
theorem Kp.refl {S : List Addr} {H : Hp} : Kp S H H := fun _ _ h _ => h
theorem Kp.trans {S : List Addr} {H H1 H2 : Hp} (a : Kp S H H1) (b : Kp S H1 H2) : Kp S H H2 := fun x o h n => b x o (a x o h n) n
theorem Kp.new {S : List Addr} {H : Hp} {p : Addr} {x : HO} (n : H p = none) : Kp S H (upd H p x) := fun b o h _ => hl_new h n
theorem Kp.set {S : List Addr} {H : Hp} {p : Addr} {x : HO} (m : p ∈ S) : Kp S H (upd H p x) := fun b o h n => hl_set (fun e => n (e ▸ m)) h
/-- a thing made since H is changed -/
theorem Kp.own {S : List Addr} {H H1 : Hp} {p : Addr} {x : HO} (k : Kp S H H1) (n : H p = none) : Kp S H (upd H1 p x) := fun b o h m => hl_set (ne_of_none h n) (k b o h m)
theorem Kp.sub {S S' : List Addr} {H H' : Hp} (k : Kp S H H') (m : ∀ a ∈ S, a ∈ S') : Kp S' H H' := fun b o h n => k b o h fun z => n (m b z)
theorem Kp.ofSame {S : List Addr} {H H' : Hp} (k : Same H H') : Kp S H H' := fun b o h _ => k b o h
theorem Kp.nil {H H' : Hp} (k : Kp [] H H') : Same H H' := fun b o h => k b o h (by simp)
theorem Kp.free {S : List Addr} {H H' : Hp} (k : Kp S H H') {p : Addr} (n : H' p = none) (m : p ∉ S) : H p = none := by
  cases q : H p with
  | none => rfl
  | some o => rw [k p o q m] at n; cases n
theorem Same.upd_new {H : Hp} {p : Addr} {x : HO} (n : H p = none) : Same H (upd H p x) := fun b o h => hl_new h n
theorem hl_kp {S : List Addr} {H H' : Hp} {a : Addr} {o : HO} (k : Kp S H H') (n : a ∉ S) (h : H a = some o) : H' a = some o := k _ _ h n
theorem hl_same {H H' : Hp} {a : Addr} {o : HO} (k : Same H H') (h : H a = some o) : H' a = some o := k _ _ h
/-- every object outside S stands, outside S' -/
def Lft (S : List Addr) (H : Hp) (S' : List Addr) (H' : Hp) : Prop := ∀ a o, H a = some o → a ∉ S → H' a = some o ∧ a ∉ S'
theorem Lft.refl {S : List Addr} {H : Hp} : Lft S H S H := fun _ _ h n => ⟨h, n⟩
theorem Lft.trans {S S1 S2 : List Addr} {H H1 H2 : Hp} (a : Lft S H S1 H1) (b : Lft S1 H1 S2 H2) : Lft S H S2 H2 := fun x o h n => b x o (a x o h n).1 (a x o h n).2
theorem Lft.new {S : List Addr} {H : Hp} {p : Addr} {x : HO} (n : H p = none) : Lft S H S (upd H p x) := fun _ _ h m => ⟨hl_new h n, m⟩
theorem Lft.set {S : List Addr} {H : Hp} {p : Addr} {x : HO} (m : p ∈ S) : Lft S H S (upd H p x) := fun _ _ h n => ⟨hl_set (fun e => n (e ▸ m)) h, n⟩
theorem Lft.kp {S S1 : List Addr} {H H1 : Hp} (k : Kp S H H1) (m : ∀ a ∈ S, a ∈ S1) : Lft S1 H S1 H1 := fun b o h n => ⟨k b o h fun z => n (m b z), n⟩
theorem Lft.same {S : List Addr} {H H1 : Hp} (k : Same H H1) : Lft S H S H1 := fun b o h n => ⟨k b o h, n⟩
theorem Lft.own {S : List Addr} {H : Hp} {p : Addr} {x : HO} (n : H p = none) : Lft S H (p :: S) (upd H p x) := fun a _ h m => ⟨hl_new h n, fun z => by
  rcases List.mem_cons.mp z with e | e
  · exact ne_of_none h n e
  · exact m e⟩
theorem Lft.sub {S S' : List Addr} {H : Hp} (m : ∀ a ∈ S', a ∈ S) : Lft S H S' H := fun a _ h n => ⟨h, fun z => n (m a z)⟩
/-- plain data -/
inductive O where
  | non | bl (b : Bool) | int (i : Int) | str (x : Str) | tup (os : List O) | lst (os : List O) | dct
mutual
inductive Rep (S : List Addr) (H : Hp) : V → O → Prop
  | non : Rep S H .non .non
  | bl (b : Bool) : Rep S H (.bl b) (.bl b)
  | int (i : Int) : Rep S H (.int i) (.int i)
  | str (x : Str) : Rep S H (.str x) (.str x)
  | tup {a : Addr} {xs : List V} {os : List O} : H a = some (.tup xs) → a ∉ S → RepAll S H xs os → Rep S H (.ref a) (.tup os)
  | lst {a : Addr} {xs : List V} {os : List O} : H a = some (.lst xs) → a ∉ S → RepAll S H xs os → Rep S H (.ref a) (.lst os)
  | dct {a : Addr} {kvs : List (Key × V)} : H a = some (.dK kvs) → a ∉ S → Rep S H (.ref a) .dct
inductive RepAll (S : List Addr) (H : Hp) : List V → List O → Prop
  | nil : RepAll S H [] []
  | cons {v : V} {vs : List V} {o : O} {os : List O} : Rep S H v o → RepAll S H vs os → RepAll S H (v :: vs) (o :: os)
end
mutual
theorem Rep.to {S S' : List Addr} {H H' : Hp} (k : Lft S H S' H') : ∀ {v : V} {o : O}, Rep S H v o → Rep S' H' v o
  | _, _, .non => .non
  | _, _, .bl b => .bl b
  | _, _, .int i => .int i
  | _, _, .str x => .str x
  | _, _, .tup h n r => .tup (k _ _ h n).1 (k _ _ h n).2 (RepAll.to k r)
  | _, _, .lst h n r => .lst (k _ _ h n).1 (k _ _ h n).2 (RepAll.to k r)
  | _, _, .dct h n => .dct (k _ _ h n).1 (k _ _ h n).2
theorem RepAll.to {S S' : List Addr} {H H' : Hp} (k : Lft S H S' H') : ∀ {vs : List V} {os : List O}, RepAll S H vs os → RepAll S' H' vs os
  | _, _, .nil => .nil
  | _, _, .cons r t => .cons (Rep.to k r) (RepAll.to k t)
end
section
variable {S : List Addr} {H : Hp}
theorem RepAll.length : ∀ {vs : List V} {os : List O}, RepAll S H vs os → vs.length = os.length
  | _, _, .nil => rfl
  | _, _, .cons _ t => congrArg (· + 1) (RepAll.length t)
theorem RepAll.get : ∀ {vs : List V} {os : List O} {i : Nat} {v : V}, RepAll S H vs os → vs[i]? = some v → ∃ o, os[i]? = some o ∧ Rep S H v o
  | _, _, _, _, .nil, e => by simp at e
  | _, _, 0, _, .cons r _, e => by simp at e; subst e; exact ⟨_, rfl, r⟩
  | _, _, i + 1, v, .cons _ t, e => by
    obtain ⟨o, h1, h2⟩ := RepAll.get (i := i) (v := v) t (by simpa using e)
    exact ⟨o, by simpa using h1, h2⟩
theorem RepAll.append : ∀ {vs us : List V} {os qs : List O}, RepAll S H vs os → RepAll S H us qs → RepAll S H (vs ++ us) (os ++ qs)
  | _, _, _, _, .nil, s => s
  | _, _, _, _, .cons r t, s => .cons r (RepAll.append t s)
theorem RepAll.take : ∀ {vs : List V} {os : List O} (n : Nat), RepAll S H vs os → RepAll S H (vs.take n) (os.take n)
  | _, _, 0, _ => .nil
  | _, _, _ + 1, .nil => .nil
  | _, _, n + 1, .cons r t => .cons r (RepAll.take n t)
theorem RepAll.drop : ∀ {vs : List V} {os : List O} (n : Nat), RepAll S H vs os → RepAll S H (vs.drop n) (os.drop n)
  | _, _, 0, r => r
  | _, _, _ + 1, .nil => .nil
  | _, _, n + 1, .cons _ t => RepAll.drop n t
theorem RepAll.ints : ∀ (ns : List Int), RepAll S H (ns.map V.int) (ns.map O.int)
  | [] => .nil
  | n :: ns => .cons (.int n) (RepAll.ints ns)
theorem RepAll.ints_inv : ∀ {ns : List Int} {vs : List V}, RepAll S H vs (ns.map O.int) → vs = ns.map V.int
  | [], _, .nil => rfl
  | n :: ns, _, .cons r t => by cases r; rw [RepAll.ints_inv t]; rfl
theorem Rep.tupInv {v : V} {os : List O} (r : Rep S H v (.tup os)) : ∃ a xs, v = .ref a ∧ H a = some (.tup xs) ∧ a ∉ S ∧ RepAll S H xs os := by
  cases r with
  | tup h n t => exact ⟨_, _, rfl, h, n, t⟩
end
/-! ### the drawn state -/
structure StAt (s c : Addr) (H : Hp) (cs : List Int) (j r : Int) : Prop where
  hs : H s = some (.lst [.ref c, .int j, .int r])
  hc : H c = some (.lst (cs.map .int))
  ne : cs ≠ []
  nn : ∀ x ∈ cs, 0 ≤ x
  len : cs.length ≤ 1000
  hj : 0 ≤ j
  hr : 0 ≤ r
  hr' : r < 2147483647
def St (s c : Addr) (H : Hp) : Prop := s ≠ c ∧ ∃ cs j r, StAt s c H cs j r
theorem St.out {s c p : Addr} {H : Hp} (h : St s c H) (n : H p = none) : p ∉ [s, c] := by
  obtain ⟨_, cs, j, r, h⟩ := h
  intro z
  rcases List.mem_cons.mp z with e | z
  · rw [e, h.hs] at n; cases n
  · rw [List.mem_singleton.mp z, h.hc] at n; cases n
theorem St.same {s c : Addr} {H H' : Hp} (h : St s c H) (k : Same H H') : St s c H' := by
  obtain ⟨n, cs, j, r, h⟩ := h
  exact ⟨n, cs, j, r, k _ _ h.hs, k _ _ h.hc, h.ne, h.nn, h.len, h.hj, h.hr, h.hr'⟩
theorem St.new {s c p : Addr} {H : Hp} {x : HO} (h : St s c H) (n : H p = none) : St s c (upd H p x) := h.same (Same.upd_new n)
theorem St.set {s c p : Addr} {H : Hp} {x : HO} (h : St s c H) (n : p ∉ [s, c]) : St s c (upd H p x) := by
  obtain ⟨n0, cs, j, r, h⟩ := h
  exact ⟨n0, cs, j, r, hl_set (fun e => n (by simp [e])) h.hs, hl_set (fun e => n (by simp [e])) h.hc, h.ne, h.nn, h.len, h.hj, h.hr, h.hr'⟩
/-! ### loops and comprehensions -/
section
variable {K : PySem.W.Frag} {D : Ends} {σ : L2.St} {H : Hp} {Q : VK}
def Lp (J : It) (g : TG) (tb : TS) (D : Ends) (σ : L2.St) (H1 : Hp) : Prop := ∃ W : Nat → Nat → L2.St → Hp → Prop, (∃ m, W 0 m σ H1) ∧ ∀ i m σ H, W i m σ H →
  (J.stop i H ∧ D.nx σ H) ∨ (J.go i H ∧ ∃ N : L2.St → Hp → Prop, (∀ σ' H', N σ' H' → ∃ m', m' < m ∧ W (i + 1) m' σ' H') ∧ ∀ x H', J.yld i H x H' → g x σ H' fun σ2 H2 => tb { D with nx := N, ct := N, bk := D.nx } σ2 H2)
theorem r_for {wi : TI} {g : TG} {tb : TS} (h : wi σ H fun J H1 => Lp J g tb D σ H1) : tFor wi g tb D σ H := h
def Rg1 (R : It → Hp → Prop) (vs : List V) (H : Hp) : Prop := ∃ j : Int, vs = [.int j] ∧ -(2 ^ 62) ≤ j ∧ j < 2 ^ 62 ∧ R (Itr 0 j.toNat) H
theorem r_irng1 {ta : TA} {R : It → Hp → Prop} (h : ta σ H (Rg1 R)) : iRng1 ta σ H R := h
theorem r_rg1 {R : It → Hp → Prop} {j : Int} (c : -(2 ^ 62) ≤ j ∧ j < 2 ^ 62) (h : R (Itr 0 j.toNat) H) : Rg1 R [.int j] H := ⟨j, rfl, c.1, c.2, h⟩
def Rg2 (R : It → Hp → Prop) (vs : List V) (H : Hp) : Prop := ∃ i j : Int, vs = [.int i, .int j] ∧ (-(2 ^ 62) ≤ i ∧ i < 2 ^ 62 ∧ -(2 ^ 62) ≤ j ∧ j < 2 ^ 62) ∧ R (Itr i (j - i).toNat) H
theorem r_irng2 {ta : TA} {R : It → Hp → Prop} (h : ta σ H (Rg2 R)) : iRng2 ta σ H R := h
theorem r_rg2 {R : It → Hp → Prop} {i j : Int} (c : -(2 ^ 62) ≤ i ∧ i < 2 ^ 62 ∧ -(2 ^ 62) ≤ j ∧ j < 2 ^ 62) (h : R (Itr i (j - i).toNat) H) : Rg2 R [.int i, .int j] H := ⟨i, j, rfl, c, h⟩
def IlR (K : PySem.W.Frag) (R : It → Hp → Prop) (x : V) (H : Hp) : Prop := ∃ a, x = .ref a ∧ (∃ xs, SqL K H a xs) ∧ R (Itl K a) H
theorem r_ilist {tl : TE} {R : It → Hp → Prop} (h : tl σ H (IlR K R)) : iList K tl σ H R := h
theorem r_il {R : It → Hp → Prop} {a : Addr} {xs : List V} (e : SqL K H a xs) (h : R (Itl K a) H) : IlR K R (.ref a) H := ⟨a, rfl, ⟨xs, e⟩, h⟩
def ItR (K : PySem.W.Frag) (R : It → Hp → Prop) (x : V) (H : Hp) : Prop := ∃ a, x = .ref a ∧ (∃ xs, SqT K H a xs) ∧ R (Itt K a) H
theorem r_itup {tl : TE} {R : It → Hp → Prop} (h : tl σ H (ItR K R)) : iTup K tl σ H R := h
theorem r_it {R : It → Hp → Prop} {a : Addr} {xs : List V} (e : SqT K H a xs) (h : R (Itt K a) H) : ItR K R (.ref a) H := ⟨a, rfl, ⟨xs, e⟩, h⟩
def IzR (K : PySem.W.Frag) (R : It → Hp → Prop) (vs : List V) (H1 : Hp) : Prop := ∃ a b xs ys, vs = [.ref a, .ref b] ∧ ((SqL K H1 a xs ∧ SqL K H1 b ys ∧ R (Itz K a b) H1) ∨ (SqT K H1 a xs ∧ SqT K H1 b ys ∧ R (ItzT K a b) H1))
theorem r_izip {ta : TA} {R : It → Hp → Prop} (h : ta σ H (IzR K R)) : iZipA K ta σ H R := h
theorem r_izt {R : It → Hp → Prop} {a b : Addr} {xs ys : List V} (e1 : SqT K H a xs) (e2 : SqT K H b ys) (h : R (ItzT K a b) H) : IzR K R [.ref a, .ref b] H := ⟨a, b, xs, ys, rfl, .inr ⟨e1, e2, h⟩⟩
theorem lp_by {J : It} {n : Nat} {G : Hp → Prop} {Y : Nat → Hp → V → Hp → Prop} (w : Walk J n G Y) {g : TG} {tb : TS} (Pv : Nat → L2.St → Hp → Prop) (h0 : Pv 0 σ H) (hG : ∀ i σ H, i ≤ n → Pv i σ H → G H)
    (hs : ∀ i x σ H H', i < n → Pv i σ H → Y i H x H' → g x σ H' fun σ2 H2 => tb { D with nx := Pv (i + 1), ct := Pv (i + 1), bk := D.nx } σ2 H2) (hd : ∀ σ H, Pv n σ H → D.nx σ H) : Lp J g tb D σ H := for_it w Pv h0 hG hs hd
/-- ways that meet: what holds of slots and heap where they do -/
theorem r_join {c : TT} {t u : TS} (G : L2.St → Hp → Prop) (h2 : ∀ σ' H', G σ' H' → D.nx σ' H') (h1 : ∀ N : L2.St → Hp → Prop, (∀ σ' H', G σ' H' → N σ' H') → tIfS c t u { D with nx := N } σ H) : tIfS c t u D σ H := h1 D.nx h2
theorem r_joinE {te : TE} (G : V → Hp → Prop) (h2 : ∀ v H', G v H' → Q v H') (h1 : ∀ Q' : VK, (∀ v H', G v H' → Q' v H') → te σ H Q') : te σ H Q := h1 Q h2
theorem r_joinT {te : TT} {R : Bool → Hp → Prop} (G : Bool → Hp → Prop) (h2 : ∀ v H', G v H' → R v H') (h1 : ∀ R' : Bool → Hp → Prop, (∀ v H', G v H' → R' v H') → te σ H R') : te σ H R := h1 R h2
theorem walk_zipT {a b : Addr} {xs ys : List V} {n : Nat} (hn : n = min xs.length ys.length) : Walk (ItzT K a b) n (fun H => SqT K H a xs ∧ SqT K H b ys) (YPair (fun i => xs[i]?) (fun i => ys[i]?)) where
  goes := fun i H hi h => ⟨xs, ys, xs[i]'(by omega), ys[i]'(by omega), h.1, h.2, List.getElem?_eq_getElem (by omega), List.getElem?_eq_getElem (by omega)⟩
  stops := fun H h => ⟨xs, ys, h.1, h.2, by omega⟩
  yields := fun i H x H' _ h y => by
    obtain ⟨T, x1, y1, e1, e2, e3, e4, e5⟩ := y
    exact ⟨T, x1, y1, e1, e2, e3, e4 xs h.1, e5 ys h.2⟩
/-- a comprehension's turns -/
def Lc (J : It) (g : TG) (tt : TT) (te : TE) (vs : List Nat) (σ : L2.St) (D : Addr) (Q : VK) (H1 : Hp) : Prop := ∃ W : Nat → Nat → Hp → Prop, (∃ m, W 0 m (upd H1 D (.lst []))) ∧ ∀ i m H, W i m H →
  (J.stop i H ∧ Q (.ref D) H) ∨ (J.go i H ∧ ∃ Nx : Hp → Prop, (∀ H', Nx H' → ∃ m', m' < m ∧ W (i + 1) m' H') ∧ ∀ x H', J.yld i H x H' → g x (wipe σ vs) H' fun σ2 H2 => wipe σ2 vs = wipe σ vs ∧ tt σ2 H2 fun b H3 =>
    if b = true then te σ2 H3 fun y H4 => ∃ acc, H4 D = some (.lst acc) ∧ acc.length < sizeLine ∧ Nx (upd H4 D (.lst (acc ++ [y]))) else Nx H3)
theorem r_lc {wi : TI} {g : TG} {tt : TT} {te : TE} {vs : List Nat} (h : wi σ H fun J H1 => ∀ D, H1 D = none → Lc J g tt te vs σ D Q H1) : tLc wi g tt te vs σ H Q := h
/-- what an item's part of a turn is to reach: kept with a value, or not kept -/
def LcT (g : TG) (tt : TT) (te : TE) (vs : List Nat) (σ : L2.St) (x : V) (H : Hp) (Y : V → Hp → Prop) (No : Hp → Prop) : Prop :=
  g x (wipe σ vs) H fun σ2 H2 => wipe σ2 vs = wipe σ vs ∧ tt σ2 H2 fun b H3 => if b = true then te σ2 H3 Y else No H3
/-- the list is made of the values kept: R i says what the i-th turn's part is -/
theorem lc_by {J : It} {n : Nat} {G : Hp → Prop} {Yd : Nat → Hp → V → Hp → Prop} (w : Walk J n G Yd) {g : TG} {tt : TT} {te : TE} {vs : List Nat} {D : Addr} (Pv : Nat → Hp → Prop) (h0 : Pv 0 (upd H D (.lst []))) (hG : ∀ i H, i ≤ n → Pv i H → G H)
    (hs : ∀ i x H H', i < n → Pv i H → Yd i H x H' → LcT g tt te vs σ x H' (fun y H4 => ∃ acc, H4 D = some (.lst acc) ∧ acc.length < sizeLine ∧ Pv (i + 1) (upd H4 D (.lst (acc ++ [y])))) (fun H3 => Pv (i + 1) H3)) (hd : ∀ H, Pv n H → Q (.ref D) H) : Lc J g tt te vs σ D Q H := by
  refine ⟨fun i m H => m = n - i ∧ i ≤ n ∧ Pv i H, ⟨n, by simp, Nat.zero_le _, h0⟩, ?_⟩
  rintro i m H ⟨rfl, hi, p⟩
  by_cases hlt : i < n
  · exact .inr ⟨w.goes i H hlt (hG i H hi p), Pv (i + 1), fun H' p' => ⟨n - (i + 1), by omega, rfl, hlt, p'⟩, fun x H' y => hs i x H H' hlt p (w.yields i H x H' hlt (hG i H hi p) y)⟩
  · have e : i = n := by omega
    subst e
    exact .inl ⟨w.stops H (hG _ H hi p), hd H p⟩
/-- every item is kept; its value is told by R, which new objects leave true; the source is left as it is -/
theorem lc_map {J : It} {n : Nat} {G : Hp → Prop} {Yd : Nat → Hp → V → Hp → Prop} (w : Walk J n G Yd) (hn : n ≤ 1000000) {g : TG} {tt : TT} {te : TE} {vs : List Nat} {D : Addr} (nD : H D = none) (R : Nat → V → Hp → Prop) (hR : ∀ i v H H', R i v H → Same H H' → R i v H')
    (hRD : ∀ i v H' acc acc', R i v H' → H' D = some (.lst acc) → R i v (upd H' D (.lst acc'))) (hG : ∀ H', Same H H' → G H') (hY : ∀ i H1 x H2, Yd i H1 x H2 → Same H1 H2)
    (hs : ∀ i x H1 H2 (Y : V → Hp → Prop) (No : Hp → Prop), i < n → Same H H1 → Yd i H1 x H2 → (∀ y H4, Same H2 H4 → R i y H4 → Y y H4) → LcT g tt te vs σ x H2 Y No)
    (hd : ∀ ys H', ys.length = n → Same H H' → H' D = some (.lst ys) → (∀ i y, ys[i]? = some y → R i y H') → Q (.ref D) H') : Lc J g tt te vs σ D Q H := by
  refine lc_by w (fun i H' => Same H H' ∧ ∃ ys : List V, ys.length = i ∧ H' D = some (.lst ys) ∧ ∀ j y, ys[j]? = some y → R j y H') ⟨Same.upd_new nD, [], rfl, upd_same, fun j y e => by simp at e⟩ (fun i H' _ p => hG H' p.1) (fun i x H1 H2 hi p y => ?_) (fun H' p => ?_)
  · obtain ⟨sm, ys, el, eD, hr⟩ := p
    have s2 := hY _ _ _ _ y
    refine hs i x H1 H2 _ _ hi sm y (fun v H4 q1 q2 => ?_)
    have s4 : Same H1 H4 := s2.trans q1
    have e4 : H4 D = some (.lst ys) := s4 _ _ eD
    refine ⟨ys, e4, by rw [el]; exact Nat.lt_of_lt_of_le (Nat.lt_of_lt_of_le hi hn) (by decide), fun b o e => ?_, ys ++ [v], by simp [el], upd_same, fun j y' e => ?_⟩
    · exact hl_set (ne_of_none e nD) (s4 _ _ (sm _ _ e))
    · by_cases hj : j < ys.length
      · rw [List.getElem?_append_left hj] at e
        exact hRD _ _ _ _ _ (hR _ _ _ _ (hr j y' e) s4) e4
      · rw [List.getElem?_append_right (by omega)] at e
        have hj2 : j - ys.length = 0 := by
          cases h : j - ys.length with
          | zero => rfl
          | succ m => rw [h] at e; simp at e
        rw [hj2] at e
        simp at e
        subst e
        have : j = i := by omega
        subst this
        exact hRD _ _ _ _ _ q2 e4
  · obtain ⟨sm, ys, el, eD, hr⟩ := p
    exact hd ys H' el sm eD hr
/-- items are kept or not: t tells which -/
theorem lc_filt {J : It} {n : Nat} {G : Hp → Prop} {Yd : Nat → Hp → V → Hp → Prop} (w : Walk J n G Yd) (hn : n ≤ 1000000) {g : TG} {tt : TT} {te : TE} {vs : List Nat} {D : Addr} (nD : H D = none) (t : Nat → Bool) (hG : ∀ H', Same H H' → G H') (hY : ∀ i H1 x H2, Yd i H1 x H2 → Same H1 H2)
    (hs : ∀ i x H1 H2 (Y : V → Hp → Prop) (No : Hp → Prop), i < n → Same H H1 → Yd i H1 x H2 → (t i = true → ∀ y H4, Same H2 H4 → Y y H4) → (t i = false → ∀ H4, Same H2 H4 → No H4) → LcT g tt te vs σ x H2 Y No)
    (hd : ∀ ys H', ys.isEmpty = (List.range n).all (fun i => !t i) → ys.length ≤ n → Same H H' → H' D = some (.lst ys) → Q (.ref D) H') : Lc J g tt te vs σ D Q H := by
  refine lc_by w (fun i H' => Same H H' ∧ ∃ ys : List V, ys.isEmpty = (List.range i).all (fun i => !t i) ∧ ys.length ≤ i ∧ H' D = some (.lst ys)) ⟨Same.upd_new nD, [], rfl, Nat.le_refl _, upd_same⟩ (fun i H' _ p => hG H' p.1) (fun i x H1 H2 hi p y => ?_) (fun H' p => ?_)
  · obtain ⟨sm, ys, ee, el, eD⟩ := p
    have s2 := hY _ _ _ _ y
    refine hs i x H1 H2 _ _ hi sm y (fun ht v H4 q => ?_) (fun ht H4 q => ?_)
    · have s4 : Same H1 H4 := s2.trans q
      refine ⟨ys, s4 _ _ eD, Nat.lt_of_le_of_lt el (Nat.lt_of_lt_of_le hi (Nat.le_trans hn (by decide))), fun b o e => hl_set (ne_of_none e nD) (s4 _ _ (sm _ _ e)), ys ++ [v], ?_, by simp; omega, upd_same⟩
      rw [List.range_succ, List.all_append, List.all_cons, ht]
      cases ys <;> simp
    · have s4 : Same H1 H4 := s2.trans q
      refine ⟨sm.trans s4, ys, ?_, by omega, s4 _ _ eD⟩
      rw [List.range_succ, List.all_append, List.all_cons, ht, ee]
      simp
  · obtain ⟨sm, ys, ee, el, eD⟩ := p
    exact hd ys H' ee el sm eD
theorem range_all {α : Type} (f : α → Bool) (d : α) : ∀ os : List α, (List.range os.length).all (fun i => f (os.getD i d)) = os.all f
  | [] => rfl
  | o :: os => by
    rw [List.length_cons, List.range_succ_eq_map, List.all_cons, List.all_map, List.all_cons, ← range_all f d os]
    rfl
end
/-! ### the rules with the written part told -/
section
variable {X : Cx} {K : PySem.W.Frag} {e l tg : Expr} {tl te : TE} {t ta : TA}
theorem ix_listK (q : X.K = K := by rfl) : IxR X (rIxL K) := q ▸ ix_list
theorem ix_tupK (q : X.K = K := by rfl) : IxR X (rIxT K) := q ▸ ix_tup
theorem pi_listK (h : PE X l tl) (q : X.K = K := by rfl) : PI X tg l (iList K tl) := q ▸ pi_list h
theorem pi_tupK (h : PE X l tl) (q : X.K = K := by rfl) : PI X tg l (iTup K tl) := q ▸ pi_tup h
theorem cr_lenK (q : X.K = K := by rfl) : CallR X (.builtin "len") (rLen K) := q ▸ cr_len
theorem cr_listOfK (q : X.K = K := by rfl) : CallR X (.type "list") (rListOf K) := q ▸ cr_listOf
theorem cr_tupOfK (q : X.K = K := by rfl) : CallR X (.type "tuple") (rTupOf K) := q ▸ cr_tupOf
theorem cr_allK (hc : X.calm = true) (q : X.K = K := by rfl) : CallR X (.builtin "all") (rAll K) := q ▸ cr_all hc
theorem cr_sumK (hc : X.calm = true) (q : X.K = K := by rfl) : CallR X (.builtin "sum") (rSum K) := q ▸ cr_sum hc
theorem cr_isiK (q : X.K = K := by rfl) : CallR X (.builtin "isinstance") (rIsi K) := q ▸ call_isi
theorem sl_listK (q : X.K = K := by rfl) : SlR X (rSlL K) := q ▸ sl_list
theorem sl_tupAK (q : X.K = K := by rfl) : SlR X (rSlA K) := q ▸ sl_tupA
theorem op_catAK (q : X.K = K := by rfl) : OpR X (binaryOp .Add) (rCatA K) := q ▸ op_catA
theorem castBM {e : Expr} {T : String} {r : V → List V → Hp → VK → Prop} {to : TE} (h : PE X e (tBM X.K T r to t)) (q : X.K = K := by rfl) : PE X e (tBM K T r to t) := q ▸ h
theorem castBM0 {e : Expr} {T : String} {r : V → List V → Hp → VK → Prop} {to : TE} (h : PE X e (tBM0 X.K T r to)) (q : X.K = K := by rfl) : PE X e (tBM0 K T r to) := q ▸ h
theorem castPI {iter : Expr} {wi : PySem.W.Frag → TI} (h : PI X tg iter (wi X.K)) (q : X.K = K := by rfl) : PI X tg iter (wi K) := q ▸ h
theorem castPG {n : Nat} {tg : Expr} {g : TGs} (h : PG X tg (gTup X.K n g)) (q : X.K = K := by rfl) : PG X tg (gTup K n g) := q ▸ h
end
/-! ### calls by keywords alone; keywords in any order -/
theorem pe_callK0 {X : Cx} {CX : CXT} {k : Nat} {f : Addr} {fd : FuncData} {ps ks : List Str} {sp : Sp} {E : XK} {x : Str} {p pos : Pos} {kws : List Keyword} {tk : TA} {g : List Value → List Value → List Value} {gV : List V → List V → List V}
    (F : FnOk X.prog X.w X.K X.mg X.base CX k f fd ps sp) (hr : Room k X.A) (hg : Gl X x) (hm : X.mg x = some (.ref f)) (hk : PySem.W.keepIn X.K (.ref f) = true) (hb : KBinds X.K fd ps ks g gV) (hx : Passes CX X E)
    (hkw : PK X kws tk) (hall : (backToKw pos (keywordEach kws X.env)).all (·.1.isSome) = true := by rfl) (hks : (backToKw pos (keywordEach kws X.env)).filterMap (·.1) = ks := by rfl)
    (hdb : (x == ("__debug__" : Str)) = false := by decide) (hpl : ((backTo pos (starEach [] X.env)).any (·.1) || (backToKw pos (keywordEach kws X.env)).any (·.1.isNone)) = false := by rfl) :
    PE X (.Call (.Name x p) [] kws pos) (tCallK sp gV E tNil tk) := by
  refine ⟨fun pins s σ H Q I h => wpAny_Call_Name_kw (ld_glob I hg hm ?_ hdb)⟩
  refine PySem.W.callWith_KW0 (h₀ := X.base) I.ok.mod.kin hk hall (thn (hkw.run pos pins s σ H _ I h) fun ws s2 ⟨zs, H2, I2, rz, q2⟩ => ⟨I2.kIn, ?_⟩) hpl
  rw [hks]
  exact run_fnk (us := []) F hr hb hx I2 .nil rz q2
def permV (na nb : Nat) (is : List Nat) (vs zs : List V) : List V := if vs.length = na ∧ zs.length = nb then is.map fun i => (vs ++ zs).getD i .non else []
def permU (na nb : Nat) (is : List Nat) (vs zs : List Value) : List Value := if vs.length = na ∧ zs.length = nb then is.map fun i => (vs ++ zs).getD i .none else []
theorem vals_getD : ∀ {xs : List V} {us : List Value} (i : Nat), Vals xs us → RelV (xs.getD i .non) (us.getD i .none)
  | _, _, _, .nil => rfl
  | _, _, 0, .cons r _ => r
  | _, _, i + 1, .cons _ t => by
    have := vals_getD i t
    simpa using this
theorem vals_map {xs : List V} {us : List Value} (r : Vals xs us) : ∀ is : List Nat, Vals (is.map fun i => xs.getD i .non) (is.map fun i => us.getD i .none)
  | [] => .nil
  | i :: is => .cons (vals_getD i r) (vals_map r is)
theorem kb_perm {K : PySem.W.Frag} {fd : FuncData} {ps ks : List Str} {us0 ws0 : Nat} {is : List Nat} (h0 : ps ≠ [])
    (h : ∀ (us ws : List Value), us.length = us0 → ws.length = ws0 → ∀ s : Shared, BindsTo s fd ⟨us, ks.zip ws⟩ (ps.zip (is.map fun i => (us ++ ws).getD i .none))) : KBinds K fd ps ks (permU us0 ws0 is) (permV us0 ws0 is) where
  to := fun s us ws _ hl => by
    unfold permU at hl ⊢
    by_cases c : us.length = us0 ∧ ws.length = ws0
    · rw [if_pos c]
      exact h us ws c.1 c.2 s
    · rw [if_neg c] at hl
      cases ps with
      | nil => exact absurd rfl h0
      | cons _ _ => simp at hl
  rel := fun {vs us zs ws} r1 r2 => by
    unfold permU permV
    rw [r1.length, r2.length]
    by_cases c : us.length = us0 ∧ ws.length = ws0
    · rw [if_pos c, if_pos c]
      exact vals_map (r1.append r2) is
    · rw [if_neg c, if_neg c]
      exact .nil
section
variable {K : PySem.W.Frag} {D : Ends} {σ : L2.St} {H : Hp} {Q : VK}
theorem r_callk {sp : Sp} {gV : List V → List V → List V} {E : XK} {t tk : TA} (h : t σ H fun vs H1 => tk σ H1 fun zs H2 => sp (gV vs zs) H2 Q E) : tCallK sp gV E t tk σ H Q := h
theorem r_perm {sp : Sp} {E : XK} {na nb : Nat} {is : List Nat} {vs zs : List V} (h1 : vs.length = na) (h2 : zs.length = nb) (h : sp (is.map fun i => (vs ++ zs).getD i .non) H Q E) : sp (permV na nb is vs zs) H Q E := by
  unfold permV; rw [if_pos ⟨h1, h2⟩]; exact h
end
theorem hu_of64 {A : Around} {k : Nat} (hr : Room k A) : A.units + 64 < cLine := hr.units
/-! ### against the empty list, the empty tuple -/
def rNil (K : PySem.W.Frag) (g : Bool → Bool) : R2 := fun x y H Q => ∃ a b xs, x = .ref a ∧ y = .ref b ∧ SqL K H a xs ∧ SqL K H b [] ∧ Q (.bl (g xs.isEmpty)) H
def rNilT (K : PySem.W.Frag) (g : Bool → Bool) : R2 := fun x y H Q => ∃ a b xs, x = .ref a ∧ y = .ref b ∧ SqT K H a xs ∧ SqT K H b [] ∧ Q (.bl (g xs.isEmpty)) H
theorem op_eqNil {X : Cx} (hu : X.A.units + 64 < cLine) : OpR X (compareOp .Eq) (rNil X.K id) := by
  intro pins s σ H x y v u Q I rx ry h
  obtain ⟨a, b, xs, rfl, rfl, h1, h2, q⟩ := h
  cases rx; cases ry
  obtain ⟨its, rv, p1, _⟩ := I.list h1
  obtain ⟨its2, rv2, p2, _⟩ := I.list h2
  cases rv2
  have e1 : xs.length = its.length := rv.length
  cases xs with
  | nil =>
    cases rv
    exact PySem.SeqAt.eq_listAt (e := fun _ => true) p1.isList p2.isList rfl (by omega) (fun j h => absurd h (Nat.not_lt_zero j)) ⟨.bl _, H, I, rfl, q⟩
  | cons z zs =>
    cases its with
    | nil => simp at e1
    | cons _ _ => exact PySem.SeqAt.eq_list_lengthsAt p1.isList p2.isList rfl (by omega) ⟨.bl false, H, I, rfl, q⟩
theorem op_neNil {X : Cx} (hu : X.A.units + 64 < cLine) : OpR X (compareOp .NotEq) (rNil X.K not) := by
  intro pins s σ H x y v u Q I rx ry h
  obtain ⟨a, b, xs, rfl, rfl, h1, h2, q⟩ := h
  cases rx; cases ry
  obtain ⟨its, rv, p1, _⟩ := I.list h1
  obtain ⟨its2, rv2, p2, _⟩ := I.list h2
  cases rv2
  have e1 : xs.length = its.length := rv.length
  cases xs with
  | nil =>
    cases rv
    exact PySem.SeqAt.RcNeAt.lists (e := fun _ => true) p1.isList p2.isList rfl (by omega) (fun j h => absurd h (Nat.not_lt_zero j)) _ _ _ _ ⟨.bl _, H, I, rfl, q⟩
  | cons z zs =>
    cases its with
    | nil => simp at e1
    | cons _ _ => exact PySem.SeqAt.RcNeAt.lists_lengths p1.isList p2.isList rfl (by omega) _ _ _ _ ⟨.bl true, H, I, rfl, q⟩
theorem op_eqNilT {X : Cx} (hu : X.A.units + 64 < cLine) : OpR X (compareOp .Eq) (rNilT X.K id) := by
  intro pins s σ H x y v u Q I rx ry h
  obtain ⟨a, b, xs, rfl, rfl, h1, h2, q⟩ := h
  cases rx; cases ry
  obtain ⟨its, rv, p1, _⟩ := I.tuple h1
  obtain ⟨its2, rv2, p2, _⟩ := I.tuple h2
  cases rv2
  have e1 : xs.length = its.length := rv.length
  refine PySem.SeqAt.eq_tupleAt (e := fun _ => true) (show s.heap.IsTuple a its.toArray from p1) (show s.heap.IsTuple b #[] from p2) (by omega) (fun j _ h => absurd h (Nat.not_lt_zero j)) ⟨.bl xs.isEmpty, H, I, ?_, q⟩
  cases xs with
  | nil =>
    cases rv
    rfl
  | cons z zs =>
    cases its with
    | nil => simp at e1
    | cons _ _ => rfl
theorem op_eqNilK {X : Cx} {K : PySem.W.Frag} (hu : X.A.units + 64 < cLine) (q : X.K = K := by rfl) : OpR X (compareOp .Eq) (rNil K id) := q ▸ op_eqNil hu
theorem op_neNilK {X : Cx} {K : PySem.W.Frag} (hu : X.A.units + 64 < cLine) (q : X.K = K := by rfl) : OpR X (compareOp .NotEq) (rNil K not) := q ▸ op_neNil hu
theorem op_eqNilTK {X : Cx} {K : PySem.W.Frag} (hu : X.A.units + 64 < cLine) (q : X.K = K := by rfl) : OpR X (compareOp .Eq) (rNilT K id) := q ▸ op_eqNilT hu
section
variable {K : PySem.W.Frag} {H : Hp} {Q : VK}
theorem r_nilL {g : Bool → Bool} {a b : Addr} {xs : List V} (h1 : SqL K H a xs) (h2 : SqL K H b []) (q : Q (.bl (g xs.isEmpty)) H) : rNil K g (.ref a) (.ref b) H Q := ⟨a, b, xs, rfl, rfl, h1, h2, q⟩
theorem r_nilT {g : Bool → Bool} {a b : Addr} {xs : List V} (h1 : SqT K H a xs) (h2 : SqT K H b []) (q : Q (.bl (g xs.isEmpty)) H) : rNilT K g (.ref a) (.ref b) H Q := ⟨a, b, xs, rfl, rfl, h1, h2, q⟩
end
theorem kt_NoneType_int {K : PySem.W.Frag} : PySem.W.kitOne K (.type "NoneType") (.type "int") = some false := kit_ty (by decide +kernel)
theorem kt_bool_int {K : PySem.W.Frag} : PySem.W.kitOne K (.type "bool") (.type "int") = some true := kit_ty (by decide +kernel)
theorem kt_int_int {K : PySem.W.Frag} : PySem.W.kitOne K (.type "int") (.type "int") = some true := kit_ty (by decide +kernel)
theorem kt_str_int {K : PySem.W.Frag} : PySem.W.kitOne K (.type "str") (.type "int") = some false := kit_ty (by decide +kernel)
theorem kt_tuple_int {K : PySem.W.Frag} : PySem.W.kitOne K (.type "tuple") (.type "int") = some false := kit_ty (by decide +kernel)
theorem kt_list_int {K : PySem.W.Frag} : PySem.W.kitOne K (.type "list") (.type "int") = some false := kit_ty (by decide +kernel)
theorem kt_dict_int {K : PySem.W.Frag} : PySem.W.kitOne K (.type "dict") (.type "int") = some false := kit_ty (by decide +kernel)
theorem kt_NoneType_bool {K : PySem.W.Frag} : PySem.W.kitOne K (.type "NoneType") (.type "bool") = some false := kit_ty (by decide +kernel)
theorem kt_bool_bool {K : PySem.W.Frag} : PySem.W.kitOne K (.type "bool") (.type "bool") = some true := kit_ty (by decide +kernel)
theorem kt_int_bool {K : PySem.W.Frag} : PySem.W.kitOne K (.type "int") (.type "bool") = some false := kit_ty (by decide +kernel)
theorem kt_str_bool {K : PySem.W.Frag} : PySem.W.kitOne K (.type "str") (.type "bool") = some false := kit_ty (by decide +kernel)
theorem kt_tuple_bool {K : PySem.W.Frag} : PySem.W.kitOne K (.type "tuple") (.type "bool") = some false := kit_ty (by decide +kernel)
theorem kt_list_bool {K : PySem.W.Frag} : PySem.W.kitOne K (.type "list") (.type "bool") = some false := kit_ty (by decide +kernel)
theorem kt_dict_bool {K : PySem.W.Frag} : PySem.W.kitOne K (.type "dict") (.type "bool") = some false := kit_ty (by decide +kernel)
theorem kt_NoneType_tuple {K : PySem.W.Frag} : PySem.W.kitOne K (.type "NoneType") (.type "tuple") = some false := kit_ty (by decide +kernel)
theorem kt_bool_tuple {K : PySem.W.Frag} : PySem.W.kitOne K (.type "bool") (.type "tuple") = some false := kit_ty (by decide +kernel)
theorem kt_int_tuple {K : PySem.W.Frag} : PySem.W.kitOne K (.type "int") (.type "tuple") = some false := kit_ty (by decide +kernel)
theorem kt_str_tuple {K : PySem.W.Frag} : PySem.W.kitOne K (.type "str") (.type "tuple") = some false := kit_ty (by decide +kernel)
theorem kt_tuple_tuple {K : PySem.W.Frag} : PySem.W.kitOne K (.type "tuple") (.type "tuple") = some true := kit_ty (by decide +kernel)
theorem kt_list_tuple {K : PySem.W.Frag} : PySem.W.kitOne K (.type "list") (.type "tuple") = some false := kit_ty (by decide +kernel)
theorem kt_dict_tuple {K : PySem.W.Frag} : PySem.W.kitOne K (.type "dict") (.type "tuple") = some false := kit_ty (by decide +kernel)
theorem kt_NoneType_str {K : PySem.W.Frag} : PySem.W.kitOne K (.type "NoneType") (.type "str") = some false := kit_ty (by decide +kernel)
theorem kt_bool_str {K : PySem.W.Frag} : PySem.W.kitOne K (.type "bool") (.type "str") = some false := kit_ty (by decide +kernel)
theorem kt_int_str {K : PySem.W.Frag} : PySem.W.kitOne K (.type "int") (.type "str") = some false := kit_ty (by decide +kernel)
theorem kt_str_str {K : PySem.W.Frag} : PySem.W.kitOne K (.type "str") (.type "str") = some true := kit_ty (by decide +kernel)
theorem kt_tuple_str {K : PySem.W.Frag} : PySem.W.kitOne K (.type "tuple") (.type "str") = some false := kit_ty (by decide +kernel)
theorem kt_list_str {K : PySem.W.Frag} : PySem.W.kitOne K (.type "list") (.type "str") = some false := kit_ty (by decide +kernel)
theorem kt_dict_str {K : PySem.W.Frag} : PySem.W.kitOne K (.type "dict") (.type "str") = some false := kit_ty (by decide +kernel)
theorem kt_NoneType_list {K : PySem.W.Frag} : PySem.W.kitOne K (.type "NoneType") (.type "list") = some false := kit_ty (by decide +kernel)
theorem kt_bool_list {K : PySem.W.Frag} : PySem.W.kitOne K (.type "bool") (.type "list") = some false := kit_ty (by decide +kernel)
theorem kt_int_list {K : PySem.W.Frag} : PySem.W.kitOne K (.type "int") (.type "list") = some false := kit_ty (by decide +kernel)
theorem kt_str_list {K : PySem.W.Frag} : PySem.W.kitOne K (.type "str") (.type "list") = some false := kit_ty (by decide +kernel)
theorem kt_tuple_list {K : PySem.W.Frag} : PySem.W.kitOne K (.type "tuple") (.type "list") = some false := kit_ty (by decide +kernel)
theorem kt_list_list {K : PySem.W.Frag} : PySem.W.kitOne K (.type "list") (.type "list") = some true := kit_ty (by decide +kernel)
theorem kt_dict_list {K : PySem.W.Frag} : PySem.W.kitOne K (.type "dict") (.type "list") = some false := kit_ty (by decide +kernel)
theorem kt_NoneType_dict {K : PySem.W.Frag} : PySem.W.kitOne K (.type "NoneType") (.type "dict") = some false := kit_ty (by decide +kernel)
theorem kt_bool_dict {K : PySem.W.Frag} : PySem.W.kitOne K (.type "bool") (.type "dict") = some false := kit_ty (by decide +kernel)
theorem kt_int_dict {K : PySem.W.Frag} : PySem.W.kitOne K (.type "int") (.type "dict") = some false := kit_ty (by decide +kernel)
theorem kt_str_dict {K : PySem.W.Frag} : PySem.W.kitOne K (.type "str") (.type "dict") = some false := kit_ty (by decide +kernel)
theorem kt_tuple_dict {K : PySem.W.Frag} : PySem.W.kitOne K (.type "tuple") (.type "dict") = some false := kit_ty (by decide +kernel)
theorem kt_list_dict {K : PySem.W.Frag} : PySem.W.kitOne K (.type "list") (.type "dict") = some false := kit_ty (by decide +kernel)
theorem kt_dict_dict {K : PySem.W.Frag} : PySem.W.kitOne K (.type "dict") (.type "dict") = some true := kit_ty (by decide +kernel)
local macro_rules | `(tactic| walk_at "ne") => `(tactic| first | assumption | (refine' Ne.symm ?h1; (case h1 => assumption)))
local macro_rules | `(tactic| walk_at "nin") => `(tactic| first | assumption | exact List.not_mem_nil)
local macro_rules | `(tactic| walk_at "hl") => `(tactic| first
  | assumption
  | exact upd_same
  | (refine' hl_new ?h1 ?h2; (case h2 => assumption); (case h1 => walk_at "hl"))
  | (refine' hl_set ?h2 ?h1; (case h2 => walk_at "ne"); (case h1 => walk_at "hl"))
  | (refine' hl_same ?h2 ?h1; (case h2 => assumption); (case h1 => walk_at "hl"))
  | (refine' hl_kp ?h2 ?h3 ?h1; (case h2 => assumption); (case h3 => walk_at "nin"); (case h1 => walk_at "hl")))
local macro_rules | `(tactic| walk_at "sq") => `(tactic| first | assumption | (refine' SqL.of ?h1; (case h1 => walk_at "hl")) | (refine' SqT.of ?h1; (case h1 => walk_at "hl")))
local macro_rules | `(tactic| walk_at "sc") => `(tactic| first | assumption | omega | (dsimp only; omega) | decide | exact .inl ⟨by omega, by omega⟩ | exact .inr ⟨by omega, by omega⟩ | exact ⟨by omega, by decide⟩)
local macro_rules | `(tactic| walk_at "sz") => `(tactic| first | assumption | ((try simp only [List.length_map, List.length_append, List.length_cons, List.length_nil]); have : (1000000 : Nat) ≤ sizeLine := (by decide); omega))
local macro_rules | `(tactic| walk_at "ty") => `(tactic| first | assumption | exact TyX.base (.int _) | exact TyX.base (.bl _) | exact TyX.base .non | exact TyX.base (.str _) | (refine' TyX.base (.tup ?h1); (case h1 => walk_at "hl")) | (refine' TyX.base (.lst ?h1); (case h1 => walk_at "hl")) | (refine' TyX.base (.dK ?h1); (case h1 => walk_at "hl")))
local macro_rules | `(tactic| walk_at "mem") => `(tactic| first | assumption | (simp; done) | (intro _ h; simp at h ⊢; first | exact h | exact .inr h | exact .inr (.inr h) | (rcases h with h | h <;> simp [h])))
local macro_rules | `(tactic| walk_at "stt") => `(tactic| first | assumption | (refine' St.new ?h1 ?h2; (case h2 => assumption); (case h1 => walk_at "stt")) | (refine' St.set ?h1 ?h2; (case h2 => assumption); (case h1 => walk_at "stt")) | (refine' St.same ?h1 ?h2; (case h2 => assumption); (case h1 => walk_at "stt")))
local macro_rules | `(tactic| walk_at "in") => `(tactic| first | assumption | exact List.mem_cons_self | exact List.mem_cons_of_mem _ List.mem_cons_self | exact List.mem_cons_of_mem _ (List.mem_cons_of_mem _ List.mem_cons_self))
local macro_rules | `(tactic| walk_at "kp") => `(tactic| first
  | exact Kp.refl
  | assumption
  | (refine' Kp.trans ?h1 (Kp.new ?h2); (case h2 => assumption); (case h1 => walk_at "kp"))
  | (refine' Kp.trans ?h1 (Kp.set ?h2); (case h2 => walk_at "in"); (case h1 => walk_at "kp"))
  | (refine' Kp.own ?h1 ?h2; (case h2 => assumption); (case h1 => walk_at "kp"))
  | (refine' Kp.trans ?h1 (Kp.sub ?h2 ?h3); (case h2 => assumption); (case h3 => walk_at "mem"); (case h1 => walk_at "kp"))
  | (refine' Kp.trans ?h1 (Kp.ofSame ?h2); (case h2 => assumption); (case h1 => walk_at "kp")))
local macro_rules | `(tactic| walk_at "sm") => `(tactic| first
  | exact Same.refl _
  | assumption
  | (refine' Same.trans ?h1 (Same.upd_new ?h2); (case h2 => assumption); (case h1 => walk_at "sm"))
  | (refine' Same.trans ?h1 ?h2; (case h2 => assumption); (case h1 => walk_at "sm")))
local macro_rules | `(tactic| walk_at "lf") => `(tactic| first
  | exact Lft.refl
  | (refine' Lft.trans ?h1 (Lft.new ?h2); (case h2 => assumption); (case h1 => walk_at "lf"))
  | (refine' Lft.trans ?h1 (Lft.set ?h2); (case h2 => walk_at "in"); (case h1 => walk_at "lf"))
  | (refine' Lft.trans ?h1 (Lft.kp ?h2 ?h3); (case h2 => assumption); (case h3 => walk_at "mem"); (case h1 => walk_at "lf"))
  | (refine' Lft.trans ?h1 (Lft.same ?h2); (case h2 => assumption); (case h1 => walk_at "lf"))
  | (refine' Lft.trans ?h1 (Lft.own ?h2); (case h2 => assumption); (case h1 => walk_at "lf")))
local macro_rules | `(tactic| walk_at "kt") => `(tactic| first | exact kt_NoneType_int | exact kt_bool_int | exact kt_int_int | exact kt_str_int | exact kt_tuple_int | exact kt_list_int | exact kt_dict_int | exact kt_NoneType_bool | exact kt_bool_bool | exact kt_int_bool | exact kt_str_bool | exact kt_tuple_bool | exact kt_list_bool | exact kt_dict_bool | exact kt_NoneType_tuple | exact kt_bool_tuple | exact kt_int_tuple | exact kt_str_tuple | exact kt_tuple_tuple | exact kt_list_tuple | exact kt_dict_tuple | exact kt_NoneType_str | exact kt_bool_str | exact kt_int_str | exact kt_str_str | exact kt_tuple_str | exact kt_list_str | exact kt_dict_str | exact kt_NoneType_list | exact kt_bool_list | exact kt_int_list | exact kt_str_list | exact kt_tuple_list | exact kt_list_list | exact kt_dict_list | exact kt_NoneType_dict | exact kt_bool_dict | exact kt_int_dict | exact kt_str_dict | exact kt_tuple_dict | exact kt_list_dict | exact kt_dict_dict)
local macro_rules | `(tactic| walk_at "st1") => `(tactic| first
  | with_reducible refine r_seq ?_
  | with_reducible refine r_for ?_
  | with_reducible refine r_irng1 ?_
  | ((with_reducible refine r_rg1 ?e1 ?_); (case e1 => omega))
  | with_reducible refine r_irng2 ?_
  | ((with_reducible refine r_rg2 ?e1 ?_); (case e1 => omega))
  | with_reducible refine r_ilist ?_
  | ((with_reducible refine' r_il ?e1 ?_); (case e1 => walk_at "sq"))
  | with_reducible refine r_itup ?_
  | ((with_reducible refine' r_it ?e1 ?_); (case e1 => walk_at "sq"))
  | with_reducible refine r_izip ?_
  | ((with_reducible refine' r_izt ?e1 ?e2 ?_); (case e1 => walk_at "sq"); (case e2 => walk_at "sq"))
  | with_reducible refine r_lc ?_
  | with_reducible refine r_tand ?_
  | with_reducible refine r_tor ?_
  | with_reducible refine r_tnot ?_
  | with_reducible refine r_andv ?_
  | with_reducible refine r_orv ?_
  | with_reducible refine r_notv ?_
  | with_reducible refine r_chain ?_
  | with_reducible refine' r_t ?_
  | with_reducible refine' r_f ?_
  | with_reducible refine r_bm ?_
  | with_reducible refine r_tb ?_
  | with_reducible refine r_yes ?_
  | ((with_reducible refine r_sz ?e1 ?_); (case e1 => rfl))
  | with_reducible refine r_sl ?_
  | ((with_reducible refine' r_sll ?e1 ?_); (case e1 => walk_at "sq"))
  | with_reducible refine r_nopart ?_
  | with_reducible refine r_part ?_
  | with_reducible refine r_parti ?_
  | with_reducible refine r_callk ?_
  | with_reducible refine r_perm (by rfl) (by rfl) ?_
  | ((with_reducible refine' r_nilL ?e1 ?e2 ?_); (case e1 => walk_at "sq"); (case e2 => walk_at "sq"))
  | ((with_reducible refine' r_nilT ?e1 ?e2 ?_); (case e1 => walk_at "sq"); (case e2 => walk_at "sq"))
  | ((with_reducible refine' r_app0 ?e1 ?e2 ?_); (case e1 => walk_at "hl"); (case e2 => walk_at "sz"))
  | ((with_reducible refine' r_ty ?e1 ?_); (case e1 => walk_at "hl"))
  | ((with_reducible refine' r_all ?e1 ?_); (case e1 => walk_at "sq"))
  | ((with_reducible refine' r_sum ?e1 ?_); (case e1 => walk_at "sq"))
  | ((with_reducible refine' r_isi ?e1 ?e2 ?e3 ?_); (case e1 => exact .ty _); (case e2 => walk_at "ty"); (case e3 => walk_at "kt"))
  | with_reducible refine r_asg ?_
  | with_reducible refine r_gname ?_
  | ((with_reducible refine' r_var ?e1 ?_); (case e1 => rfl))
  | with_reducible refine r_c ?_
  | with_reducible refine r_op ?_
  | with_reducible refine r_i0 ?_
  | ((with_reducible refine' r_i ?e1 ?_); (case e1 => walk_at "sc"))
  | ((with_reducible refine' r_ixl ?e1 ?e2 ?_); (case e1 => walk_at "sq"); (case e2 => first | assumption | rfl))
  | ((with_reducible refine' r_ixt ?e1 ?e2 ?_); (case e1 => walk_at "sq"); (case e2 => first | assumption | rfl))
  | with_reducible refine r_cb ?_
  | with_reducible refine r_cons ?_
  | with_reducible refine r_nil ?_
  | ((with_reducible refine' r_len ?e1 ?_); (case e1 => walk_at "sq"))
  | ((with_reducible refine' r_lent ?e1 ?_); (case e1 => walk_at "sq"))
  | with_reducible refine r_abs ?_
  | ((with_reducible refine' r_listl ?e1 ?_); (case e1 => walk_at "sq"))
  | ((with_reducible refine' r_listt ?e1 ?_); (case e1 => walk_at "sq"))
  | ((with_reducible refine' r_tupl ?e1 ?_); (case e1 => walk_at "sq"))
  | ((with_reducible refine' r_tupt ?e1 ?_); (case e1 => walk_at "sq"))
  | with_reducible refine r_ife ?_
  | with_reducible refine r_test ?_
  | with_reducible refine r_bl ?_
  | with_reducible refine r_ret ?_
  | with_reducible refine r_gsub ?_
  | ((with_reducible refine' r_setl ?e1 ?e2 ?_); (case e1 => walk_at "hl"); (case e2 => first | assumption | rfl))
  | with_reducible refine r_next ?_
  | with_reducible refine r_call ?_
  | with_reducible refine r_lst ?_
  | with_reducible refine r_tup ?_
  | with_reducible refine r_drop ?_
  | ((with_reducible refine' r_eq ?e1 ?_); (case e1 => rfl))
  | ((with_reducible refine' r_ne ?e1 ?_); (case e1 => rfl)))
local macro_rules | `(tactic| walk_at "st") => `(tactic| repeat (walk_at "st1"))
local macro_rules | `(tactic| walk_at "if") => `(tactic| ((first | refine r_if ?_ | (simp only []; refine r_if ?_)); walk_at "st"))
structure Tx (K : PySem.W.Frag) (mg : Str → Option Value) : Prop where
  m_abs : mg "abs" = none
  m_all : mg "all" = none
  m_bool : mg "bool" = none
  m_int : mg "int" = none
  m_isinstance : mg "isinstance" = none
  m_len : mg "len" = none
  m_list : mg "list" = none
  m_max : mg "max" = none
  m_min : mg "min" = none
  m_range : mg "range" = none
  m_tuple : mg "tuple" = none
  m_zip : mg "zip" = none
def topS (i : Nat) : Stmt := PySem.Challenge.pw_onetrace_k06_rows_known.main.body.getD i (.Pass ⟨0, 0, 0, 0⟩)
abbrev s_is_whole : Stmt := topS 1
theorem sc_is_whole : FnScope ["thing"] ["thing"] (defScope s_is_whole) := ⟨rfl, rfl, rfl, by decide +kernel, rfl, by decide +kernel, by decide +kernel⟩
abbrev s_is_number : Stmt := topS 2
theorem sc_is_number : FnScope ["thing", "p"] ["thing", "p"] (defScope s_is_number) := ⟨rfl, rfl, rfl, by decide +kernel, rfl, by decide +kernel, by decide +kernel⟩
abbrev s_is_tuple : Stmt := topS 3
theorem sc_is_tuple : FnScope ["thing", "least", "most"] ["thing", "least", "most"] (defScope s_is_tuple) := ⟨rfl, rfl, rfl, by decide +kernel, rfl, by decide +kernel, by decide +kernel⟩
abbrev s_is_rows : Stmt := topS 5
theorem sc_is_rows : FnScope ["thing", "width", "p", "row"] ["thing", "width", "p"] (defScope s_is_rows) := ⟨rfl, rfl, rfl, by decide +kernel, rfl, by decide +kernel, by decide +kernel⟩
abbrev s_is_line : Stmt := topS 6
theorem sc_is_line : FnScope ["thing", "width", "p", "n"] ["thing", "width", "p"] (defScope s_is_line) := ⟨rfl, rfl, rfl, by decide +kernel, rfl, by decide +kernel, by decide +kernel⟩
abbrev s_law_state : Stmt := topS 8
theorem sc_law_state : FnScope ["script", "cells", "cell"] ["script"] (defScope s_law_state) := ⟨rfl, rfl, rfl, by decide +kernel, rfl, by decide +kernel, by decide +kernel⟩
abbrev s_law_draw : Stmt := topS 9
theorem sc_law_draw : FnScope ["state", "many", "cells", "at", "cell"] ["state", "many"] (defScope s_law_draw) := ⟨rfl, rfl, rfl, by decide +kernel, rfl, by decide +kernel, by decide +kernel⟩
abbrev s_law_prime : Stmt := topS 10
theorem sc_law_prime : FnScope ["state"] ["state"] (defScope s_law_prime) := ⟨rfl, rfl, rfl, by decide +kernel, rfl, by decide +kernel, by decide +kernel⟩
abbrev s_law_row : Stmt := topS 11
theorem sc_law_row : FnScope ["state", "wideness", "base", "way", "some", "k", "number"] ["state", "wideness", "base"] (defScope s_law_row) := ⟨rfl, rfl, rfl, by decide +kernel, rfl, by decide +kernel, by decide +kernel⟩
abbrev s_law_times : Stmt := topS 12
theorem sc_law_times : FnScope ["line", "n", "base", "number"] ["line", "n", "base"] (defScope s_law_times) := ⟨rfl, rfl, rfl, by decide +kernel, rfl, by decide +kernel, by decide +kernel⟩
abbrev s_law_together : Stmt := topS 13
theorem sc_law_together : FnScope ["line", "two", "base", "first"] ["line", "two", "base"] (defScope s_law_together) := ⟨rfl, rfl, rfl, by decide +kernel, rfl, by decide +kernel, by decide +kernel⟩
abbrev s_law_rows : Stmt := topS 14
theorem sc_law_rows : FnScope ["state", "wideness", "base", "many", "some", "k", "line", "way"] ["state", "wideness", "base", "many"] (defScope s_law_rows) := ⟨rfl, rfl, rfl, by decide +kernel, rfl, by decide +kernel, by decide +kernel⟩
abbrev s_law_is_row : Stmt := topS 15
theorem sc_law_is_row : FnScope ["item", "wideness", "base", "odd", "number"] ["item", "wideness", "base"] (defScope s_law_is_row) := ⟨rfl, rfl, rfl, by decide +kernel, rfl, by decide +kernel, by decide +kernel⟩
abbrev s_law_spoilt : Stmt := topS 16
theorem sc_law_spoilt : FnScope ["state", "lot", "base", "way", "at", "odd", "line", "spot"] ["state", "lot", "base"] (defScope s_law_spoilt) := ⟨rfl, rfl, rfl, by decide +kernel, rfl, by decide +kernel, by decide +kernel⟩
abbrev s_law : Stmt := topS 17
theorem sc_law : FnScope ["script", "state", "turn", "base", "spoils", "wide", "item", "k", "asked", "wanted", "line", "told", "strange"] ["script"] (defScope s_law) := ⟨rfl, rfl, rfl, by decide +kernel, rfl, by decide +kernel, by decide +kernel⟩
theorem kb_is_rows_2_1_0 {K : PySem.W.Frag} {f : Addr} {fd : FuncData} (F : Fun K "is_rows" "is_rows" s_is_rows f fd) : ∀ (us ws : List Value), us.length = 0 → ws.length = 3 → ∀ s : Shared, BindsTo s fd ⟨us, (["p", "width", "thing"] : List Str).zip ws⟩ ((["thing", "width", "p"] : List Str).zip (([2, 1, 0] : List Nat).map fun i => (us ++ ws).getD i .none)) := by
  obtain ⟨oc, od, kV, doc, pm, an, cdv, ct, osl, rfl, lk, hcd⟩ := F.ex
  intro us ws h1 h2 s
  match us, h1, ws, h2 with
  | [], _, [w0, w1, w2], _ => exact .of_eq rfl
/-! ### the law's own: draws, rows -/
def sp_law_state (K : PySem.W.Frag) : Sp := fun vs H Q _ => ∃ (a : Addr) (ns : List Int), vs = [.ref a] ∧ SqL K H a (ns.map .int) ∧ ns.length ≤ 63 ∧
  ∀ s c H', Same H H' → St s c H' → Q (.ref s) H'
def sp_law_draw (_ : PySem.W.Frag) : Sp := fun vs H Q _ => ∃ (s c : Addr) (m : Int), vs = [.ref s, .int m] ∧ St s c H ∧ (0 < m ∧ m < 1073741824) ∧
  ∀ d H', Kp [s, c] H H' → St s c H' → 0 ≤ d ∧ d < m → Q (.int d) H'
theorem St.nil0 {s c : Addr} {H : Hp} (h : St s c H) : H s ≠ none ∧ H c ≠ none := by
  obtain ⟨_, cs, j, r, h⟩ := h
  exact ⟨by rw [h.hs]; simp, by rw [h.hc]; simp⟩
theorem ints_of_all {p : Int → Prop} : ∀ {ys : List V}, (∀ y ∈ ys, ∃ n : Int, y = .int n ∧ p n) → ∃ cs : List Int, ys = cs.map .int ∧ ∀ n ∈ cs, p n
  | [], _ => ⟨[], rfl, by simp⟩
  | y :: ys, h => by
    obtain ⟨n, rfl, hn⟩ := h y List.mem_cons_self
    obtain ⟨cs, rfl, hc⟩ := ints_of_all (ys := ys) fun z hz => h z (List.mem_cons_of_mem _ hz)
    exact ⟨n :: cs, rfl, fun m hm => by
      rcases List.mem_cons.mp hm with rfl | hm
      · exact hn
      · exact hc m hm⟩
theorem atI_in {α : Type} {xs : List α} {i : Int} (h0 : 0 ≤ i) (h1 : i < xs.length) : ∃ v, atI xs i = some v ∧ v ∈ xs := by
  obtain ⟨j, rfl⟩ : ∃ j : Nat, i = j := ⟨i.toNat, by omega⟩
  have h2 : j < xs.length := by omega
  exact ⟨xs[j], atI_nat (List.getElem?_eq_getElem h2), List.getElem_mem h2⟩
section
variable {P : Program} {w : World} {K : PySem.W.Frag} {mg : Str → Option Value} {base : Heap}
theorem ok_law_draw (T : Tx K mg)  {f : Addr} {fd : FuncData} (F : Here K mg "_law_draw" s_law_draw ["state", "many"] f fd) : Cal P w K mg base "_law_draw" 1 ["state", "many"] (sp_law_draw K) s_law_draw f fd := by
  refine F.cal sc_law_draw (fun vs H Q E h => ?_) (fun cdv A outer s H vs Q E hr h => ?_)
  · obtain ⟨s, c, m, rfl, _⟩ := h
    rfl
  · obtain ⟨s, c, m, rfl, hst, ⟨m0, m1⟩, q⟩ := h
    refine ⟨_, (pss_cons (ps_set (i := 2) sc_law_draw.nd rfl (by first | exact .inl rfl | exact .inr rfl) (pe_ix (ix_listK (K := K)) (pv 0) pe_int (fun _ _ => rfl)))
      (pss_cons (ps_set (i := 3) sc_law_draw.nd rfl (by first | exact .inl rfl | exact .inr rfl) (pe_op op_mod (pe_ix (ix_listK (K := K)) (pv 0) pe_int (fun _ _ => rfl)) (pe_callB (cr_lenK (K := K)) (by rfl) T.m_len (by decide +kernel) (pa_cons (pv 2) pa_nil))))
      (pss_cons (ps_set (i := 4) sc_law_draw.nd rfl (by first | exact .inl rfl | exact .inr rfl) (pe_ix (ix_listK (K := K)) (pv 2) (pv 3) (fun _ _ => rfl)))
      (pss_cons (ps_if (pt_cmpR op_ge (pv 4) pe_int (nomark _)) (pss_cons (ps_asg (pe_op op_fdivW (pv 4) (pv 1)) (pg_sub (pv 2) (pv 3) set_list))
      (pss_one (ps_ret (pe_op op_mod (pv 4) (pv 1))))) pss_nil)
      (pss_cons (ps_asg (pe_op op_add (pe_ix (ix_listK (K := K)) (pv 0) pe_int (fun _ _ => rfl)) pe_int) (pg_sub (pv 0) pe_int set_list))
      (pss_cons (ps_asg (pe_op op_mod (pe_op op_add (pe_op op_add (pe_op op_mul (pe_ix (ix_listK (K := K)) (pv 0) pe_int (fun _ _ => rfl)) pe_int) (pv 4)) pe_int) pe_int) (pg_sub (pv 0) pe_int set_list))
      (pss_one (ps_ret (pe_op op_mod (pe_op op_fdivW (pe_op op_mod (pe_op op_mul (pe_ix (ix_listK (K := K)) (pv 0) pe_int (fun _ _ => rfl)) (pe_ix (ix_listK (K := K)) (pv 0) pe_int (fun _ _ => rfl))) pe_int) pe_int) (pv 1)))))))))), ?_⟩
    obtain ⟨hne, cs, j, r, hs, hc, ne, nn, len, hj, hr0, hr1⟩ := hst
    have hl : 0 < (cs.map V.int).length := by rw [List.length_map]; exact List.length_pos_iff.mpr ne
    obtain ⟨i, hi, ei⟩ : ∃ i : Nat, i < cs.length ∧ j % ((cs.map V.int).length : Int) = i := by
      have h1 := Int.emod_nonneg j (show ((cs.map V.int).length : Int) ≠ 0 by omega)
      have h2 := Int.emod_lt_of_pos j (show (0 : Int) < ((cs.map V.int).length : Int) by omega)
      rw [List.length_map] at h1 h2 ⊢
      exact ⟨(j % (cs.length : Int)).toNat, by omega, by omega⟩
    have hx : atI (cs.map V.int) (j % ((cs.map V.int).length : Int)) = some (.int cs[i]) := by
      rw [ei]; exact atI_nat (by rw [List.getElem?_map, List.getElem?_eq_getElem hi]; rfl)
    have hx0 : 0 ≤ cs[i] := nn _ (List.getElem_mem hi)
    have hxi : ixN (cs.map V.int).length (j % ((cs.map V.int).length : Int)) = some i := by
      rw [ei]; unfold ixN; rw [if_pos (by omega), if_pos (by rw [List.length_map]; omega)]; rfl
    have hw : CDivW cs[i] m := wide_div (b := 30) m0 (by omega) (by decide) (by decide)
    walk_at "st"
    walk_at "if"
    refine r_ite (fun hge => ?_) (fun hlt => ?_)
    · walk_at "st"
      refine q _ _ (fun b o e hb => ?_) ⟨hne, cs.set i (cs[i] / m), j, r, ?_, ?_, ?_, ?_, ?_, hj, hr0, hr1⟩ ⟨Int.emod_nonneg _ (by omega), Int.emod_lt_of_pos _ m0⟩
      · rw [upd_ne (by intro z; exact hb (by simp [z]))]; exact e
      · walk_at "hl"
      · rw [upd_same, List.map_set]
      · intro z; exact ne (by simpa using congrArg List.length z)
      · intro x hx
        rcases List.mem_or_eq_of_mem_set hx with h | h
        · exact nn _ h
        · rw [h]; exact Int.ediv_nonneg hx0 (by omega)
      · simpa using len
    · walk_at "st"
      refine q _ _ (fun b o e hb => ?_) ⟨hne, cs, j + 1, (r * 48271 + cs[i] + 12345) % 2147483647, upd_same, ?_, ne, nn, len, by omega, Int.emod_nonneg _ (by decide), Int.emod_lt_of_pos _ (by decide)⟩ ⟨Int.emod_nonneg _ (by omega), Int.emod_lt_of_pos _ m0⟩
      · rw [upd_ne (by intro z; exact hb (by simp [z])), upd_ne (by intro z; exact hb (by simp [z]))]; exact e
      · rw [upd_ne hne.symm, upd_ne hne.symm]; exact hc
end
section
variable {P : Program} {w : World} {K : PySem.W.Frag} {mg : Str → Option Value} {base : Heap}
theorem ok_law_state (T : Tx K mg)  {f : Addr} {fd : FuncData} (F : Here K mg "_law_state" s_law_state ["script"] f fd) : Cal P w K mg base "_law_state" 1 ["script"] (sp_law_state K) s_law_state f fd := by
  refine F.cal sc_law_state (fun vs H Q E h => ?_) (fun cdv A outer s H vs Q E hr h => ?_)
  · obtain ⟨a, ns, rfl, _⟩ := h
    rfl
  · obtain ⟨a, ns, rfl, hS, hlen, q⟩ := h
    refine ⟨_, (pss_cons (ps_setLc (i := 1) rfl sc_law_state.nd rfl rfl (sw_true rfl rfl rfl (by decide +kernel)) (pi_listK (K := K) (pe_slice (sl_listK (K := K)) (pv 0) po_none (po_some pe_int))) (blkOk_by (own := [("cell", 2)]) (N := ["script", "cells", "cell"]) (sc := (defScope s_law_state)) (by decide +kernel)) (fun _ _ _ _ _ => (pg_name (i := 2) sc_law_state.nd rfl (by first | exact .inl rfl | exact .inr rfl))) (fun _ _ _ _ _ => pts_nil) (fun _ _ _ _ _ => (pe_callB cr_abs (by rfl) T.m_abs (by decide +kernel) (pa_cons (pv 2) pa_nil))))
      (pss_cons (ps_if (pt_cmpR op_eq (pe_callB (cr_lenK (K := K)) (by rfl) T.m_len (by decide +kernel) (pa_cons (pv 1) pa_nil)) pe_int (nomark _)) (pss_one (ps_set (i := 1) sc_law_state.nd rfl (by first | exact .inl rfl | exact .inr rfl) (pe_lst (pa_cons pe_int pa_nil)))) pss_nil)
      (pss_one (ps_ret (pe_lst (pa_cons (pv 1) (pa_cons pe_int (pa_cons pe_int pa_nil)))))))), ?_⟩
    walk_at "st"
    intro p hp
    walk_at "st"
    intro D hD
    have hcut : ∀ (i : Nat) (x : V), (cutV (ns.map V.int) none (some 63))[i]? = some x → ∃ n : Int, x = .int n := fun i x e => by
      have h1 := List.mem_of_getElem? e
      unfold cutV at h1
      obtain ⟨n, _, hn⟩ := List.mem_map.mp (List.mem_of_mem_drop (List.mem_of_mem_take h1))
      exact ⟨n, hn.symm⟩
    have hcl : (cutV (ns.map V.int) none (some 63)).length ≤ 63 := Nat.le_trans (cutV_length _ _ _) (by rw [List.length_map]; exact hlen)
    refine lc_map (walk_list (xs := cutV (ns.map V.int) none (some 63))) (by omega) hD (fun _ y _ => ∃ n : Int, y = .int n ∧ 0 ≤ n) (fun _ _ _ _ h _ => h) (fun _ _ _ _ _ h _ => h) (fun H' k => SqL.of (k _ _ upd_same)) (fun i H1 x H2 y => by rw [y.1]; exact Same.refl _)
      (fun i x H1 H2 Y No hi sm y hY => ?_) (fun ys H' el sm eD hys => ?_)
    · obtain ⟨rfl, ex⟩ := y
      obtain ⟨n, rfl⟩ := hcut i x ex
      refine ⟨rfl, ?_⟩
      walk_at "st"
      refine hY _ _ (Same.refl _) ⟨_, rfl, ?_⟩
      split <;> omega
    · have hall : ∀ y ∈ ys, ∃ n : Int, y = .int n ∧ 0 ≤ n := fun y hy => by
        obtain ⟨i, e⟩ := List.getElem?_of_mem hy
        exact hys i y e
      obtain ⟨cs, ecs, hcs⟩ := ints_of_all hall
      subst ecs
      have hSame : Same H H' := (Same.upd_new hp).trans sm
      have hcl2 : cs.length ≤ 63 := by rw [List.length_map] at el; omega
      walk_at "st"
      walk_at "if"
      refine r_ite (fun h0 => ?_) (fun h0 => ?_)
      · walk_at "st"
        intro l hl
        walk_at "st"
        intro s hs
        have ne : s ≠ l := fun z => by rw [z, upd_same] at hs; cases hs
        refine q s l _ (by walk_at "sm") ⟨ne, [5], 0, 1, upd_same, hl_set ne.symm upd_same, by simp, by simp, by simp, by omega, by omega, by omega⟩
      · walk_at "st"
        intro s hs
        have ne : s ≠ D := (ne_of_none eD hs).symm
        have h1 : cs ≠ [] := fun z => h0 (by rw [z]; rfl)
        exact q s D _ (by walk_at "sm") ⟨ne, cs, 0, 1, upd_same, hl_set ne.symm eD, h1, hcs, by omega, by omega, by omega, by omega⟩
end
def sp_law_prime (_ : PySem.W.Frag) : Sp := fun vs H Q _ => ∃ (s c : Addr), vs = [.ref s] ∧ St s c H ∧
  ∀ p H', Kp [s, c] H H' → St s c H' → p ∈ [2, 3, 5, 97, (997 : Int)] → Q (.int p) H'
/-- a new tuple of numbers by base -/
def sp_law_row (_ : PySem.W.Frag) : Sp := fun vs H Q _ => ∃ (s c : Addr) (w b : Int), vs = [.ref s, .int w, .int b] ∧ St s c H ∧ (0 ≤ w ∧ w ≤ 400) ∧ (2 ≤ b ∧ b ≤ 997) ∧
  ∀ (p : Addr) (ns : List Int) (H' : Hp), Kp [s, c] H H' → St s c H' → H p = none → H' p = some (.tup (ns.map .int)) → ((ns.length : Int) = w ∧ ∀ n ∈ ns, 0 ≤ n ∧ n < b) → Q (.ref p) H'
section
variable {P : Program} {w : World} {K : PySem.W.Frag} {mg : Str → Option Value} {base : Heap}
theorem ok_law_prime (T : Tx K mg) {f_law_draw : Addr} {fd_law_draw : FuncData} (C_law_draw : Cal P w K mg base "_law_draw" 1 ["state", "many"] (sp_law_draw K) s_law_draw f_law_draw fd_law_draw) {f : Addr} {fd : FuncData} (F : Here K mg "_law_prime" s_law_prime ["state"] f fd) : Cal P w K mg base "_law_prime" 2 ["state"] (sp_law_prime K) s_law_prime f fd := by
  refine F.cal sc_law_prime (fun vs H Q E h => ?_) (fun cdv A outer s H vs Q E hr h => ?_)
  · obtain ⟨s, c, rfl, _⟩ := h
    rfl
  · obtain ⟨s, c, rfl, hst, q⟩ := h
    refine ⟨_, (pss_one (ps_ret (pe_ix (ix_listK (K := K)) (pe_lst (pa_cons pe_int (pa_cons pe_int (pa_cons pe_int (pa_cons pe_int (pa_cons pe_int pa_nil)))))) (pe_call C_law_draw.ok (hr.mono (by decide)) (by rfl) C_law_draw.at_ C_law_draw.kp C_law_draw.b .nil pass0 (pa_cons (pv 0) (pa_cons pe_int pa_nil))) (fun _ _ => rfl)))), ?_⟩
    walk_at "st"
    intro l hl
    have ol := hst.out hl
    walk_at "st"
    refine ⟨s, c, 5, rfl, by walk_at "stt", by omega, fun d H1 k1 st1 hd => ?_⟩
    obtain ⟨v, ev, hv⟩ := atI_in (xs := [V.int 2, V.int 3, V.int 5, V.int 97, V.int 997]) hd.1 (by simpa using hd.2)
    walk_at "st"
    obtain ⟨p, rfl, hp⟩ : ∃ p, v = .int p ∧ p ∈ [2, 3, 5, 97, (997 : Int)] := by
      simp at hv
      rcases hv with h | h | h | h | h <;> exact ⟨_, h, by simp⟩
    exact q p H1 (by walk_at "kp") st1 hp
theorem ok_law_row (T : Tx K mg) {f_law_draw : Addr} {fd_law_draw : FuncData} (C_law_draw : Cal P w K mg base "_law_draw" 1 ["state", "many"] (sp_law_draw K) s_law_draw f_law_draw fd_law_draw) {f : Addr} {fd : FuncData} (F : Here K mg "_law_row" s_law_row ["state", "wideness", "base"] f fd) : Cal P w K mg base "_law_row" 2 ["state", "wideness", "base"] (sp_law_row K) s_law_row f fd := by
  refine F.cal sc_law_row (fun vs H Q E h => ?_) (fun cdv A outer s H vs Q E hr h => ?_)
  · obtain ⟨s, c, w, b, rfl, _⟩ := h
    rfl
  · obtain ⟨s, c, w, b, rfl, hst, hw, hb, q⟩ := h
    refine ⟨_, (pss_cons (ps_set (i := 3) sc_law_row.nd rfl (by first | exact .inl rfl | exact .inr rfl) (pe_call C_law_draw.ok (hr.mono (by decide)) (by rfl) C_law_draw.at_ C_law_draw.kp C_law_draw.b .nil pass0 (pa_cons (pv 0) (pa_cons pe_int pa_nil))))
      (pss_cons (ps_set (i := 4) sc_law_row.nd rfl (by first | exact .inl rfl | exact .inr rfl) (pe_lst pa_nil))
      (pss_cons (ps_for PassesOwn.never rfl (pi_range1 (by rfl) T.m_range (pa_cons (pv 1) pa_nil)) (pg_name (i := 5) sc_law_row.nd rfl (by first | exact .inl rfl | exact .inr rfl)) (pss_cons (ps_set (i := 6) sc_law_row.nd rfl (by first | exact .inl rfl | exact .inr rfl) (pe_ix (ix_listK (K := K)) (pe_lst (pa_cons (pe_call C_law_draw.ok (hr.mono (by decide)) (by rfl) C_law_draw.at_ C_law_draw.kp C_law_draw.b .nil pass0 (pa_cons (pv 0) (pa_cons (pv 2) pa_nil))) (pa_cons (pe_op op_sub (pv 2) pe_int) (pa_cons (pe_op op_mod pe_int (pv 2)) (pa_cons (pe_call C_law_draw.ok (hr.mono (by decide)) (by rfl) C_law_draw.at_ C_law_draw.kp C_law_draw.b .nil pass0 (pa_cons (pv 0) (pa_cons pe_int pa_nil))) pa_nil))))) (pe_call C_law_draw.ok (hr.mono (by decide)) (by rfl) C_law_draw.at_ C_law_draw.kp C_law_draw.b .nil pass0 (pa_cons (pv 0) (pa_cons pe_int pa_nil))) (fun _ _ => rfl)))
      (pss_one (ps_expr (castBM (K := K) (pe_bm PySem.F.plainAttrs_list PySem.F.slot_list_append PySem.F.type_list_append mt_append (pv 4) (pa_cons (pe_ifExp (PW.pt (pw_or (pt_cmpR op_gt (pv 3) pe_int (nomark _)) (pw_or1 (pt_cmpR op_eq (pe_call C_law_draw.ok (hr.mono (by decide)) (by rfl) C_law_draw.at_ C_law_draw.kp C_law_draw.b .nil pass0 (pa_cons (pv 0) (pa_cons pe_int pa_nil))) pe_int (nomark _))))) (pv 6) pe_int) pa_nil)))))))
      (pss_one (ps_ret (pe_callTy (cr_tupOfK (K := K)) (by rfl) T.m_tuple (by decide +kernel) (pa_cons (pv 4) pa_nil))))))), ?_⟩
    walk_at "st"
    refine ⟨s, c, 4, rfl, by walk_at "stt", by omega, fun way H1 k1 st1 hway => ?_⟩
    walk_at "st"
    intro l hl
    have ol := st1.out hl
    walk_at "st"
    have hl0 : H l = none := k1.free hl ol
    refine lp_by (walk_range (lo := 0) (n := w.toNat)) (fun i σ' H' => ∃ x5 x6, σ' = [some (.ref s), some (.int w), some (.int b), some (.int way), some (.ref l), x5, x6] ∧ Kp [s, c] H H' ∧ St s c H' ∧
      ∃ ns : List Int, H' l = some (.lst (ns.map .int)) ∧ ns.length = i ∧ ∀ n ∈ ns, 0 ≤ n ∧ n < b) ⟨none, none, rfl, by walk_at "kp", by walk_at "stt", [], upd_same, rfl, by simp⟩ (fun _ _ _ _ _ => trivial) (fun i x σ' H2 H3 hi p y => ?_) (fun σ' H2 p => ?_)
    · obtain ⟨x5, x6, rfl, k2, st2, ns, el, en, hn⟩ := p
      obtain ⟨rfl, rfl⟩ := y
      walk_at "st"
      refine ⟨s, c, b, rfl, by walk_at "stt", by omega, fun d1 H4 k4 st4 hd1 => ?_⟩
      walk_at "st"
      refine ⟨s, c, 2, rfl, by walk_at "stt", by omega, fun d2 H5 k5 st5 hd2 => ?_⟩
      walk_at "st"
      intro t ht
      have ot := st5.out ht
      walk_at "st"
      refine ⟨s, c, 4, rfl, by walk_at "stt", by omega, fun d3 H6 k6 st6 hd3 => ?_⟩
      have em := Int.emod_nonneg 1 (show b ≠ 0 by omega)
      have em2 := Int.emod_lt_of_pos 1 (show 0 < b by omega)
      obtain ⟨v, ev, hv⟩ := atI_in (xs := [V.int d1, V.int (b - 1), V.int (1 % b), V.int d2]) hd3.1 (by simpa using hd3.2)
      obtain ⟨n, rfl, hn1⟩ : ∃ n, v = .int n ∧ (0 ≤ n ∧ n < b) := by
        simp at hv
        rcases hv with h | h | h | h <;> exact ⟨_, h, by omega⟩
      walk_at "st"
      have el6 : H6 l = some (.lst (ns.map .int)) := by walk_at "hl"
      have kl6 : Kp [s, c] H H6 := by walk_at "kp"
      have fin : ∀ (m : Int) (H7 : Hp), (0 ≤ m ∧ m < b) → Kp [s, c] H H7 → St s c H7 → H7 l = some (.lst (ns.map .int)) → ∃ x5 x6, [some (.ref s), some (.int w), some (.int b), some (.int way), some (.ref l), some (V.int (0 + (i : Int))), some (V.int n)] = [some (.ref s), some (.int w), some (.int b), some (.int way), some (.ref l), x5, x6] ∧ Kp [s, c] H (upd H7 l (.lst (ns.map .int ++ [.int m]))) ∧ St s c (upd H7 l (.lst (ns.map .int ++ [.int m]))) ∧
          ∃ ns' : List Int, (upd H7 l (.lst (ns.map .int ++ [.int m]))) l = some (.lst (ns'.map .int)) ∧ ns'.length = i + 1 ∧ ∀ n ∈ ns', 0 ≤ n ∧ n < b := fun m H7 hm k7 st7 e7 => by
        refine ⟨_, _, rfl, by walk_at "kp", by walk_at "stt", ns ++ [m], by rw [upd_same, List.map_append]; rfl, by simp [en], fun z hz => ?_⟩
        rcases List.mem_append.mp hz with h | h
        · exact hn z h
        · rw [List.mem_singleton.mp h]; exact hm
      have hns : ns.length ≤ 400 := by omega
      refine r_ite (fun h1 => ?_) (fun h1 => ?_)
      · walk_at "st"
        exact fin n H6 hn1 kl6 st6 el6
      · walk_at "st"
        refine ⟨s, c, 3, rfl, by walk_at "stt", by omega, fun d4 H7 k7 st7 hd4 => ?_⟩
        walk_at "st"
        have el7 : H7 l = some (.lst (ns.map .int)) := by walk_at "hl"
        refine r_ite (fun h2 => ?_) (fun h2 => ?_)
        · walk_at "st"
          exact fin n H7 hn1 (by walk_at "kp") st7 (by walk_at "hl")
        · walk_at "st"
          exact fin 0 H7 (by omega) (by walk_at "kp") st7 (by walk_at "hl")
    · obtain ⟨x5, x6, rfl, k2, st2, ns, el, en, hn⟩ := p
      walk_at "st"
      intro p hp
      exact q p ns _ (by walk_at "kp") (by walk_at "stt") (k2.free hp (st2.out hp)) upd_same ⟨by omega, hn⟩
end
def sp_law_times (_ : PySem.W.Frag) : Sp := fun vs H Q _ => ∃ (a : Addr) (ns : List Int) (n b : Int), vs = [.ref a, .int n, .int b] ∧ H a = some (.tup (ns.map .int)) ∧ ns.length ≤ 1000 ∧ (2 ≤ b ∧ b ≤ 997) ∧ (∀ x ∈ ns, 0 ≤ x ∧ x < b) ∧
  ∀ (p : Addr) (H' : Hp), Same H H' → H p = none → H' p = some (.tup ((ns.map fun x => x * n % b).map .int)) → Q (.ref p) H'
def sp_law_together (_ : PySem.W.Frag) : Sp := fun vs H Q _ => ∃ (a a2 : Addr) (ns ms : List Int) (b : Int), vs = [.ref a, .ref a2, .int b] ∧ H a = some (.tup (ns.map .int)) ∧ H a2 = some (.tup (ms.map .int)) ∧ ns.length ≤ 1000 ∧ (2 ≤ b ∧ b ≤ 997) ∧
  ∀ (p : Addr) (H' : Hp), Same H H' → H p = none → H' p = some (.tup ((List.zipWith (fun x y => (x + y) % b) ns ms).map .int)) → Q (.ref p) H'
theorem getElem?_map_int {ns : List Int} {i : Nat} {x : V} (e : (ns.map V.int)[i]? = some x) : ∃ n, ns[i]? = some n ∧ x = .int n := by
  rw [List.getElem?_map] at e
  cases h : ns[i]? with
  | none => rw [h] at e; cases e
  | some n => rw [h] at e; exact ⟨n, rfl, (Option.some.inj e).symm⟩
theorem list_ext_int {ys : List V} {ms : List Int} (hl : ys.length = ms.length) (h : ∀ (i : Nat) (y : V), ys[i]? = some y → ∃ m, ms[i]? = some m ∧ y = V.int m) : ys = ms.map V.int := by
  apply List.ext_getElem?
  intro i
  cases e : ys[i]? with
  | none =>
    rw [List.getElem?_eq_none_iff] at e
    rw [List.getElem?_eq_none_iff.mpr (by rw [List.length_map]; omega)]
  | some y =>
    obtain ⟨m, h1, rfl⟩ := h i y e
    rw [List.getElem?_map, h1]; rfl
section
variable {P : Program} {w : World} {K : PySem.W.Frag} {mg : Str → Option Value} {base : Heap}
theorem ok_law_times (T : Tx K mg)  {f : Addr} {fd : FuncData} (F : Here K mg "_law_times" s_law_times ["line", "n", "base"] f fd) : Cal P w K mg base "_law_times" 1 ["line", "n", "base"] (sp_law_times K) s_law_times f fd := by
  refine F.cal sc_law_times (fun vs H Q E h => ?_) (fun cdv A outer s H vs Q E hr h => ?_)
  · obtain ⟨a, ns, n, b, rfl, _⟩ := h
    rfl
  · obtain ⟨a, ns, n, b, rfl, ha, hlen, hb, hns, q⟩ := h
    refine ⟨_, (pss_one (ps_ret (pe_callTy (cr_tupOfK (K := K)) (by rfl) T.m_tuple (by decide +kernel) (pa_cons (pe_lc rfl sc_law_times.nd (pi_tupK (K := K) (pv 0)) (blkOk_by (own := [("number", 3)]) (N := ["line", "n", "base", "number"]) (sc := (defScope s_law_times)) (by decide +kernel)) (fun _ _ _ _ _ => (pg_name (i := 3) sc_law_times.nd rfl (by first | exact .inl rfl | exact .inr rfl))) (fun _ _ _ _ _ => pts_nil) (fun _ _ _ _ _ => (pe_op op_mod (pe_op op_mul (pv 3) (pv 1)) (pv 2)))) pa_nil)))), ?_⟩
    walk_at "st"
    intro D hD
    refine lc_map (walk_tup (xs := ns.map V.int)) (by rw [List.length_map]; omega) hD (fun i y _ => ∃ m, (ns.map fun x => x * n % b)[i]? = some m ∧ y = .int m) (fun _ _ _ _ h _ => h) (fun _ _ _ _ _ h _ => h) (fun H' k => SqT.of (k _ _ ha)) (fun i H1 x H2 y => by rw [y.1]; exact Same.refl _)
      (fun i x H1 H2 Y No hi sm y hY => ?_) (fun ys H' el sm eD hys => ?_)
    · obtain ⟨rfl, ex⟩ := y
      obtain ⟨m, em, rfl⟩ := getElem?_map_int ex
      have hm := hns m (List.mem_of_getElem? em)
      refine ⟨rfl, ?_⟩
      walk_at "st"
      refine hY _ _ (Same.refl _) ⟨_, ?_, rfl⟩
      rw [List.getElem?_map, em]; rfl
    · obtain rfl := list_ext_int (ms := ns.map fun x => x * n % b) (by rw [el, List.length_map, List.length_map]) hys
      walk_at "st"
      intro p hp
      exact q p _ (by walk_at "sm") (sm.free hp) upd_same
theorem ok_law_together (T : Tx K mg)  {f : Addr} {fd : FuncData} (F : Here K mg "_law_together" s_law_together ["line", "two", "base"] f fd) : Cal P w K mg base "_law_together" 1 ["line", "two", "base"] (sp_law_together K) s_law_together f fd := by
  refine F.cal sc_law_together (fun vs H Q E h => ?_) (fun cdv A outer s H vs Q E hr h => ?_)
  · obtain ⟨a, a2, ns, ms, b, rfl, _⟩ := h
    rfl
  · obtain ⟨a, a2, ns, ms, b, rfl, ha, ha2, hlen, hb, q⟩ := h
    refine ⟨_, (pss_one (ps_ret (pe_callTy (cr_tupOfK (K := K)) (by rfl) T.m_tuple (by decide +kernel) (pa_cons (pe_lc rfl sc_law_together.nd (castPI (K := K) (wi := fun K => iZipA K _) (pi_zipA (by rfl) T.m_zip (pa_cons (pv 0) (pa_cons (pv 1) pa_nil)))) (blkOk_by (own := [("first", 3), ("two", 1)]) (N := ["line", "two", "base", "first"]) (sc := (defScope s_law_together)) (by decide +kernel)) (fun _ _ _ _ _ => (castPG (K := K) (n := 2) (pg_tup rfl (pgs_cons (pg_name (i := 3) sc_law_together.nd rfl (by first | exact .inl rfl | exact .inr rfl)) (pgs_cons (pg_name (i := 1) sc_law_together.nd rfl (by first | exact .inl rfl | exact .inr rfl)) pgs_nil))))) (fun _ _ _ _ _ => pts_nil) (fun _ _ _ _ _ => (pe_op op_mod (pe_op op_add (pv 3) (pv 1)) (pv 2)))) pa_nil)))), ?_⟩
    walk_at "st"
    intro D hD
    refine lc_map (walk_zipT (xs := ns.map V.int) (ys := ms.map V.int) rfl) (by rw [List.length_map]; omega) hD (fun i y _ => ∃ m, (List.zipWith (fun x y => (x + y) % b) ns ms)[i]? = some m ∧ y = .int m) (fun _ _ _ _ h _ => h) (fun _ _ _ _ _ h _ => h) (fun H' k => ⟨SqT.of (k _ _ ha), SqT.of (k _ _ ha2)⟩) (fun i H1 x H2 y => ?_)
      (fun i x H1 H2 Y No hi sm y hY => ?_) (fun ys H' el sm eD hys => ?_)
    · obtain ⟨t, x1, y1, rfl, nt, rfl, _⟩ := y
      exact Same.upd_new nt
    · obtain ⟨t, x1, y1, rfl, nt, rfl, e1, e2⟩ := y
      obtain ⟨m1, em1, rfl⟩ := getElem?_map_int e1
      obtain ⟨m2, em2, rfl⟩ := getElem?_map_int e2
      refine ⟨t, [.int m1, .int m2], rfl, .inl (.inl upd_same), rfl, _, _, rfl, _, _, rfl, rfl, rfl, ?_⟩
      walk_at "st"
      refine hY _ _ (Same.refl _) ⟨_, ?_, rfl⟩
      rw [List.getElem?_zipWith, em1, em2]
    · obtain rfl := list_ext_int (ms := List.zipWith (fun x y => (x + y) % b) ns ms) (by rw [el, List.length_zipWith, List.length_map, List.length_map]) hys
      walk_at "st"
      intro p hp
      exact q p _ (by walk_at "sm") (sm.free hp) upd_same
end
def rowO (ns : List Int) : O := .tup (ns.map .int)
def sp_law_rows (_ : PySem.W.Frag) : Sp := fun vs H Q _ => ∃ (s c : Addr) (w b m : Int), vs = [.ref s, .int w, .int b, .int m] ∧ St s c H ∧ (0 ≤ w ∧ w ≤ 400) ∧ (2 ≤ b ∧ b ≤ 997) ∧ (0 ≤ m ∧ m ≤ 400) ∧
  ∀ (p : Addr) (us : List V) (rows : List (List Int)) (H' : Hp), Kp [s, c] H H' → St s c H' → H p = none → H' p = some (.tup us) → RepAll [s, c] H' us (rows.map rowO) → ((rows.length : Int) = m ∧ ∀ r ∈ rows, (r.length : Int) = w ∧ ∀ n ∈ r, 0 ≤ n ∧ n < b) → Q (.ref p) H'
theorem Rep.rowInv {S : List Addr} {H : Hp} {v : V} {ns : List Int} (r : Rep S H v (rowO ns)) : ∃ a, v = .ref a ∧ H a = some (.tup (ns.map .int)) ∧ a ∉ S := by
  obtain ⟨a, xs, rfl, h, n, t⟩ := Rep.tupInv r
  rw [RepAll.ints_inv t] at h
  exact ⟨a, rfl, h, n⟩
theorem Rep.row {S : List Addr} {H : Hp} {a : Addr} {ns : List Int} (h : H a = some (.tup (ns.map .int))) (n : a ∉ S) : Rep S H (.ref a) (rowO ns) := .tup h n (RepAll.ints ns)
theorem RepAll.rowGet {S : List Addr} {H : Hp} {us : List V} {rows : List (List Int)} {v : V} (r : RepAll S H us (rows.map rowO)) (hv : v ∈ us) : ∃ ns, ns ∈ rows ∧ ∃ a, v = .ref a ∧ H a = some (.tup (ns.map .int)) ∧ a ∉ S := by
  obtain ⟨i, e⟩ := List.getElem?_of_mem hv
  obtain ⟨o, eo, ro⟩ := r.get e
  rw [List.getElem?_map] at eo
  cases h : rows[i]? with
  | none => rw [h] at eo; cases eo
  | some ns =>
    rw [h] at eo; cases eo
    exact ⟨ns, List.mem_of_getElem? h, ro.rowInv⟩
theorem nin3 {l a : Addr} {S : List Addr} (h1 : a ≠ l) (h2 : a ∉ S) : a ∉ l :: S := fun z => (List.mem_cons.mp z).elim h1 h2
theorem row_times {r : List Int} {n b w : Int} (hb : 2 ≤ b) (h : (r.length : Int) = w ∧ ∀ n ∈ r, 0 ≤ n ∧ n < b) : ((r.map fun x => x * n % b).length : Int) = w ∧ ∀ n ∈ (r.map fun x => x * n % b), 0 ≤ n ∧ n < b := by
  refine ⟨by rw [List.length_map]; exact h.1, fun m hm => ?_⟩
  obtain ⟨x, _, e⟩ := List.mem_map.mp hm
  rw [← e]
  exact ⟨Int.emod_nonneg _ (by omega), Int.emod_lt_of_pos _ (by omega)⟩
theorem row_together {r q : List Int} {b w : Int} (hb : 2 ≤ b) (h : (r.length : Int) = w) (h2 : (q.length : Int) = w) : ((List.zipWith (fun x y => (x + y) % b) r q).length : Int) = w ∧ ∀ n ∈ (List.zipWith (fun x y => (x + y) % b) r q), 0 ≤ n ∧ n < b := by
  refine ⟨by rw [List.length_zipWith]; omega, fun m hm => ?_⟩
  obtain ⟨i, e⟩ := List.getElem?_of_mem hm
  rw [List.getElem?_zipWith] at e
  split at e
  · cases e
    exact ⟨Int.emod_nonneg _ (by omega), Int.emod_lt_of_pos _ (by omega)⟩
  · cases e
section
variable {P : Program} {w : World} {K : PySem.W.Frag} {mg : Str → Option Value} {base : Heap}
theorem ok_law_rows (T : Tx K mg) {f_law_row : Addr} {fd_law_row : FuncData} (C_law_row : Cal P w K mg base "_law_row" 2 ["state", "wideness", "base"] (sp_law_row K) s_law_row f_law_row fd_law_row) {f_law_draw : Addr} {fd_law_draw : FuncData} (C_law_draw : Cal P w K mg base "_law_draw" 1 ["state", "many"] (sp_law_draw K) s_law_draw f_law_draw fd_law_draw) {f_law_times : Addr} {fd_law_times : FuncData} (C_law_times : Cal P w K mg base "_law_times" 1 ["line", "n", "base"] (sp_law_times K) s_law_times f_law_times fd_law_times) {f_law_together : Addr} {fd_law_together : FuncData} (C_law_together : Cal P w K mg base "_law_together" 1 ["line", "two", "base"] (sp_law_together K) s_law_together f_law_together fd_law_together) {f : Addr} {fd : FuncData} (F : Here K mg "_law_rows" s_law_rows ["state", "wideness", "base", "many"] f fd) : Cal P w K mg base "_law_rows" 3 ["state", "wideness", "base", "many"] (sp_law_rows K) s_law_rows f fd := by
  refine F.cal sc_law_rows (fun vs H Q E h => ?_) (fun cdv A outer s H vs Q E hr h => ?_)
  · obtain ⟨s, c, w, b, m, rfl, _⟩ := h
    rfl
  · obtain ⟨s, c, w, b, m, rfl, hst, hw, hb, hm, q⟩ := h
    refine ⟨_, (pss_cons (ps_set (i := 4) sc_law_rows.nd rfl (by first | exact .inl rfl | exact .inr rfl) (pe_lst pa_nil))
      (pss_cons (ps_for PassesOwn.never rfl (pi_range1 (by rfl) T.m_range (pa_cons (pv 3) pa_nil)) (pg_name (i := 5) sc_law_rows.nd rfl (by first | exact .inl rfl | exact .inr rfl)) (pss_cons (ps_set (i := 6) sc_law_rows.nd rfl (by first | exact .inl rfl | exact .inr rfl) (pe_call C_law_row.ok (hr.mono (by decide)) (by rfl) C_law_row.at_ C_law_row.kp C_law_row.b .nil pass0 (pa_cons (pv 0) (pa_cons (pv 1) (pa_cons (pv 2) pa_nil)))))
      (pss_cons (ps_set (i := 7) sc_law_rows.nd rfl (by first | exact .inl rfl | exact .inr rfl) (pe_call C_law_draw.ok (hr.mono (by decide)) (by rfl) C_law_draw.at_ C_law_draw.kp C_law_draw.b .nil pass0 (pa_cons (pv 0) (pa_cons pe_int pa_nil))))
      (pss_cons (ps_if (PW.pt (pw_and (pt_cmpR (op_neNilK (K := K) (hu_of64 hr)) (pv 4) (pe_lst pa_nil) (nomark _)) (pw_and1 (pt_cmpR op_lt (pv 7) pe_int (nomark _))))) (pss_cons (ps_set (i := 6) sc_law_rows.nd rfl (by first | exact .inl rfl | exact .inr rfl) (pe_call C_law_times.ok (hr.mono (by decide)) (by rfl) C_law_times.at_ C_law_times.kp C_law_times.b .nil pass0 (pa_cons (pe_ix (ix_listK (K := K)) (pv 4) (pe_call C_law_draw.ok (hr.mono (by decide)) (by rfl) C_law_draw.at_ C_law_draw.kp C_law_draw.b .nil pass0 (pa_cons (pv 0) (pa_cons (pe_callB (cr_lenK (K := K)) (by rfl) T.m_len (by decide +kernel) (pa_cons (pv 4) pa_nil)) pa_nil))) (fun _ _ => rfl)) (pa_cons (pe_call C_law_draw.ok (hr.mono (by decide)) (by rfl) C_law_draw.at_ C_law_draw.kp C_law_draw.b .nil pass0 (pa_cons (pv 0) (pa_cons (pv 2) pa_nil))) (pa_cons (pv 2) pa_nil)))))
      (pss_one (ps_set (i := 6) sc_law_rows.nd rfl (by first | exact .inl rfl | exact .inr rfl) (pe_call C_law_together.ok (hr.mono (by decide)) (by rfl) C_law_together.at_ C_law_together.kp C_law_together.b .nil pass0 (pa_cons (pv 6) (pa_cons (pe_ix (ix_listK (K := K)) (pv 4) (pe_call C_law_draw.ok (hr.mono (by decide)) (by rfl) C_law_draw.at_ C_law_draw.kp C_law_draw.b .nil pass0 (pa_cons (pv 0) (pa_cons (pe_callB (cr_lenK (K := K)) (by rfl) T.m_len (by decide +kernel) (pa_cons (pv 4) pa_nil)) pa_nil))) (fun _ _ => rfl)) (pa_cons (pv 2) pa_nil))))))) pss_nil)
      (pss_cons (ps_if (PW.pt (pw_and (pt_cmpR op_eq (pv 7) pe_int (nomark _)) (pw_and1 (pt_cmpR (op_neNilK (K := K) (hu_of64 hr)) (pv 4) (pe_lst pa_nil) (nomark _))))) (pss_one (ps_set (i := 6) sc_law_rows.nd rfl (by first | exact .inl rfl | exact .inr rfl) (pe_ix (ix_listK (K := K)) (pv 4) (pe_call C_law_draw.ok (hr.mono (by decide)) (by rfl) C_law_draw.at_ C_law_draw.kp C_law_draw.b .nil pass0 (pa_cons (pv 0) (pa_cons (pe_callB (cr_lenK (K := K)) (by rfl) T.m_len (by decide +kernel) (pa_cons (pv 4) pa_nil)) pa_nil))) (fun _ _ => rfl)))) pss_nil)
      (pss_one (ps_expr (castBM (K := K) (pe_bm PySem.F.plainAttrs_list PySem.F.slot_list_append PySem.F.type_list_append mt_append (pv 4) (pa_cons (pv 6) pa_nil))))))))))
      (pss_one (ps_ret (pe_callTy (cr_tupOfK (K := K)) (by rfl) T.m_tuple (by decide +kernel) (pa_cons (pv 4) pa_nil)))))), ?_⟩
    walk_at "st"
    intro l hl
    have ol := hst.out hl
    walk_at "st"
    refine lp_by (walk_range (lo := 0) (n := m.toNat)) (fun i σ' H' => ∃ x5 x6 x7, σ' = [some (.ref s), some (.int w), some (.int b), some (.int m), some (.ref l), x5, x6, x7] ∧ Kp [s, c] H H' ∧ St s c H' ∧
      ∃ (us : List V) (rows : List (List Int)), H' l = some (.lst us) ∧ RepAll [l, s, c] H' us (rows.map rowO) ∧ rows.length = i ∧ ∀ r ∈ rows, (r.length : Int) = w ∧ ∀ n ∈ r, 0 ≤ n ∧ n < b) ⟨none, none, none, rfl, by walk_at "kp", by walk_at "stt", [], [], upd_same, .nil, rfl, by simp⟩ (fun _ _ _ _ _ => trivial) (fun i x σ' H2 H3 hi p y => ?_) (fun σ' H2 p => ?_)
    · obtain ⟨x5, x6, x7, rfl, k2, st2, us, rows, el, ru, en, hn⟩ := p
      obtain ⟨rfl, rfl⟩ := y
      have eu : us.length = rows.length := by rw [ru.length, List.length_map]
      walk_at "st"
      refine ⟨s, c, w, b, rfl, st2, by omega, by omega, fun pl ns H4 k4 st4 npl epl hns => ?_⟩
      have opl : pl ∉ [l, s, c] := nin3 (ne_of_none el npl).symm (st2.out npl)
      walk_at "st"
      refine ⟨s, c, 5, rfl, st4, by omega, fun way H5 k5 st5 hway => ?_⟩
      walk_at "st"
      have e5 : H5 l = some (.lst us) := by walk_at "hl"
      have r5 : RepAll [l, s, c] H5 us (rows.map rowO) := ru.to (by walk_at "lf")
      have opl2 : pl ∉ [s, c] := fun z => opl (List.mem_cons_of_mem _ z)
      have epl5 : H5 pl = some (.tup (ns.map .int)) := by walk_at "hl"
      have k05 : Kp [s, c] H H5 := by walk_at "kp"
      clear k2 k4 k5 st2 st4 ru el epl
      refine r_join (fun σ' H' => ∃ (pl : Addr) (ns : List Int), σ' = [some (.ref s), some (.int w), some (.int b), some (.int m), some (.ref l), some (V.int (0 + (i : Int))), some (.ref pl), some (.int way)] ∧ Kp [s, c] H H' ∧ St s c H' ∧ H' l = some (.lst us) ∧ RepAll [l, s, c] H' us (rows.map rowO) ∧ H' pl = some (.tup (ns.map .int)) ∧ pl ∉ [l, s, c] ∧ (ns.length : Int) = w ∧ ∀ n ∈ ns, 0 ≤ n ∧ n < b) (fun σ' H' g => ?_) (fun N hN => ?_)
      · obtain ⟨pl, ns, rfl, k2, st2, el, ru, epl, opl, hns⟩ := g
        have hus : us.length ≤ 400 := by omega
        have fin : ∀ (p2 : Addr) (ns2 : List Int) (H7 : Hp), H7 p2 = some (.tup (ns2.map .int)) → p2 ∉ [l, s, c] → ((ns2.length : Int) = w ∧ ∀ n ∈ ns2, 0 ≤ n ∧ n < b) → Kp [s, c] H H7 → St s c H7 → H7 l = some (.lst us) → RepAll [l, s, c] H7 us (rows.map rowO) →
            ∃ x5 x6 x7, [some (.ref s), some (.int w), some (.int b), some (.int m), some (.ref l), some (V.int (0 + (i : Int))), some (.ref p2), some (.int way)] = [some (.ref s), some (.int w), some (.int b), some (.int m), some (.ref l), x5, x6, x7] ∧ Kp [s, c] H (upd H7 l (.lst (us ++ [.ref p2]))) ∧ St s c (upd H7 l (.lst (us ++ [.ref p2]))) ∧
            ∃ (us' : List V) (rows' : List (List Int)), (upd H7 l (.lst (us ++ [.ref p2]))) l = some (.lst us') ∧ RepAll [l, s, c] (upd H7 l (.lst (us ++ [.ref p2]))) us' (rows'.map rowO) ∧ rows'.length = i + 1 ∧ ∀ r ∈ rows', (r.length : Int) = w ∧ ∀ n ∈ r, 0 ≤ n ∧ n < b := fun p2 ns2 H7 e2 o2 h2 k7 st7 el7 r7 => by
          have hl0 : H l = none := hl
          refine ⟨_, _, _, rfl, by walk_at "kp", by walk_at "stt", us ++ [.ref p2], rows ++ [ns2], upd_same, ?_, by simp [en], fun r hr => ?_⟩
          · rw [List.map_append]
            exact ((r7.append (.cons (Rep.row e2 o2) .nil))).to (by walk_at "lf")
          · rcases List.mem_append.mp hr with h | h
            · exact hn r h
            · rw [List.mem_singleton.mp h]; exact h2
        walk_at "st"
        refine r_join (fun σ' H' => ∃ (pl : Addr) (ns : List Int), σ' = [some (.ref s), some (.int w), some (.int b), some (.int m), some (.ref l), some (V.int (0 + (i : Int))), some (.ref pl), some (.int way)] ∧ Kp [s, c] H H' ∧ St s c H' ∧ H' l = some (.lst us) ∧ RepAll [l, s, c] H' us (rows.map rowO) ∧ H' pl = some (.tup (ns.map .int)) ∧ pl ∉ [l, s, c] ∧ (ns.length : Int) = w ∧ ∀ n ∈ ns, 0 ≤ n ∧ n < b) (fun σ' H' g => ?_) (fun N hN => ?_)
        · obtain ⟨p3, ns3, rfl, k3, st3, el3, ru3, epl3, opl3, hns3⟩ := g
          walk_at "st"
          exact fin p3 ns3 _ epl3 opl3 hns3 k3 st3 el3 ru3
        · walk_at "if"
          refine r_ite (fun h1 => ?_) (fun h1 => ?_)
          · walk_at "st"
            intro p hp
            walk_at "st"
            refine r_iteB (fun h2 => ?_) (fun h2 => ?_)
            · walk_at "st"
              have hlen : 0 < us.length := by
                cases us with
                | nil => cases h2
                | cons _ _ => simp
              refine ⟨s, c, _, rfl, by walk_at "stt", by omega, fun d H8 k8 st8 hd => ?_⟩
              obtain ⟨v, ev, hv⟩ := atI_in (xs := us) hd.1 hd.2
              have el8 : H8 l = some (.lst us) := by walk_at "hl"
              have r8 : RepAll [l, s, c] H8 us (rows.map rowO) := ru.to (by walk_at "lf")
              obtain ⟨ns8, m8, a8, rfl, e8, o8⟩ := r8.rowGet hv
              walk_at "st"
              exact hN _ _ ⟨a8, ns8, rfl, by walk_at "kp", st8, el8, r8, e8, o8, hn ns8 m8⟩
            · walk_at "st"
              exact hN _ _ ⟨pl, ns, rfl, by walk_at "kp", by walk_at "stt", by walk_at "hl", ru.to (by walk_at "lf"), by walk_at "hl", opl, hns⟩
          · walk_at "st"
            exact hN _ _ ⟨pl, ns, rfl, k2, st2, el, ru, epl, opl, hns⟩
      · walk_at "if"
        intro p hp
        walk_at "st"
        refine r_iteB (fun h2 => ?_) (fun h2 => ?_)
        · have hlen : 0 < us.length := by
            cases us with
            | nil => cases h2
            | cons _ _ => simp
          have hus : us.length ≤ 400 := by omega
          walk_at "st"
          refine r_ite (fun h3 => ?_) (fun h3 => ?_)
          · walk_at "st"
            refine ⟨s, c, _, rfl, by walk_at "stt", by omega, fun d H6 k6 st6 hd => ?_⟩
            obtain ⟨v, ev, hv⟩ := atI_in (xs := us) hd.1 hd.2
            have el6 : H6 l = some (.lst us) := by walk_at "hl"
            have r6 : RepAll [l, s, c] H6 us (rows.map rowO) := r5.to (by walk_at "lf")
            obtain ⟨ns6, m6, a6, rfl, e6, o6⟩ := r6.rowGet hv
            have o62 : a6 ∉ [s, c] := fun z => o6 (List.mem_cons_of_mem _ z)
            walk_at "st"
            refine ⟨s, c, b, rfl, st6, by omega, fun d2 H7 k7 st7 hd2 => ?_⟩
            have h6 := hn ns6 m6
            walk_at "st"
            refine ⟨a6, ns6, d2, b, rfl, by walk_at "hl", by omega, hb, h6.2, fun p7 H8 s8 n8 e8 => ?_⟩
            have t7 := row_times (n := d2) hb.1 h6
            walk_at "st"
            have el8 : H8 l = some (.lst us) := by walk_at "hl"
            have st8 := st7.same s8
            have o78 : p7 ∉ [s, c] := st7.out n8
            refine ⟨s, c, _, rfl, by walk_at "stt", by omega, fun d3 H9 k9 st9 hd3 => ?_⟩
            obtain ⟨v3, ev3, hv3⟩ := atI_in (xs := us) hd3.1 hd3.2
            have el9 : H9 l = some (.lst us) := by walk_at "hl"
            have r9 : RepAll [l, s, c] H9 us (rows.map rowO) := r6.to (by walk_at "lf")
            obtain ⟨ns9, m9, a9, rfl, e9, o9⟩ := r9.rowGet hv3
            walk_at "st"
            refine ⟨p7, a9, _, ns9, b, rfl, by walk_at "hl", e9, by rw [List.length_map]; omega, hb, fun p10 H10 s10 n10 e10 => ?_⟩
            walk_at "st"
            have st10 := st9.same s10
            exact hN _ _ ⟨p10, _, rfl, by walk_at "kp", st10, by walk_at "hl", r9.to (by walk_at "lf"), e10, nin3 (ne_of_none el9 n10).symm (st9.out n10), row_together hb.1 t7.1 (hn ns9 m9).1⟩
          · walk_at "st"
            exact hN _ _ ⟨pl, ns, rfl, by walk_at "kp", by walk_at "stt", by walk_at "hl", r5.to (by walk_at "lf"), by walk_at "hl", opl, hns⟩
        · walk_at "st"
          exact hN _ _ ⟨pl, ns, rfl, by walk_at "kp", by walk_at "stt", by walk_at "hl", r5.to (by walk_at "lf"), by walk_at "hl", opl, hns⟩
    · obtain ⟨x5, x6, x7, rfl, k2, st2, us, rows, el, ru, en, hn⟩ := p
      walk_at "st"
      intro p hp
      have r2 : RepAll [s, c] H2 us (rows.map rowO) := ru.to (Lft.sub (fun a ha => List.mem_cons_of_mem _ ha))
      exact q p us rows _ (by walk_at "kp") (by walk_at "stt") (k2.free hp (st2.out hp)) upd_same (r2.to (by walk_at "lf")) ⟨by omega, hn⟩
end
def wholeO : O → Bool
  | .int _ => true
  | _ => false
def numO (p : Int) : O → Bool
  | .int n => decide (0 ≤ n) && decide (n < p)
  | _ => false
def tupO (a b : Int) : O → Bool
  | .tup os => decide (a ≤ os.length) && decide ((os.length : Int) ≤ b)
  | _ => false
def lineO (w p : Int) : O → Bool
  | .tup os => decide ((os.length : Int) = w) && os.all (numO p)
  | _ => false
def rowsO (w p : Int) : O → Bool
  | .tup os => os.all (lineO w p)
  | _ => false
/-- how wide it is, where it is a tuple -/
def smallO (n : Nat) : O → Prop
  | .tup os => os.length ≤ n
  | _ => True
def smallRows (n m : Nat) : O → Prop
  | .tup os => os.length ≤ n ∧ ∀ o ∈ os, smallO m o
  | _ => True
def sp_is_whole (_ : PySem.W.Frag) : Sp := fun vs H Q _ => ∃ (S : List Addr) (v : V) (o : O), vs = [v] ∧ Rep S H v o ∧ Q (.bl (wholeO o)) H
def sp_is_number (_ : PySem.W.Frag) : Sp := fun vs H Q _ => ∃ (S : List Addr) (v : V) (o : O) (p : Int), vs = [v, .int p] ∧ Rep S H v o ∧ Q (.bl (numO p o)) H
def sp_is_tuple (_ : PySem.W.Frag) : Sp := fun vs H Q _ => ∃ (S : List Addr) (v : V) (o : O) (a b : Int), vs = [v, .int a, .int b] ∧ Rep S H v o ∧ Q (.bl (tupO a b o)) H
def sp_is_line (_ : PySem.W.Frag) : Sp := fun vs H Q _ => ∃ (S : List Addr) (v : V) (o : O) (a p : Int), vs = [v, .int a, .int p] ∧ Rep S H v o ∧ smallO 5000 o ∧ ∀ H', Same H H' → Q (.bl (lineO a p o)) H'
def sp_is_rows (_ : PySem.W.Frag) : Sp := fun vs H Q _ => ∃ (S : List Addr) (v : V) (o : O) (a p : Int), vs = [v, .int a, .int p] ∧ Rep S H v o ∧ smallRows 5000 5000 o ∧ ∀ H', Same H H' → Q (.bl (rowsO a p o)) H'
section
variable {P : Program} {w : World} {K : PySem.W.Frag} {mg : Str → Option Value} {base : Heap}
theorem ok_is_whole (T : Tx K mg)  {f : Addr} {fd : FuncData} (F : Here K mg "is_whole" s_is_whole ["thing"] f fd) : Cal P w K mg base "is_whole" 1 ["thing"] (sp_is_whole K) s_is_whole f fd := by
  refine F.cal sc_is_whole (fun vs H Q E h => ?_) (fun cdv A outer s H vs Q E hr h => ?_)
  · obtain ⟨S, v, o, rfl, _⟩ := h
    rfl
  · obtain ⟨S, v, o, rfl, r, q⟩ := h
    refine ⟨_, (pss_one (ps_ret (pe_and (pe_callB (cr_isiK (K := K)) (by rfl) T.m_isinstance (by decide +kernel) (pa_cons (pv 0) (pa_cons (pe_bltn (v := .ty "int") (by rfl) T.m_int (by decide +kernel) rfl) pa_nil))) (pe_one (pe_not (pe_callB (cr_isiK (K := K)) (by rfl) T.m_isinstance (by decide +kernel) (pa_cons (pv 0) (pa_cons (pe_bltn (v := .ty "bool") (by rfl) T.m_bool (by decide +kernel) rfl) pa_nil)))))))), ?_⟩
    cases r <;> (walk_at "st"; exact q)
theorem ok_is_number (T : Tx K mg) {f_is_whole : Addr} {fd_is_whole : FuncData} (C_is_whole : Cal P w K mg base "is_whole" 1 ["thing"] (sp_is_whole K) s_is_whole f_is_whole fd_is_whole) {f : Addr} {fd : FuncData} (F : Here K mg "is_number" s_is_number ["thing", "p"] f fd) : Cal P w K mg base "is_number" 2 ["thing", "p"] (sp_is_number K) s_is_number f fd := by
  refine F.cal sc_is_number (fun vs H Q E h => ?_) (fun cdv A outer s H vs Q E hr h => ?_)
  · obtain ⟨S, v, o, p, rfl, _⟩ := h
    rfl
  · obtain ⟨S, v, o, p, rfl, r, q⟩ := h
    refine ⟨_, (pss_one (ps_ret (pe_and (pe_call C_is_whole.ok (hr.mono (by decide)) (by rfl) C_is_whole.at_ C_is_whole.kp C_is_whole.b .nil pass0 (pa_cons (pv 0) pa_nil)) (pe_one (pe_chain op_le op_lt pe_int (pv 0) (pv 1)))))), ?_⟩
    walk_at "st"
    refine ⟨S, v, o, rfl, r, ?_⟩
    cases r with
    | int n =>
      walk_at "st"
      refine r_iteB (fun _ => ?_) (fun z => by cases z)
      walk_at "st"
      refine r_ite (fun h1 => ?_) (fun h1 => ?_)
      · walk_at "st"
        simpa [numO, h1] using q
      · simpa [numO, h1] using q
    | _ => (walk_at "st"; exact r_iteB (fun z => by cases z) (fun _ => q))
theorem ok_is_tuple (T : Tx K mg)  {f : Addr} {fd : FuncData} (F : Here K mg "is_tuple" s_is_tuple ["thing", "least", "most"] f fd) : Cal P w K mg base "is_tuple" 1 ["thing", "least", "most"] (sp_is_tuple K) s_is_tuple f fd := by
  refine F.cal sc_is_tuple (fun vs H Q E h => ?_) (fun cdv A outer s H vs Q E hr h => ?_)
  · obtain ⟨S, v, o, a, b, rfl, _⟩ := h
    rfl
  · obtain ⟨S, v, o, a, b, rfl, r, q⟩ := h
    refine ⟨_, (pss_one (ps_ret (pe_and (pe_callB (cr_isiK (K := K)) (by rfl) T.m_isinstance (by decide +kernel) (pa_cons (pv 0) (pa_cons (pe_bltn (v := .ty "tuple") (by rfl) T.m_tuple (by decide +kernel) rfl) pa_nil))) (pe_one (pe_chain op_le op_le (pv 1) (pe_callB (cr_lenK (K := K)) (by rfl) T.m_len (by decide +kernel) (pa_cons (pv 0) pa_nil)) (pv 2)))))), ?_⟩
    cases r with
    | tup h n t =>
      have e := t.length
      walk_at "st"
      rw [e]
      refine r_ite (fun h1 => ?_) (fun h1 => ?_)
      · walk_at "st"
        simpa [tupO, h1] using q
      · simpa [tupO, h1] using q
    | _ => (walk_at "st"; exact q)
theorem getD_of {os : List O} {i : Nat} {o : O} (h : os[i]? = some o) : os.getD i .non = o := by simp [List.getD, h]
theorem ok_is_line (T : Tx K mg) {f_is_tuple : Addr} {fd_is_tuple : FuncData} (C_is_tuple : Cal P w K mg base "is_tuple" 1 ["thing", "least", "most"] (sp_is_tuple K) s_is_tuple f_is_tuple fd_is_tuple) {f_is_number : Addr} {fd_is_number : FuncData} (C_is_number : Cal P w K mg base "is_number" 2 ["thing", "p"] (sp_is_number K) s_is_number f_is_number fd_is_number) {f : Addr} {fd : FuncData} (F : Here K mg "is_line" s_is_line ["thing", "width", "p"] f fd) : Cal P w K mg base "is_line" 3 ["thing", "width", "p"] (sp_is_line K) s_is_line f fd := by
  refine F.cal sc_is_line (fun vs H Q E h => ?_) (fun cdv A outer s H vs Q E hr h => ?_)
  · obtain ⟨S, v, o, a, p, rfl, _⟩ := h
    rfl
  · obtain ⟨S, v, o, a, p, rfl, r, sm0, q⟩ := h
    refine ⟨_, (pss_one (ps_ret (pe_and (pe_call C_is_tuple.ok (hr.mono (by decide)) (by rfl) C_is_tuple.at_ C_is_tuple.kp C_is_tuple.b .nil pass0 (pa_cons (pv 0) (pa_cons (pv 1) (pa_cons (pv 1) pa_nil)))) (pe_one (pe_callB (cr_allK (K := K) rfl) (by rfl) T.m_all (by decide +kernel) (pa_cons (pe_lc rfl sc_is_line.nd (pi_tupK (K := K) (pv 0)) (blkOk_by (own := [("n", 3)]) (N := ["thing", "width", "p", "n"]) (sc := (defScope s_is_line)) (by decide +kernel)) (fun _ _ _ _ _ => (pg_name (i := 3) sc_is_line.nd rfl (by first | exact .inl rfl | exact .inr rfl))) (fun _ _ _ _ _ => pts_nil) (fun _ _ _ _ _ => (pe_call C_is_number.ok (hr.mono (by decide)) (by rfl) C_is_number.at_ C_is_number.kp C_is_number.b .nil pass0 (pa_cons (pv 3) (pa_cons (pv 2) pa_nil))))) pa_nil)))))), ?_⟩
    walk_at "st"
    refine ⟨S, v, o, a, a, rfl, r, ?_⟩
    walk_at "st"
    cases r with
    | @tup ad xs os h n t =>
      refine r_iteB (fun h1 => ?_) (fun h1 => ?_)
      · walk_at "st"
        intro D hD
        have e := t.length
        have e1 : (os.length : Int) = a := by simp [tupO] at h1; omega
        have sm1 : os.length ≤ 5000 := sm0
        refine lc_map (walk_tup (xs := xs)) (by omega) hD (fun i y _ => y = .bl (numO p (os.getD i .non))) (fun _ _ _ _ h _ => h) (fun _ _ _ _ _ h _ => h) (fun H' k => SqT.of (k _ _ h)) (fun i H1 x H2 y => by rw [y.1]; exact Same.refl _)
          (fun i x H1 H2 Y No hi sm y hY => ?_) (fun ys H' el sm eD hys => ?_)
        · obtain ⟨rfl, ex⟩ := y
          obtain ⟨o', eo, ro⟩ := t.get ex
          refine ⟨rfl, ?_⟩
          walk_at "st"
          refine ⟨S, x, o', p, rfl, ro.to (Lft.same sm), ?_⟩
          exact hY _ _ (Same.refl _) (by rw [getD_of eo])
        · have eys : ys = ((List.range os.length).map fun i => numO p (os.getD i .non)).map V.bl := by
            apply List.ext_getElem?
            intro i
            cases e2 : ys[i]? with
            | none =>
              rw [List.getElem?_eq_none_iff] at e2
              rw [List.getElem?_eq_none_iff.mpr (by simp; omega)]
            | some y =>
              rw [hys i y e2]
              have : i < ys.length := (List.getElem?_eq_some_iff.mp e2).1
              simp [List.getElem?_range (show i < os.length by omega)]
          subst eys
          walk_at "st"
          have := q H' sm
          rw [List.all_map]
          have e3 := range_all (numO p) O.non os
          simp only [Function.comp_def, id]
          rw [e3]
          simpa [lineO, e1] using this
      · have h2 := q H (Same.refl _)
        have : lineO a p (.tup os) = false := by
          simp only [lineO, Bool.and_eq_false_iff, decide_eq_false_iff_not]
          left
          intro z
          simp [tupO] at h1
          omega
        rw [this] at h2
        exact h2
    | _ => exact r_iteB (fun z => by cases z) (fun _ => q H (Same.refl _))
end
local macro_rules | `(tactic| walk_at "st1") => `(tactic| first | with_reducible refine' r_nt ?_ | with_reducible refine' r_nf ?_)
def sp_law_is_row (_ : PySem.W.Frag) : Sp := fun vs H Q _ => ∃ (S : List Addr) (v : V) (o : O) (a p : Int), vs = [v, .int a, .int p] ∧ Rep S H v o ∧ smallO 5000 o ∧ ∀ H', Same H H' → Q (.bl (lineO a p o)) H'
section
variable {P : Program} {w : World} {K : PySem.W.Frag} {mg : Str → Option Value} {base : Heap}
theorem ok_is_rows (T : Tx K mg) {f_is_line : Addr} {fd_is_line : FuncData} (C_is_line : Cal P w K mg base "is_line" 3 ["thing", "width", "p"] (sp_is_line K) s_is_line f_is_line fd_is_line) {f : Addr} {fd : FuncData} (F : Here K mg "is_rows" s_is_rows ["thing", "width", "p"] f fd) : Cal P w K mg base "is_rows" 4 ["thing", "width", "p"] (sp_is_rows K) s_is_rows f fd := by
  refine F.cal sc_is_rows (fun vs H Q E h => ?_) (fun cdv A outer s H vs Q E hr h => ?_)
  · obtain ⟨S, v, o, a, p, rfl, _⟩ := h
    rfl
  · obtain ⟨S, v, o, a, p, rfl, r, sm0, q⟩ := h
    refine ⟨_, (pss_one (ps_ret (pe_and (pe_callB (cr_isiK (K := K)) (by rfl) T.m_isinstance (by decide +kernel) (pa_cons (pv 0) (pa_cons (pe_bltn (v := .ty "tuple") (by rfl) T.m_tuple (by decide +kernel) rfl) pa_nil))) (pe_one (pe_callB (cr_allK (K := K) rfl) (by rfl) T.m_all (by decide +kernel) (pa_cons (pe_lc rfl sc_is_rows.nd (pi_tupK (K := K) (pv 0)) (blkOk_by (own := [("row", 3)]) (N := ["thing", "width", "p", "row"]) (sc := (defScope s_is_rows)) (by decide +kernel)) (fun _ _ _ _ _ => (pg_name (i := 3) sc_is_rows.nd rfl (by first | exact .inl rfl | exact .inr rfl))) (fun _ _ _ _ _ => pts_nil) (fun _ _ _ _ _ => (pe_call C_is_line.ok (hr.mono (by decide)) (by rfl) C_is_line.at_ C_is_line.kp C_is_line.b .nil pass0 (pa_cons (pv 3) (pa_cons (pv 1) (pa_cons (pv 2) pa_nil)))))) pa_nil)))))), ?_⟩
    cases r with
    | @tup ad xs os h n t =>
      walk_at "st"
      intro D hD
      have e := t.length
      have sm1 : os.length ≤ 5000 := sm0.1
      refine lc_map (walk_tup (xs := xs)) (by omega) hD (fun i y _ => y = .bl (lineO a p (os.getD i .non))) (fun _ _ _ _ h _ => h) (fun _ _ _ _ _ h _ => h) (fun H' k => SqT.of (k _ _ h)) (fun i H1 x H2 y => by rw [y.1]; exact Same.refl _)
        (fun i x H1 H2 Y No hi sm y hY => ?_) (fun ys H' el sm eD hys => ?_)
      · obtain ⟨rfl, ex⟩ := y
        obtain ⟨o', eo, ro⟩ := t.get ex
        refine ⟨rfl, ?_⟩
        walk_at "st"
        refine ⟨S, x, o', a, p, rfl, ro.to (Lft.same sm), sm0.2 _ (List.mem_of_getElem? eo), fun H3 s3 => ?_⟩
        exact hY _ _ s3 (by rw [getD_of eo])
      · have eys : ys = ((List.range os.length).map fun i => lineO a p (os.getD i .non)).map V.bl := by
          apply List.ext_getElem?
          intro i
          cases e2 : ys[i]? with
          | none =>
            rw [List.getElem?_eq_none_iff] at e2
            rw [List.getElem?_eq_none_iff.mpr (by simp; omega)]
          | some y =>
            rw [hys i y e2]
            have : i < ys.length := (List.getElem?_eq_some_iff.mp e2).1
            simp [List.getElem?_range (show i < os.length by omega)]
        subst eys
        walk_at "st"
        have := q H' sm
        rw [List.all_map]
        have e3 := range_all (lineO a p) O.non os
        simp only [Function.comp_def, id]
        rw [e3]
        exact this
    | _ => (walk_at "st"; exact q H (Same.refl _))
theorem ok_law_is_row (T : Tx K mg)  {f : Addr} {fd : FuncData} (F : Here K mg "_law_is_row" s_law_is_row ["item", "wideness", "base"] f fd) : Cal P w K mg base "_law_is_row" 1 ["item", "wideness", "base"] (sp_law_is_row K) s_law_is_row f fd := by
  refine F.cal sc_law_is_row (fun vs H Q E h => ?_) (fun cdv A outer s H vs Q E hr h => ?_)
  · obtain ⟨S, v, o, a, p, rfl, _⟩ := h
    rfl
  · obtain ⟨S, v, o, a, p, rfl, r, sm0, q⟩ := h
    refine ⟨_, (pss_cons (ps_if (PW.pt (pw_or (pt_not (pt_val (pe_callB (cr_isiK (K := K)) (by rfl) T.m_isinstance (by decide +kernel) (pa_cons (pv 0) (pa_cons (pe_bltn (v := .ty "tuple") (by rfl) T.m_tuple (by decide +kernel) rfl) pa_nil))))) (pw_or1 (pt_cmpR op_ne (pe_callB (cr_lenK (K := K)) (by rfl) T.m_len (by decide +kernel) (pa_cons (pv 0) pa_nil)) (pv 1) (nomark _))))) (pss_one (ps_ret pe_bl)) pss_nil)
      (pss_cons (ps_setLc (i := 3) rfl sc_law_is_row.nd rfl rfl (sw_true rfl rfl rfl (by decide +kernel)) (pi_tupK (K := K) (pv 0)) (blkOk_by (own := [("number", 4)]) (N := ["item", "wideness", "base", "odd", "number"]) (sc := (defScope s_law_is_row)) (by decide +kernel)) (fun _ _ _ _ _ => (pg_name (i := 4) sc_law_is_row.nd rfl (by first | exact .inl rfl | exact .inr rfl))) (fun _ _ _ _ _ => (pts_one (PW.pt (pw_or (pt_not (pt_val (pe_callB (cr_isiK (K := K)) (by rfl) T.m_isinstance (by decide +kernel) (pa_cons (pv 4) (pa_cons (pe_bltn (v := .ty "int") (by rfl) T.m_int (by decide +kernel) rfl) pa_nil))))) (pw_or1 (pt_val (pe_callB (cr_isiK (K := K)) (by rfl) T.m_isinstance (by decide +kernel) (pa_cons (pv 4) (pa_cons (pe_bltn (v := .ty "bool") (by rfl) T.m_bool (by decide +kernel) rfl) pa_nil))))))))) (fun _ _ _ _ _ => (pv 4)))
      (pss_one (ps_ret (pe_and (pe_cmpR (op_eqNilK (K := K) (hu_of64 hr)) (pv 3) (pe_lst pa_nil) (nomark _)) (pe_one (pe_cmpR (op_eqNilK (K := K) (hu_of64 hr)) (pe_lc rfl sc_law_is_row.nd (pi_tupK (K := K) (pv 0)) (blkOk_by (own := [("number", 4)]) (N := ["item", "wideness", "base", "odd", "number"]) (sc := (defScope s_law_is_row)) (by decide +kernel)) (fun _ _ _ _ _ => (pg_name (i := 4) sc_law_is_row.nd rfl (by first | exact .inl rfl | exact .inr rfl))) (fun _ _ _ _ _ => (pts_one (pt_not (pt_chain op_le op_lt pe_int (pv 4) (pv 2))))) (fun _ _ _ _ _ => (pv 4))) (pe_lst pa_nil) (nomark _)))))))), ?_⟩
    cases r with
    | @tup ad xs os h n t =>
      have e := t.length
      have sm1 : os.length ≤ 5000 := sm0
      walk_at "st"
      walk_at "if"
      refine r_iteB (fun h1 => ?_) (fun h1 => ?_)
      · walk_at "st"
        have h2 := q H (Same.refl _)
        have : lineO a p (.tup os) = false := by
          simp only [lineO, Bool.and_eq_false_iff, decide_eq_false_iff_not]
          left
          intro z
          rw [e, z] at h1
          simp at h1
        rw [this] at h2
        exact h2
      · have e1 : (os.length : Int) = a := by
          rw [e] at h1
          simpa using h1
        walk_at "st"
        intro D hD
        refine lc_filt (walk_tup (xs := xs)) (by omega) hD (fun i => !wholeO (os.getD i .non)) (fun H' k => SqT.of (k _ _ h)) (fun i H1 x H2 y => by rw [y.1]; exact Same.refl _)
          (fun i x H1 H2 Y No hi sm y hY hN => ?_) (fun ys H' ee el sm eD => ?_)
        · obtain ⟨rfl, ex⟩ := y
          obtain ⟨o', eo, ro⟩ := t.get ex
          rw [getD_of eo] at hY hN
          refine ⟨rfl, ?_⟩
          have ro2 := ro.to (Lft.same (S := S) sm)
          cases ro2 with
          | int n => (walk_at "st"; exact hN rfl _ (Same.refl _))
          | _ => (walk_at "st"; exact hY rfl _ _ (Same.refl _))
        · walk_at "st"
          intro p0 hp0
          walk_at "st"
          have ee2 : ys.isEmpty = os.all wholeO := by
            rw [ee, e]
            have := range_all wholeO O.non os
            rw [← this]
            simp
          refine r_iteB (fun h3 => ?_) (fun h3 => ?_)
          · walk_at "st"
            intro D2 hD2
            have hall : ∀ o ∈ os, wholeO o = true := by
              have : os.all wholeO = true := by rw [← ee2]; exact h3
              exact List.all_eq_true.mp this
            have sm2 : Same H (upd H' p0 (.lst [])) := by walk_at "sm"
            refine lc_filt (walk_tup (xs := xs)) (by omega) hD2 (fun i => !numO p (os.getD i .non)) (fun H' k => SqT.of (k _ _ (sm2 _ _ h))) (fun i H1 x H2 y => by rw [y.1]; exact Same.refl _)
              (fun i x H1 H2 Y No hi sm4 y hY hN => ?_) (fun zs H5 ee5 el5 sm5 eD5 => ?_)
            · obtain ⟨rfl, ex⟩ := y
              obtain ⟨o', eo, ro⟩ := t.get ex
              rw [getD_of eo] at hY hN
              refine ⟨rfl, ?_⟩
              have hw := hall o' (List.mem_of_getElem? eo)
              cases ro with
              | int n =>
                walk_at "st"
                refine r_ite (fun h6 => ?_) (fun h6 => ?_)
                · walk_at "st"
                  by_cases h7 : n < p
                  · rw [decide_eq_true h7]
                    walk_at "st"
                    exact hN (by simp [numO, h6, h7]) _ (Same.refl _)
                  · rw [decide_eq_false h7]
                    walk_at "st"
                    exact hY (by simp [numO, h7]) _ _ (Same.refl _)
                · walk_at "st"
                  exact hY (by simp [numO, h6]) _ _ (Same.refl _)
              | _ => cases hw
            · walk_at "st"
              intro p1 hp1
              walk_at "st"
              have h8 := q (upd H5 p1 (.lst [])) (by walk_at "sm")
              have : zs.isEmpty = lineO a p (.tup os) := by
                rw [ee5, e]
                have := range_all (numO p) O.non os
                simp [lineO, e1, ← this]
              rw [← this] at h8
              exact h8
          · have h8 := q (upd H' p0 (.lst [])) (by walk_at "sm")
            have : lineO a p (.tup os) = false := by
              have h9 : os.all wholeO = false := by rw [← ee2]; exact h3
              rw [List.all_eq_false] at h9
              obtain ⟨o', m', h10⟩ := h9
              simp only [lineO, Bool.and_eq_false_iff]
              right
              rw [List.all_eq_false]
              refine ⟨o', m', fun z => h10 ?_⟩
              cases o' <;> first | rfl | cases z
            rw [this] at h8
            exact h8
    | _ => (walk_at "st"; walk_at "if"; exact q H (Same.refl _))
end
/-! ### tuples cut and put together -/
def rMax2 : List V → Hp → VK → Prop := fun xs H Q => ∃ i j, xs = [.int i, .int j] ∧ Q (.int (if j > i then j else i)) H
theorem cr_max2 {X : Cx} (hc : X.calm = true) : CallR X (.builtin "max") rMax2 := call_max2 hc
def rMin2 : List V → Hp → VK → Prop := fun xs H Q => ∃ i j, xs = [.int i, .int j] ∧ Q (.int (if j < i then j else i)) H
theorem cr_min2 {X : Cx} (hc : X.calm = true) : CallR X (.builtin "min") rMin2 := call_min2 hc
/-- a tuple's items at v, outside S -/
def Tp (S : List Addr) (H : Hp) (v : V) (xs : List V) : Prop := ∃ a, v = .ref a ∧ H a = some (.tup xs) ∧ a ∉ S
def Trk (S : List Addr) (H : Hp) : Prop := ∀ a ∈ S, H a ≠ none
theorem St.trk {s c : Addr} {H : Hp} (h : St s c H) : Trk [s, c] H := fun a ha => by
  rcases List.mem_cons.mp ha with e | ha
  · rw [e]; exact h.nil0.1
  · rw [List.mem_singleton.mp ha]; exact h.nil0.2
theorem Trk.out {S : List Addr} {H : Hp} (t : Trk S H) {p : Addr} (n : H p = none) : p ∉ S := fun z => t p z n
theorem Tp.to {S S' : List Addr} {H H' : Hp} {v : V} {xs : List V} (k : Lft S H S' H') (t : Tp S H v xs) : Tp S' H' v xs := by
  obtain ⟨a, rfl, h, n⟩ := t
  exact ⟨a, rfl, (k a _ h n).1, (k a _ h n).2⟩
theorem Tp.rep {S : List Addr} {H : Hp} {v : V} {xs : List V} {os : List O} (t : Tp S H v xs) (r : RepAll S H xs os) : Rep S H v (.tup os) := by
  obtain ⟨a, rfl, h, n⟩ := t
  exact .tup h n r
theorem Tp.new {S : List Addr} {H : Hp} {p : Addr} {xs : List V} (t : Trk S H) (n : H p = none) : Tp S (upd H p (.tup xs)) (.ref p) xs := ⟨p, rfl, upd_same, t.out n⟩
section
variable {K : PySem.W.Frag} {S : List Addr} {σ : L2.St} {H : Hp} {Q : VK}
theorem r_max2 {i j : Int} (h : Q (.int (if j > i then j else i)) H) : rMax2 [.int i, .int j] H Q := ⟨i, j, rfl, h⟩
theorem r_min2 {i j : Int} (h : Q (.int (if j < i then j else i)) H) : rMin2 [.int i, .int j] H Q := ⟨i, j, rfl, h⟩
theorem r_dnew (h : ∀ p, H p = none → Q (.ref p) (upd H p (.dK []))) : tDNewK σ H Q := h
theorem r_slA {v : V} {xs : List V} {lo hi : Option Int} (t : Tp S H v xs) (k : Trk S H) (q : ∀ v' H', Same H H' → Tp S H' v' (cutV xs lo hi) → Q v' H') : rSlA K v lo hi H Q := by
  obtain ⟨a, rfl, h, n⟩ := t
  refine ⟨a, xs, rfl, SqT.of h, fun z => ?_, fun _ p hp => q _ _ (Same.upd_new hp) (Tp.new k hp)⟩
  have e : cutV xs lo hi = xs := by
    unfold cutV
    rw [z.1, z.2, List.drop_zero, Nat.sub_zero, List.take_length]
  exact q _ _ (Same.refl _) ⟨a, rfl, by rw [e]; exact h, n⟩
theorem r_catA {v u : V} {xs ys : List V} (t : Tp S H v xs) (t2 : Tp S H u ys) (k : Trk S H) (z : xs.length + ys.length ≤ sizeLine) (q : ∀ v' H', Same H H' → Tp S H' v' (xs ++ ys) → Q v' H') : rCatA K v u H Q := by
  obtain ⟨a, rfl, h, n⟩ := t
  obtain ⟨b, rfl, h2, n2⟩ := t2
  refine ⟨a, b, xs, ys, rfl, rfl, SqT.of h, SqT.of h2, z, fun e => ?_, fun e e2 => ?_, fun _ _ p hp => q _ _ (Same.upd_new hp) (Tp.new k hp)⟩
  · exact q _ _ (Same.refl _) ⟨b, rfl, by rw [e]; exact h2, n2⟩
  · exact q _ _ (Same.refl _) ⟨a, rfl, by rw [e2, List.append_nil]; exact h, n⟩
theorem RepAll.cut {xs : List V} {os : List O} (r : RepAll S H xs os) (lo hi : Option Int) : ∃ qs, RepAll S H (cutV xs lo hi) qs ∧ (∀ o ∈ qs, o ∈ os) ∧ qs.length ≤ os.length := by
  unfold cutV
  refine ⟨_, (r.drop _).take _, fun o ho => List.mem_of_mem_drop (List.mem_of_mem_take ho), ?_⟩
  rw [List.length_take, List.length_drop]
  omega
end
local macro_rules | `(tactic| walk_at "st1") => `(tactic| first
  | with_reducible refine' r_nt ?_ | with_reducible refine' r_nf ?_
  | with_reducible refine r_max2 ?_
  | with_reducible refine r_min2 ?_
  | with_reducible refine r_un ?_
  | with_reducible refine r_u ?_
  | with_reducible refine r_dnew ?_)
def sp_law_spoilt (_ : PySem.W.Frag) : Sp := fun vs H Q _ => ∃ (s c : Addr) (v : V) (os : List O) (b : Int) (N M : Nat), vs = [.ref s, v, .int b] ∧ St s c H ∧ Rep [s, c] H v (.tup os) ∧ smallRows N M (.tup os) ∧ (N ≤ 2000 ∧ M ≤ 2000) ∧
  ∀ (v' : V) (os' : List O) (H' : Hp), Kp [s, c] H H' → St s c H' → Rep [s, c] H' v' (.tup os') → smallRows (2 * N + 1) (2 * M + 1) (.tup os') → Q v' H'
section
variable {P : Program} {w : World} {K : PySem.W.Frag} {mg : Str → Option Value} {base : Heap}
theorem ok_law_spoilt (T : Tx K mg) {f_law_draw : Addr} {fd_law_draw : FuncData} (C_law_draw : Cal P w K mg base "_law_draw" 1 ["state", "many"] (sp_law_draw K) s_law_draw f_law_draw fd_law_draw) {f : Addr} {fd : FuncData} (F : Here K mg "_law_spoilt" s_law_spoilt ["state", "lot", "base"] f fd) : Cal P w K mg base "_law_spoilt" 2 ["state", "lot", "base"] (sp_law_spoilt K) s_law_spoilt f fd := by
  refine F.cal sc_law_spoilt (fun vs H Q E h => ?_) (fun cdv A outer s H vs Q E hr h => ?_)
  · obtain ⟨s, c, v, os, b, N, M, rfl, _⟩ := h
    rfl
  · obtain ⟨s, c, v, os, b, N, M, rfl, hst, r, sm0, hNM, q⟩ := h
    refine ⟨_, (pss_cons (ps_set (i := 3) sc_law_spoilt.nd rfl (by first | exact .inl rfl | exact .inr rfl) (pe_call C_law_draw.ok (hr.mono (by decide)) (by rfl) C_law_draw.at_ C_law_draw.kp C_law_draw.b .nil pass0 (pa_cons (pv 0) (pa_cons pe_int pa_nil))))
      (pss_cons (ps_set (i := 4) sc_law_spoilt.nd rfl (by first | exact .inl rfl | exact .inr rfl) (pe_call C_law_draw.ok (hr.mono (by decide)) (by rfl) C_law_draw.at_ C_law_draw.kp C_law_draw.b .nil pass0 (pa_cons (pv 0) (pa_cons (pe_callB (cr_max2 rfl) (by rfl) T.m_max (by decide +kernel) (pa_cons pe_int (pa_cons (pe_callB (cr_lenK (K := K)) (by rfl) T.m_len (by decide +kernel) (pa_cons (pv 1) pa_nil)) pa_nil))) pa_nil))))
      (pss_cons (ps_if (PW.pt (pw_or (pt_cmpR op_eq (pv 3) pe_int (nomark _)) (pw_or (pt_cmpR (op_eqNilTK (K := K) (hu_of64 hr)) (pv 1) (pe_tup pa_nil) (nomark _)) (pw_or (pt_not (pt_val (pe_callB (cr_isiK (K := K)) (by rfl) T.m_isinstance (by decide +kernel) (pa_cons (pe_ix (ix_tupK (K := K)) (pv 1) (pv 4) (fun _ _ => rfl)) (pa_cons (pe_bltn (v := .ty "tuple") (by rfl) T.m_tuple (by decide +kernel) rfl) pa_nil))))) (pw_or1 (pt_cmpR (op_eqNilTK (K := K) (hu_of64 hr)) (pe_ix (ix_tupK (K := K)) (pv 1) (pv 4) (fun _ _ => rfl)) (pe_tup pa_nil) (nomark _))))))) (pss_cons (ps_set (i := 5) sc_law_spoilt.nd rfl (by first | exact .inl rfl | exact .inr rfl) (pe_ix (ix_listK (K := K)) (pe_lst (pa_cons pe_non (pa_cons pe_bl (pa_cons pe_int (pa_cons pe_str (pa_cons (pe_tup pa_nil) (pa_cons (pe_lst pa_nil) (pa_cons pe_dnewK pa_nil)))))))) (pe_call C_law_draw.ok (hr.mono (by decide)) (by rfl) C_law_draw.at_ C_law_draw.kp C_law_draw.b .nil pass0 (pa_cons (pv 0) (pa_cons pe_int pa_nil))) (fun _ _ => rfl)))
      (pss_one (ps_ret (pe_op (op_catAK (K := K)) (pe_op (op_catAK (K := K)) (pe_slice (sl_tupAK (K := K)) (pv 1) po_none (po_some (pv 4))) (pe_tup (pa_cons (pv 5) pa_nil))) (pe_slice (sl_tupAK (K := K)) (pv 1) (po_some (pe_op op_add (pv 4) (pe_call C_law_draw.ok (hr.mono (by decide)) (by rfl) C_law_draw.at_ C_law_draw.kp C_law_draw.b .nil pass0 (pa_cons (pv 0) (pa_cons pe_int pa_nil))))) po_none))))) pss_nil)
      (pss_cons (ps_set (i := 6) sc_law_spoilt.nd rfl (by first | exact .inl rfl | exact .inr rfl) (pe_ix (ix_tupK (K := K)) (pv 1) (pv 4) (fun _ _ => rfl)))
      (pss_cons (ps_set (i := 7) sc_law_spoilt.nd rfl (by first | exact .inl rfl | exact .inr rfl) (pe_call C_law_draw.ok (hr.mono (by decide)) (by rfl) C_law_draw.at_ C_law_draw.kp C_law_draw.b .nil pass0 (pa_cons (pv 0) (pa_cons (pe_callB (cr_lenK (K := K)) (by rfl) T.m_len (by decide +kernel) (pa_cons (pv 6) pa_nil)) pa_nil))))
      (pss_cons (ps_if (pt_cmpR op_eq (pv 3) pe_int (nomark _)) (pss_one (ps_set (i := 6) sc_law_spoilt.nd rfl (by first | exact .inl rfl | exact .inr rfl) (pe_op (op_catAK (K := K)) (pe_slice (sl_tupAK (K := K)) (pv 6) po_none (po_some (pv 7))) (pe_slice (sl_tupAK (K := K)) (pv 6) (po_some (pe_op op_add (pv 7) pe_int)) po_none)))) (pss_one (ps_if (pt_cmpR op_eq (pv 3) pe_int (nomark _)) (pss_one (ps_set (i := 6) sc_law_spoilt.nd rfl (by first | exact .inl rfl | exact .inr rfl) (pe_op (op_catAK (K := K)) (pv 6) (pe_slice (sl_tupAK (K := K)) (pv 6) (po_some (pv 7)) (po_some (pe_op op_add (pv 7) pe_int)))))) (pss_one (ps_if (pt_cmpR op_eq (pv 3) pe_int (nomark _)) (pss_one (ps_ret (pe_op (op_catAK (K := K)) (pe_op (op_catAK (K := K)) (pe_slice (sl_tupAK (K := K)) (pv 1) po_none (po_some (pv 4))) (pe_tup (pa_cons (pe_callTy (cr_listOfK (K := K)) (by rfl) T.m_list (by decide +kernel) (pa_cons (pv 6) pa_nil)) pa_nil))) (pe_slice (sl_tupAK (K := K)) (pv 1) (po_some (pe_op op_add (pv 4) pe_int)) po_none)))) (pss_cons (ps_set (i := 5) sc_law_spoilt.nd rfl (by first | exact .inl rfl | exact .inr rfl) (pe_ix (ix_listK (K := K)) (pe_lst (pa_cons (pv 2) (pa_cons (pe_un un_neg pe_int) (pa_cons (pe_op op_add (pv 2) pe_int) (pa_cons pe_bl (pa_cons pe_bl (pa_cons pe_non (pa_cons pe_str (pa_cons (pe_tup (pa_cons pe_int pa_nil)) (pa_cons (pe_lst (pa_cons pe_int pa_nil)) pa_nil)))))))))) (pe_call C_law_draw.ok (hr.mono (by decide)) (by rfl) C_law_draw.at_ C_law_draw.kp C_law_draw.b .nil pass0 (pa_cons (pv 0) (pa_cons pe_int pa_nil))) (fun _ _ => rfl)))
      (pss_one (ps_set (i := 6) sc_law_spoilt.nd rfl (by first | exact .inl rfl | exact .inr rfl) (pe_op (op_catAK (K := K)) (pe_op (op_catAK (K := K)) (pe_slice (sl_tupAK (K := K)) (pv 6) po_none (po_some (pv 7))) (pe_tup (pa_cons (pv 5) pa_nil))) (pe_slice (sl_tupAK (K := K)) (pv 6) (po_some (pe_op op_add (pv 7) pe_int)) po_none))))))))))
      (pss_one (ps_ret (pe_op (op_catAK (K := K)) (pe_op (op_catAK (K := K)) (pe_slice (sl_tupAK (K := K)) (pv 1) po_none (po_some (pv 4))) (pe_tup (pa_cons (pv 6) pa_nil))) (pe_slice (sl_tupAK (K := K)) (pv 1) (po_some (pe_op op_add (pv 4) pe_int)) po_none)))))))))), ?_⟩
    obtain ⟨a, xs, rfl, ha, na, t⟩ := r.tupInv
    have el := t.length
    have szl : (1000000 : Nat) ≤ sizeLine := by decide
    have hN : os.length ≤ N := sm0.1
    walk_at "st"
    refine ⟨s, c, 7, rfl, hst, by omega, fun way H1 k1 st1 hway => ?_⟩
    have ha1 : H1 a = some (.tup xs) := by walk_at "hl"
    walk_at "st"
    refine ⟨s, c, _, rfl, st1, by split <;> omega, fun at_ H2 k2 st2 hat => ?_⟩
    walk_at "st"
    have ha2 : H2 a = some (.tup xs) := by walk_at "hl"
    have k02 : Kp [s, c] H H2 := by walk_at "kp"
    -- the end: a piece, something, a piece
    have fin : ∀ (H3 : Hp) (v5 v7 : V) (x : V) (o : O) (lo hi : Option Int) (v8 : V) (xs5 xs8 : List V), Kp [s, c] H H3 → St s c H3 → Tp [s, c] H3 v7 (cutV xs none lo ++ [x] ++ cutV xs hi none) → Rep [s, c] H3 x o → smallO (2 * M + 1) o → Q v7 H3 := fun H3 v5 v7 x o lo hi v8 xs5 xs8 k3 st3 t7 ro so => by
      have tt : RepAll [s, c] H3 xs os := t.to (by walk_at "lf")
      obtain ⟨q1, r1, m1, l1⟩ := tt.cut none lo
      obtain ⟨q2, r2, m2, l2⟩ := tt.cut hi none
      refine q v7 (q1 ++ [o] ++ q2) H3 k3 st3 (t7.rep ((r1.append (.cons ro .nil)).append r2)) ⟨?_, fun o' ho' => ?_⟩
      · simp only [List.length_append, List.length_cons, List.length_nil]; omega
      · have big : ∀ o', o' ∈ os → smallO (2 * M + 1) o' := fun o' h => by
          have := sm0.2 o' h
          cases o' with
          | tup z => exact Nat.le_trans this (by omega)
          | _ => trivial
        simp only [List.mem_append, List.mem_cons, List.not_mem_nil, or_false] at ho'
        rcases ho' with (h | h) | h
        · exact big _ (m1 _ h)
        · rw [h]; exact so
        · exact big _ (m2 _ h)
    refine r_if ?_
    refine r_joinT (fun bb H' => Kp [s, c] H H' ∧ St s c H' ∧ (bb = false → ∃ b1 ys qs, atI xs at_ = some (.ref b1) ∧ H' b1 = some (.tup ys) ∧ b1 ∉ [s, c] ∧ ys ≠ [] ∧ RepAll [s, c] H' ys qs ∧ qs.length ≤ M)) (fun bb H3 g => ?_) (fun R' hR => ?_)
    · obtain ⟨k3, st3, g3⟩ := g
      have ha3 : H3 a = some (.tup xs) := by walk_at "hl"
      refine r_iteB (fun h1 => ?_) (fun h1 => ?_)
      · walk_at "st"
        intro p1 hp1
        walk_at "st"
        intro p2 hp2
        walk_at "st"
        intro p3 hp3
        walk_at "st"
        intro p4 hp4
        have sta : St s c (upd H3 p1 (.tup [])) := st3.new hp1
        have stb : St s c (upd (upd H3 p1 (.tup [])) p2 (.lst [])) := sta.new hp2
        have stc : St s c (upd (upd (upd H3 p1 (.tup [])) p2 (.lst [])) p3 (.dK [])) := stb.new hp3
        have o1 := st3.out hp1
        have o2 := sta.out hp2
        have o3 := stb.out hp3
        have o4 := stc.out hp4
        walk_at "st"
        refine ⟨s, c, 7, rfl, by walk_at "stt", by omega, fun d H4 k4 st4 hd => ?_⟩
        obtain ⟨x, ex, hx⟩ := atI_in (xs := [V.non, V.bl true, V.int 5, V.str "", V.ref p1, V.ref p2, V.ref p3]) hd.1 (by simpa using hd.2)
        walk_at "st"
        have e1 : H4 p1 = some (.tup []) := by walk_at "hl"
        have e2 : H4 p2 = some (.lst []) := by walk_at "hl"
        have e3 : H4 p3 = some (.dK []) := by walk_at "hl"
        have k04 : Kp [s, c] H H4 := by walk_at "kp"
        obtain ⟨o, ro, so⟩ : ∃ o, Rep [s, c] H4 x o ∧ smallO (2 * M + 1) o := by
          simp at hx
          rcases hx with h | h | h | h | h | h | h <;> subst h
          · exact ⟨_, .non, trivial⟩
          · exact ⟨_, .bl _, trivial⟩
          · exact ⟨_, .int _, trivial⟩
          · exact ⟨_, .str _, trivial⟩
          · exact ⟨_, .tup e1 o1 .nil, Nat.zero_le _⟩
          · exact ⟨_, .lst e2 o2 .nil, trivial⟩
          · exact ⟨_, .dct e3 o3, trivial⟩
        refine r_slA (S := [s, c]) ⟨a, rfl, by walk_at "hl", na⟩ st4.trk (fun v5 H5 s5 t5 => ?_)
        have st5 := st4.same s5
        walk_at "st"
        intro p6 hp6
        have st6 : St s c (upd H5 p6 (.tup [x])) := st5.new hp6
        have c1 := cutV_length xs none (some at_)
        refine r_catA (t5.to (by walk_at "lf")) (Tp.new st5.trk hp6) st6.trk (by simp only [List.length_cons, List.length_nil]; omega) (fun v7 H7 s7 t7 => ?_)
        have st7 := st6.same s7
        walk_at "st"
        refine ⟨s, c, 2, rfl, st7, by omega, fun d2 H8 k8 st8 hd2 => ?_⟩
        walk_at "st"
        refine r_slA (S := [s, c]) ⟨a, rfl, by walk_at "hl", na⟩ st8.trk (fun v9 H9 s9 t9 => ?_)
        have st9 := st8.same s9
        have c2 := cutV_length xs (some (at_ + d2)) none
        refine r_catA (t7.to (by walk_at "lf")) t9 st9.trk (by simp only [List.length_append, List.length_cons, List.length_nil]; omega) (fun v10 H10 s10 t10 => ?_)
        exact fin H10 v5 v10 x o (some at_) (some (at_ + d2)) v9 [] [] (by walk_at "kp") (st9.same s10) t10 (ro.to (by walk_at "lf")) so
      · obtain ⟨b1, ys, qs, eat, eb1, ob1, hys, rq, hq⟩ := g3 h1
        have eq := rq.length
        have ly : 0 < ys.length := by
          cases ys with
          | nil => exact absurd rfl hys
          | cons _ _ => simp
        have c1 := cutV_length xs none (some at_)
        have c2 := cutV_length xs (some (at_ + 1)) none
        have small2 : ∀ o ∈ qs, True := fun _ _ => trivial
        walk_at "st"
        refine ⟨s, c, _, rfl, st3, by omega, fun spot H4 k4 st4 hsp => ?_⟩
        walk_at "st"
        have ha4 : H4 a = some (.tup xs) := by walk_at "hl"
        have eb4 : H4 b1 = some (.tup ys) := by walk_at "hl"
        have rq4 : RepAll [s, c] H4 ys qs := rq.to (by walk_at "lf")
        have k04 : Kp [s, c] H H4 := by walk_at "kp"
        refine r_join (fun σ' H' => ∃ x5 vl o, σ' = [some (.ref s), some (.ref a), some (.int b), some (.int way), some (.int at_), x5, some vl, some (.int spot)] ∧ Kp [s, c] H H' ∧ St s c H' ∧ H' a = some (.tup xs) ∧ Rep [s, c] H' vl o ∧ smallO (2 * M + 1) o) (fun σ' H5 g => ?_) (fun N' hN' => ?_)
        · obtain ⟨x5, vl, o, rfl, k5, st5, ha5, ro, so⟩ := g
          walk_at "st"
          refine r_slA (S := [s, c]) ⟨a, rfl, ha5, na⟩ st5.trk (fun v6 H6 s6 t6 => ?_)
          have st6 := st5.same s6
          walk_at "st"
          intro p7 hp7
          have st7 : St s c (upd H6 p7 (.tup [vl])) := st6.new hp7
          refine r_catA (t6.to (by walk_at "lf")) (Tp.new st6.trk hp7) st7.trk (by simp only [List.length_cons, List.length_nil]; omega) (fun v8 H8 s8 t8 => ?_)
          have st8 := st7.same s8
          walk_at "st"
          refine r_slA (S := [s, c]) ⟨a, rfl, by walk_at "hl", na⟩ st8.trk (fun v9 H9 s9 t9 => ?_)
          have st9 := st8.same s9
          refine r_catA (t8.to (by walk_at "lf")) t9 st9.trk (by simp only [List.length_append, List.length_cons, List.length_nil]; omega) (fun v10 H10 s10 t10 => ?_)
          exact fin H10 v6 v10 vl o (some at_) (some (at_ + 1)) v9 [] [] (by walk_at "kp") (st9.same s10) t10 (ro.to (by walk_at "lf")) so
        · walk_at "if"
          refine r_ite (fun h2 => ?_) (fun h2 => ?_)
          · walk_at "st"
            refine r_slA (S := [s, c]) ⟨b1, rfl, eb4, ob1⟩ st4.trk (fun v6 H6 s6 t6 => ?_)
            have st6 := st4.same s6
            walk_at "st"
            refine r_slA (S := [s, c]) ⟨b1, rfl, by walk_at "hl", ob1⟩ st6.trk (fun v7 H7 s7 t7 => ?_)
            have st7 := st6.same s7
            have c3 := cutV_length ys none (some spot)
            have c4 := cutV_length ys (some (spot + 1)) none
            refine r_catA (t6.to (by walk_at "lf")) t7 st7.trk (by omega) (fun v8 H8 s8 t8 => ?_)
            walk_at "st"
            have st8 := st7.same s8
            have rq8 : RepAll [s, c] H8 ys qs := rq4.to (by walk_at "lf")
            obtain ⟨q1, r1, m1, l1⟩ := rq8.cut none (some spot)
            obtain ⟨q2, r2, m2, l2⟩ := rq8.cut (some (spot + 1)) none
            exact hN' _ _ ⟨_, v8, _, rfl, by walk_at "kp", st8, by walk_at "hl", t8.rep (r1.append r2), by show (q1 ++ q2).length ≤ _; rw [List.length_append]; omega⟩
          · walk_at "st"
            walk_at "if"
            refine r_ite (fun h3 => ?_) (fun h3 => ?_)
            · walk_at "st"
              refine r_slA (S := [s, c]) ⟨b1, rfl, eb4, ob1⟩ st4.trk (fun v6 H6 s6 t6 => ?_)
              have st6 := st4.same s6
              have c3 := cutV_length ys (some spot) (some (spot + 1))
              refine r_catA (S := [s, c]) ⟨b1, rfl, by walk_at "hl", ob1⟩ t6 st6.trk (by omega) (fun v8 H8 s8 t8 => ?_)
              walk_at "st"
              have st8 := st6.same s8
              have rq8 : RepAll [s, c] H8 ys qs := rq4.to (by walk_at "lf")
              obtain ⟨q1, r1, m1, l1⟩ := rq8.cut (some spot) (some (spot + 1))
              exact hN' _ _ ⟨_, v8, _, rfl, by walk_at "kp", st8, by walk_at "hl", t8.rep (rq8.append r1), by show (qs ++ q1).length ≤ _; rw [List.length_append]; omega⟩
            · walk_at "st"
              walk_at "if"
              refine r_ite (fun h5 => ?_) (fun h5 => ?_)
              · walk_at "st"
                refine r_slA (S := [s, c]) ⟨a, rfl, ha4, na⟩ st4.trk (fun v6 H6 s6 t6 => ?_)
                have st6 := st4.same s6
                have eb6 : H6 b1 = some (.tup ys) := by walk_at "hl"
                walk_at "st"
                intro p7 hp7
                have o7 := st6.out hp7
                have st7 : St s c (upd H6 p7 (.lst ys)) := st6.new hp7
                walk_at "st"
                intro p8 hp8
                have st8 : St s c (upd (upd H6 p7 (.lst ys)) p8 (.tup [.ref p7])) := st7.new hp8
                refine r_catA (t6.to (by walk_at "lf")) (Tp.new st7.trk hp8) st8.trk (by simp only [List.length_cons, List.length_nil]; omega) (fun v9 H9 s9 t9 => ?_)
                have st9 := st8.same s9
                walk_at "st"
                refine r_slA (S := [s, c]) ⟨a, rfl, by walk_at "hl", na⟩ st9.trk (fun v10 H10 s10 t10 => ?_)
                have st10 := st9.same s10
                refine r_catA (t9.to (by walk_at "lf")) t10 st10.trk (by simp only [List.length_append, List.length_cons, List.length_nil]; omega) (fun v11 H11 s11 t11 => ?_)
                have e7 : H11 p7 = some (.lst ys) := by walk_at "hl"
                exact fin H11 v6 v11 (.ref p7) (.lst qs) (some at_) (some (at_ + 1)) v10 [] [] (by walk_at "kp") (st10.same s11) t11 (.lst e7 o7 (rq4.to (by walk_at "lf"))) trivial
              · walk_at "st"
                intro p1 hp1
                walk_at "st"
                intro p2 hp2
                walk_at "st"
                intro p3 hp3
                have o1 := st4.out hp1
                have sta : St s c (upd H4 p1 (.tup [.int 1])) := st4.new hp1
                have o2 := sta.out hp2
                have stb : St s c (upd (upd H4 p1 (.tup [.int 1])) p2 (.lst [.int 0])) := sta.new hp2
                have o3 := stb.out hp3
                walk_at "st"
                refine ⟨s, c, 9, rfl, by walk_at "stt", by omega, fun d H5 k5 st5 hd => ?_⟩
                obtain ⟨x, ex, hx⟩ := atI_in (xs := [V.int b, V.int (-1), V.int (b + 1), V.bl true, V.bl false, V.non, V.str "1", V.ref p1, V.ref p2]) hd.1 (by simpa using hd.2)
                walk_at "st"
                have e1 : H5 p1 = some (.tup [.int 1]) := by walk_at "hl"
                have e2 : H5 p2 = some (.lst [.int 0]) := by walk_at "hl"
                have rq5 : RepAll [s, c] H5 ys qs := rq4.to (by walk_at "lf")
                have eb5 : H5 b1 = some (.tup ys) := by walk_at "hl"
                have ha5 : H5 a = some (.tup xs) := by walk_at "hl"
                have k05 : Kp [s, c] H H5 := by walk_at "kp"
                obtain ⟨o, ro, so⟩ : ∃ o, Rep [s, c] H5 x o ∧ smallO (2 * M + 1) o := by
                  simp at hx
                  rcases hx with h | h | h | h | h | h | h | h | h <;> subst h
                  · exact ⟨_, .int _, trivial⟩
                  · exact ⟨_, .int _, trivial⟩
                  · exact ⟨_, .int _, trivial⟩
                  · exact ⟨_, .bl _, trivial⟩
                  · exact ⟨_, .bl _, trivial⟩
                  · exact ⟨_, .non, trivial⟩
                  · exact ⟨_, .str _, trivial⟩
                  · exact ⟨_, .tup e1 o1 (.cons (.int 1) .nil), by show 1 ≤ _; omega⟩
                  · exact ⟨_, .lst e2 o2 (.cons (.int 0) .nil), trivial⟩
                refine r_slA (S := [s, c]) ⟨b1, rfl, by walk_at "hl", ob1⟩ st5.trk (fun v6 H6 s6 t6 => ?_)
                have st6 := st5.same s6
                walk_at "st"
                intro p7 hp7
                have st7 : St s c (upd H6 p7 (.tup [x])) := st6.new hp7
                have c3 := cutV_length ys none (some spot)
                have c4 := cutV_length ys (some (spot + 1)) none
                refine r_catA (t6.to (by walk_at "lf")) (Tp.new st6.trk hp7) st7.trk (by simp only [List.length_cons, List.length_nil]; omega) (fun v8 H8 s8 t8 => ?_)
                have st8 := st7.same s8
                walk_at "st"
                refine r_slA (S := [s, c]) ⟨b1, rfl, by walk_at "hl", ob1⟩ st8.trk (fun v9 H9 s9 t9 => ?_)
                have st9 := st8.same s9
                refine r_catA (t8.to (by walk_at "lf")) t9 st9.trk (by simp only [List.length_append, List.length_cons, List.length_nil]; omega) (fun v10 H10 s10 t10 => ?_)
                walk_at "st"
                have st10 := st9.same s10
                have rq10 : RepAll [s, c] H10 ys qs := rq5.to (by walk_at "lf")
                obtain ⟨q1, r1, m1, l1⟩ := rq10.cut none (some spot)
                obtain ⟨q2, r2, m2, l2⟩ := rq10.cut (some (spot + 1)) none
                exact hN' _ _ ⟨_, v10, _, rfl, by walk_at "kp", st10, by walk_at "hl", t10.rep ((r1.append (.cons (ro.to (by walk_at "lf")) .nil)).append r2), by show (q1 ++ [o] ++ q2).length ≤ _; simp only [List.length_append, List.length_cons, List.length_nil]; omega⟩
    · walk_at "st"
      refine r_ite (fun h1 => hR _ _ ⟨k02, st2, fun z => by cases z⟩) (fun h1 => ?_)
      walk_at "st"
      intro p hp
      walk_at "st"
      refine r_iteB (fun h2 => hR _ _ ⟨by walk_at "kp", by walk_at "stt", fun z => by cases z⟩) (fun h2 => ?_)
      have lx : 0 < xs.length := by
        cases xs with
        | nil => cases h2
        | cons _ _ => simp
      obtain ⟨v1, ev1, hv1⟩ := atI_in (xs := xs) hat.1 (by have := hat.2; split at this <;> omega)
      obtain ⟨i1, ei1⟩ := List.getElem?_of_mem hv1
      obtain ⟨o1, eo1, ro1⟩ := t.get ei1
      have so1 := sm0.2 o1 (List.mem_of_getElem? eo1)
      have k5 : Kp [s, c] H (upd H2 p (.tup [])) := by walk_at "kp"
      have st5 : St s c (upd H2 p (.tup [])) := by walk_at "stt"
      have ro5 : Rep [s, c] (upd H2 p (.tup [])) v1 o1 := ro1.to (by walk_at "lf")
      walk_at "st"
      cases ro5 with
      | @tup b1 ys qs h n rq =>
        walk_at "st"
        intro p2 hp2
        walk_at "st"
        refine hR _ _ ⟨by walk_at "kp", by walk_at "stt", fun z => ⟨b1, ys, qs, ev1, by walk_at "hl", n, fun z2 => (by rw [z2] at z; cases z), rq.to (by walk_at "lf"), so1⟩⟩
      | _ => (walk_at "st"; exact hR _ _ ⟨k5, st5, fun z => by cases z⟩)
end
section
variable {K : PySem.W.Frag} {D : Ends} {σ : L2.St} {H : Hp} {Q : VK}
theorem r_par {i j : Nat} {ta : TA} (h : ta σ H fun vs H1 => ∃ v w, vs = [v, w] ∧ D.nx ((σ.set i (some v)).set j (some w)) H1) : tPar i j ta D σ H := h
theorem r_parx {v w : V} {R : V → V → Prop} (h : R v w) : ∃ v' w', [v, w] = [v', w'] ∧ R v' w' := ⟨v, w, rfl, h⟩
theorem r_gtup {n : Nat} {t : TGs} {a : Addr} {xs : List V} {N : L2.St → Hp → Prop} (h : SqT K H a xs) (e : xs.length = n) (q : t xs σ H N) : gTup K n t (.ref a) σ H N := ⟨a, xs, rfl, h, e, q⟩
theorem r_gcons {t : TG} {u : TGs} {v : V} {r : List V} {N : L2.St → Hp → Prop} (q : t v σ H fun σ' H' => u r σ' H' N) : gCons t u (v :: r) σ H N := ⟨v, r, rfl, q⟩
theorem r_gnil {N : L2.St → Hp → Prop} (q : N σ H) : gNil [] σ H N := ⟨rfl, q⟩
theorem r_isB {a b : Bool} (h : Q (.bl (decide (a = b))) H) : rIsB (.bl a) (.bl b) H Q := ⟨a, b, rfl, rfl, h⟩
theorem r_notB {a b : Bool} (h : Q (.bl (!decide (a = b))) H) : rNotB (.bl a) (.bl b) H Q := ⟨a, b, rfl, rfl, h⟩
end
local macro_rules | `(tactic| walk_at "st1") => `(tactic| first
  | with_reducible refine' r_nt ?_ | with_reducible refine' r_nf ?_
  | with_reducible refine r_max2 ?_
  | with_reducible refine r_min2 ?_
  | with_reducible refine r_un ?_
  | with_reducible refine r_u ?_
  | with_reducible refine r_dnew ?_
  | with_reducible refine r_par ?_
  | with_reducible refine r_parx ?_
  | ((with_reducible refine' r_gtup ?e1 ?e2 ?_); (case e1 => walk_at "sq"); (case e2 => rfl))
  | with_reducible refine r_gcons ?_
  | with_reducible refine r_gnil ?_
  | with_reducible refine r_isB ?_
  | with_reducible refine r_notB ?_)
def sp_law (K : PySem.W.Frag) : Sp := fun vs H Q _ => ∃ (a : Addr) (ns : List Int), vs = [.ref a] ∧ SqL K H a (ns.map .int) ∧ ns.length ≤ 63 ∧ ∀ H', Q (.bl true) H'
section
variable {P : Program} {w : World} {K : PySem.W.Frag} {mg : Str → Option Value} {base : Heap}
theorem ok_law (T : Tx K mg) {f_law_state : Addr} {fd_law_state : FuncData} (C_law_state : Cal P w K mg base "_law_state" 1 ["script"] (sp_law_state K) s_law_state f_law_state fd_law_state) {f_law_rows : Addr} {fd_law_rows : FuncData} (C_law_rows : Cal P w K mg base "_law_rows" 3 ["state", "wideness", "base", "many"] (sp_law_rows K) s_law_rows f_law_rows fd_law_rows) {f_is_rows : Addr} {fd_is_rows : FuncData} (C_is_rows : Cal P w K mg base "is_rows" 4 ["thing", "width", "p"] (sp_is_rows K) s_is_rows f_is_rows fd_is_rows) {f_law_prime : Addr} {fd_law_prime : FuncData} (C_law_prime : Cal P w K mg base "_law_prime" 2 ["state"] (sp_law_prime K) s_law_prime f_law_prime fd_law_prime) {f_law_draw : Addr} {fd_law_draw : FuncData} (C_law_draw : Cal P w K mg base "_law_draw" 1 ["state", "many"] (sp_law_draw K) s_law_draw f_law_draw fd_law_draw) {f_law_spoilt : Addr} {fd_law_spoilt : FuncData} (C_law_spoilt : Cal P w K mg base "_law_spoilt" 2 ["state", "lot", "base"] (sp_law_spoilt K) s_law_spoilt f_law_spoilt fd_law_spoilt) {f_law_is_row : Addr} {fd_law_is_row : FuncData} (C_law_is_row : Cal P w K mg base "_law_is_row" 1 ["item", "wideness", "base"] (sp_law_is_row K) s_law_is_row f_law_is_row fd_law_is_row) {f : Addr} {fd : FuncData} (F : Here K mg "law" s_law ["script"] f fd) : Cal P w K mg base "law" 5 ["script"] (sp_law K) s_law f fd := by
  refine F.cal sc_law (fun vs H Q E h => ?_) (fun cdv A outer s H vs Q E hr h => ?_)
  · obtain ⟨a, ns, rfl, _⟩ := h
    rfl
  · obtain ⟨a, ns, rfl, hS, hlen, q⟩ := h
    refine ⟨_, (pss_cons (ps_set (i := 1) sc_law.nd rfl (by first | exact .inl rfl | exact .inr rfl) (pe_call C_law_state.ok (hr.mono (by decide)) (by rfl) C_law_state.at_ C_law_state.kp C_law_state.b .nil pass0 (pa_cons (pv 0) pa_nil)))
      (pss_cons (ps_for PassesOwn.never rfl (pi_range1 (by rfl) T.m_range (pa_cons pe_int pa_nil)) (pg_name (i := 2) sc_law.nd rfl (by first | exact .inl rfl | exact .inr rfl)) (pss_cons (ps_asg (pe_tup (pa_cons (pe_call C_law_prime.ok (hr.mono (by decide)) (by rfl) C_law_prime.at_ C_law_prime.kp C_law_prime.b .nil pass0 (pa_cons (pv 1) pa_nil)) (pa_cons (pe_call C_law_draw.ok (hr.mono (by decide)) (by rfl) C_law_draw.at_ C_law_draw.kp C_law_draw.b .nil pass0 (pa_cons (pv 1) (pa_cons pe_int pa_nil))) pa_nil))) (castPG (K := K) (n := 2) (pg_tup rfl (pgs_cons (pg_name (i := 3) sc_law.nd rfl (by first | exact .inl rfl | exact .inr rfl)) (pgs_cons (pg_name (i := 4) sc_law.nd rfl (by first | exact .inl rfl | exact .inr rfl)) pgs_nil)))))
      (pss_cons (ps_set (i := 5) sc_law.nd rfl (by first | exact .inl rfl | exact .inr rfl) (pe_op op_add pe_int (pe_call C_law_draw.ok (hr.mono (by decide)) (by rfl) C_law_draw.at_ C_law_draw.kp C_law_draw.b .nil pass0 (pa_cons (pv 1) (pa_cons (pe_ix (ix_listK (K := K)) (pe_lst (pa_cons pe_int (pa_cons pe_int (pa_cons pe_int (pa_cons pe_int pa_nil))))) (pe_call C_law_draw.ok (hr.mono (by decide)) (by rfl) C_law_draw.at_ C_law_draw.kp C_law_draw.b .nil pass0 (pa_cons (pv 1) (pa_cons pe_int pa_nil))) (fun _ _ => rfl)) pa_nil)))))
      (pss_cons (ps_set (i := 6) sc_law.nd rfl (by first | exact .inl rfl | exact .inr rfl) (pe_call C_law_rows.ok (hr.mono (by decide)) (by rfl) C_law_rows.at_ C_law_rows.kp C_law_rows.b .nil pass0 (pa_cons (pv 1) (pa_cons (pv 5) (pa_cons (pv 3) (pa_cons (pe_call C_law_draw.ok (hr.mono (by decide)) (by rfl) C_law_draw.at_ C_law_draw.kp C_law_draw.b .nil pass0 (pa_cons (pv 1) (pa_cons pe_int pa_nil))) pa_nil))))))
      (pss_cons (ps_for PassesOwn.never rfl (pi_range1 (by rfl) T.m_range (pa_cons (pv 4) pa_nil)) (pg_name (i := 7) sc_law.nd rfl (by first | exact .inl rfl | exact .inr rfl)) (pss_one (ps_set (i := 6) sc_law.nd rfl (by first | exact .inl rfl | exact .inr rfl) (pe_call C_law_spoilt.ok (hr.mono (by decide)) (by rfl) C_law_spoilt.at_ C_law_spoilt.kp C_law_spoilt.b .nil pass0 (pa_cons (pv 1) (pa_cons (pv 6) (pa_cons (pv 3) pa_nil)))))))
      (pss_cons (ps_set (i := 8) sc_law.nd rfl (by first | exact .inl rfl | exact .inr rfl) (pe_ix (ix_listK (K := K)) (pe_lst (pa_cons (pv 5) (pa_cons (pv 5) (pa_cons (pe_callB (cr_min2 rfl) (by rfl) T.m_min (by decide +kernel) (pa_cons pe_int (pa_cons (pe_op op_add (pv 5) pe_int) pa_nil))) (pa_cons (pe_callB (cr_max2 rfl) (by rfl) T.m_max (by decide +kernel) (pa_cons pe_int (pa_cons (pe_op op_sub (pv 5) pe_int) pa_nil))) pa_nil))))) (pe_call C_law_draw.ok (hr.mono (by decide)) (by rfl) C_law_draw.at_ C_law_draw.kp C_law_draw.b .nil pass0 (pa_cons (pv 1) (pa_cons pe_int pa_nil))) (fun _ _ => rfl)))
      (pss_cons (ps_set (i := 9) sc_law.nd rfl (by first | exact .inl rfl | exact .inr rfl) (pe_cmpR (op_eqNilK (K := K) (hu_of64 hr)) (pe_lc rfl sc_law.nd (pi_tupK (K := K) (pv 6)) (blkOk_by (own := [("line", 10)]) (N := ["script", "state", "turn", "base", "spoils", "wide", "item", "k", "asked", "wanted", "line", "told", "strange"]) (sc := (defScope s_law)) (by decide +kernel)) (fun _ _ _ _ _ => (pg_name (i := 10) sc_law.nd rfl (by first | exact .inl rfl | exact .inr rfl))) (fun _ _ _ _ _ => (pts_one (pt_not (pt_val (pe_call C_law_is_row.ok (hr.mono (by decide)) (by rfl) C_law_is_row.at_ C_law_is_row.kp C_law_is_row.b .nil pass0 (pa_cons (pv 10) (pa_cons (pv 8) (pa_cons (pv 3) pa_nil)))))))) (fun _ _ _ _ _ => (pv 10))) (pe_lst pa_nil) (nomark _)))
      (pss_cons (ps_for PassesOwn.never rfl (pi_listK (K := K) (pe_lst (pa_cons (pe_call C_is_rows.ok (hr.mono (by decide)) (by rfl) C_is_rows.at_ C_is_rows.kp C_is_rows.b .nil pass0 (pa_cons (pv 6) (pa_cons (pv 8) (pa_cons (pv 3) pa_nil)))) (pa_cons (pe_callK0 C_is_rows.ok (hr.mono (by decide)) (by rfl) C_is_rows.at_ C_is_rows.kp (kb_perm (us0 := 0) (ws0 := 3) (is := [2, 1, 0]) (by simp) (fun us ws h1 h2 => kb_is_rows_2_1_0 C_is_rows.fn us ws h1 h2)) pass0 (pk_cons (pv 3) (pk_cons (pv 8) (pk_cons (pv 6) pk_nil)))) pa_nil)))) (pg_name (i := 11) sc_law.nd rfl (by first | exact .inl rfl | exact .inr rfl)) (pss_one (ps_if (PW.pt (pw_or (pt_not (pt_val (pe_callB (cr_isiK (K := K)) (by rfl) T.m_isinstance (by decide +kernel) (pa_cons (pv 11) (pa_cons (pe_bltn (v := .ty "bool") (by rfl) T.m_bool (by decide +kernel) rfl) pa_nil))))) (pw_or1 (pt_cmpR op_ne (pv 11) (pv 9) (nomark _))))) (pss_one (ps_ret pe_bl)) pss_nil)))
      (pss_cons (ps_set (i := 12) sc_law.nd rfl (by first | exact .inl rfl | exact .inr rfl) (pe_ix (ix_listK (K := K)) (pe_lst (pa_cons pe_non (pa_cons pe_int (pa_cons pe_bl (pa_cons pe_str (pa_cons (pe_lst pa_nil) (pa_cons pe_dnewK (pa_cons (pe_callTy (cr_listOfK (K := K)) (by rfl) T.m_list (by decide +kernel) (pa_cons (pv 6) pa_nil)) (pa_cons pe_str (pa_cons (pe_lst (pa_cons (pv 6) pa_nil)) pa_nil)))))))))) (pe_call C_law_draw.ok (hr.mono (by decide)) (by rfl) C_law_draw.at_ C_law_draw.kp C_law_draw.b .nil pass0 (pa_cons (pv 1) (pa_cons pe_int pa_nil))) (fun _ _ => rfl)))
      (pss_one (ps_if (pt_cmpR op_notBl (pe_call C_is_rows.ok (hr.mono (by decide)) (by rfl) C_is_rows.at_ C_is_rows.kp C_is_rows.b .nil pass0 (pa_cons (pv 12) (pa_cons (pv 8) (pa_cons (pv 3) pa_nil)))) pe_bl (nomark _)) (pss_one (ps_ret pe_bl)) pss_nil)))))))))))
      (pss_one (ps_ret (pe_cmpR op_isBl (pe_call C_is_rows.ok (hr.mono (by decide)) (by rfl) C_is_rows.at_ C_is_rows.kp C_is_rows.b .nil pass0 (pa_cons (pe_tup pa_nil) (pa_cons pe_int (pa_cons pe_int pa_nil)))) pe_bl (nomark _)))))), ?_⟩
    walk_at "st"
    refine ⟨a, ns, rfl, hS, hlen, fun s c H1 s1 st1 => ?_⟩
    walk_at "st"
    refine lp_by (walk_range (lo := 0) (n := Int.toNat 8)) (fun i σ' H' => ∃ x2 x3 x4 x5 x6 x7 x8 x9 x10 x11 x12, σ' = [some (.ref a), some (.ref s), x2, x3, x4, x5, x6, x7, x8, x9, x10, x11, x12] ∧ St s c H') ⟨_, _, _, _, _, _, _, _, _, _, _, rfl, st1⟩ (fun _ _ _ _ _ => trivial) (fun i x σ' H2 H2' hi p y => ?_) (fun σ' H2 p => ?_)
    · obtain ⟨x2, x3, x4, x5, x6, x7, x8, x9, x10, x11, x12, rfl, st2⟩ := p
      obtain ⟨rfl, rfl⟩ := y
      walk_at "st"
      refine ⟨s, c, rfl, st2, fun b H3 k3 st3 hb => ?_⟩
      have hb2 : 2 ≤ b ∧ b ≤ 997 := by simp at hb; omega
      walk_at "st"
      refine ⟨s, c, 3, rfl, st3, by omega, fun sp H4 k4 st4 hsp => ?_⟩
      walk_at "st"
      intro t ht
      have st5 := st4.new (x := .tup [.int b, .int sp]) ht
      walk_at "st"
      intro l hl
      have ol := st5.out hl
      walk_at "st"
      refine ⟨s, c, 4, rfl, by walk_at "stt", by omega, fun d6 H6 k6 st6 hd6 => ?_⟩
      obtain ⟨v6, ev6, hv6⟩ := atI_in (xs := [V.int 3, V.int 6, V.int 12, V.int 310]) hd6.1 (by simpa using hd6.2)
      walk_at "st"
      obtain ⟨n6, rfl, hn6⟩ : ∃ n, v6 = .int n ∧ (1 ≤ n ∧ n ≤ 310) := by
        simp at hv6
        rcases hv6 with h | h | h | h <;> exact ⟨_, h, by omega⟩
      refine ⟨s, c, n6, rfl, st6, by omega, fun d7 H7 k7 st7 hd7 => ?_⟩
      walk_at "st"
      refine ⟨s, c, 7, rfl, st7, by omega, fun d8 H8 k8 st8 hd8 => ?_⟩
      walk_at "st"
      refine ⟨s, c, 1 + d7, b, d8, rfl, st8, by omega, hb2, by omega, fun p9 us9 rows H9 k9 st9 n9 e9 r9 h9 => ?_⟩
      walk_at "st"
      have R9 : Rep [s, c] H9 (.ref p9) (.tup (rows.map rowO)) := .tup e9 (st8.out n9) r9
      have S9 : smallRows 6 310 (.tup (rows.map rowO)) := by
        refine ⟨by rw [List.length_map]; omega, fun o ho => ?_⟩
        obtain ⟨r, hr, rfl⟩ := List.mem_map.mp ho
        have := (h9.2 r hr).1
        show (r.map O.int).length ≤ 310
        rw [List.length_map]; omega
      refine lp_by (walk_range (lo := 0) (n := sp.toNat)) (fun jj σ' H' => ∃ x7 v os N M, σ' = [some (.ref a), some (.ref s), some (.int (0 + (i : Int))), some (.int b), some (.int sp), some (.int (1 + d7)), some v, x7, x8, x9, x10, x11, x12] ∧ St s c H' ∧ Rep [s, c] H' v (.tup os) ∧ smallRows N M (.tup os) ∧ N + 1 ≤ 7 * 2 ^ jj ∧ M + 1 ≤ 311 * 2 ^ jj) ⟨_, _, _, 6, 310, rfl, st9, R9, S9, by decide, by decide⟩ (fun _ _ _ _ _ => trivial) (fun j x σ' Ha Ha' hj p y => ?_) (fun σ' Ha p => ?_)
      · obtain ⟨x7, v, os, N, M, rfl, sta, Ra, Sa, hN, hM⟩ := p
        obtain ⟨rfl, rfl⟩ := y
        have pw : 2 ^ j ≤ 4 := by
          have : j ≤ 2 := by omega
          exact Nat.le_trans (Nat.pow_le_pow_right (by decide) this) (by decide)
        walk_at "st"
        refine ⟨s, c, v, os, b, N, M, rfl, sta, Ra, Sa, by omega, fun v' os' Hb kb stb Rb Sb => ?_⟩
        walk_at "st"
        exact ⟨_, v', os', _, _, rfl, stb, Rb, Sb, by rw [Nat.pow_succ]; omega, by rw [Nat.pow_succ]; omega⟩
      · obtain ⟨x7, v, os, N, M, rfl, sta, Ra, Sa, hN, hM⟩ := p
        have pw : 2 ^ sp.toNat ≤ 4 := by
          have : sp.toNat ≤ 2 := by omega
          exact Nat.le_trans (Nat.pow_le_pow_right (by decide) this) (by decide)
        have hN2 : N ≤ 2000 := by omega
        have hM2 : M ≤ 2000 := by omega
        have Sbig : smallRows 5000 5000 (.tup os) := ⟨Nat.le_trans Sa.1 (by omega), fun o ho => by
          have := Sa.2 o ho
          cases o with
          | tup z => exact Nat.le_trans this (by omega)
          | _ => trivial⟩
        obtain ⟨av, xs, rfl, hav, nav, tv⟩ := Ra.tupInv
        have elv := tv.length
        have hlv : os.length ≤ 5000 := Sbig.1
        walk_at "st"
        intro la hla
        have ola := sta.out hla
        have stA : St s c (upd Ha la (.lst [V.int (1 + d7), V.int (1 + d7), V.int (if 1 + d7 + 1 < 310 then 1 + d7 + 1 else 310), V.int (if 1 + d7 - 1 > 1 then 1 + d7 - 1 else 1)])) := sta.new hla
        walk_at "st"
        refine ⟨s, c, 4, rfl, by walk_at "stt", by omega, fun dB HB kB stB hdB => ?_⟩
        obtain ⟨vB, evB, hvB⟩ := atI_in (xs := [V.int (1 + d7), V.int (1 + d7), V.int (if 1 + d7 + 1 < 310 then 1 + d7 + 1 else 310), V.int (if 1 + d7 - 1 > 1 then 1 + d7 - 1 else 1)]) hdB.1 (by simpa using hdB.2)
        obtain ⟨ask, rfl⟩ : ∃ n, vB = .int n := by
          simp at hvB
          rcases hvB with h | h | h <;> exact ⟨_, h⟩
        walk_at "st"
        have havB : HB av = some (.tup xs) := by walk_at "hl"
        have RB : Rep [s, c] HB (.ref av) (.tup os) := Ra.to (by walk_at "lf")
        have tB := tv.to (S' := [s, c]) (H' := HB) (by walk_at "lf")
        intro D hD
        refine lc_filt (walk_tup (xs := xs)) (by omega) hD (fun i => !lineO ask b (os.getD i .non)) (fun H' k => SqT.of (k _ _ havB)) (fun i H1 x H2 y => by rw [y.1]; exact Same.refl _)
          (fun i x H1 H2 Y No hi sm y hY hN => ?_) (fun ys HC ee el smC eD => ?_)
        · obtain ⟨rfl, ex⟩ := y
          obtain ⟨o', eo, ro⟩ := tB.get ex
          rw [getD_of eo] at hY hN
          refine ⟨rfl, ?_⟩
          walk_at "st"
          refine ⟨[s, c], x, o', ask, b, rfl, ro.to (Lft.same sm), Sbig.2 o' (List.mem_of_getElem? eo), fun H3 s3 => ?_⟩
          cases hl : lineO ask b o' with
          | true => (rw [hl] at hN; walk_at "st"; exact hN rfl _ s3)
          | false => (rw [hl] at hY; walk_at "st"; exact hY rfl _ _ s3)
        · walk_at "st"
          intro p0 hp0
          walk_at "st"
          have ee2 : ys.isEmpty = rowsO ask b (.tup os) := by
            rw [ee, elv]
            have := range_all (lineO ask b) O.non os
            show _ = os.all (lineO ask b)
            rw [← this]
            simp
          have stC := stB.same smC
          have RC : Rep [s, c] (upd HC p0 (.lst [])) (.ref av) (.tup os) := RB.to (by walk_at "lf")
          have stC2 : St s c (upd HC p0 (.lst [])) := stC.new hp0
          refine ⟨[s, c], _, _, ask, b, rfl, RC, Sbig, fun HD smD => ?_⟩
          walk_at "st"
          refine ⟨[s, c], _, _, ask, b, rfl, RC.to (by walk_at "lf"), Sbig, fun HE smE => ?_⟩
          have stD := stC2.same smD
          have stE := stD.same smE
          have RE : Rep [s, c] HE (.ref av) (.tup os) := RC.to (by walk_at "lf")
          walk_at "st"
          intro lt hlt
          walk_at "st"
          have hr2 : ∀ z, z ∈ [V.bl (rowsO ask b (.tup os)), V.bl (rowsO ask b (.tup os))] → z = V.bl (rowsO ask b (.tup os)) := fun z hz => by
            simp at hz
            exact hz
          generalize hHF : upd HE lt (.lst [V.bl (rowsO ask b (.tup os)), V.bl (rowsO ask b (.tup os))]) = HF
          have elt : HF lt = some (.lst [V.bl (rowsO ask b (.tup os)), V.bl (rowsO ask b (.tup os))]) := by rw [← hHF]; exact upd_same
          have stF : St s c HF := by rw [← hHF]; exact stE.new hlt
          have RF : Rep [s, c] HF (.ref av) (.tup os) := by rw [← hHF]; exact RE.to (Lft.new hlt)
          clear hHF
          refine lp_by (walk_list (a := lt) (xs := [V.bl (rowsO ask b (.tup os)), V.bl (rowsO ask b (.tup os))])) (fun _ σ' H' => ∃ x11', σ' = [some (.ref a), some (.ref s), some (.int (0 + (i : Int))), some (.int b), some (.int sp), some (.int (1 + d7)), some (.ref av), x7, some (.int ask), some (.bl ys.isEmpty), x10, x11', x12] ∧ H' = HF) ⟨_, rfl, rfl⟩ (fun _ σ' H' _ p => by rw [p.choose_spec.2]; exact SqL.of elt) (fun j z σ' HG HG' hj p y => ?_) (fun σ' HG p => ?_)
          · obtain ⟨x11', rfl, rfl⟩ := p
            obtain ⟨rfl, ez⟩ := y
            obtain rfl := hr2 z (List.mem_of_getElem? ez)
            walk_at "st"
            walk_at "if"
            refine r_iteB (fun h => ?_) (fun h => ?_)
            · rw [ee2] at h
              simp at h
            · walk_at "st"
              exact ⟨_, rfl, rfl⟩
          · obtain ⟨x11', rfl, rfl⟩ := p
            obtain ⟨av2, xs2, e2, hav2, nav2, tv2⟩ := RF.tupInv
            cases e2
            walk_at "st"
            intro q1 hq1
            have oq1 := stF.out hq1
            have stq1 : St s c (upd HG q1 (.lst [])) := stF.new hq1
            walk_at "st"
            intro q2 hq2
            have oq2 := stq1.out hq2
            have stq2 : St s c (upd (upd HG q1 (.lst [])) q2 (.dK [])) := stq1.new hq2
            walk_at "st"
            intro q3 hq3
            have oq3 := stq2.out hq3
            have stq3 : St s c (upd (upd (upd HG q1 (.lst [])) q2 (.dK [])) q3 (.lst xs2)) := stq2.new hq3
            walk_at "st"
            intro q4 hq4
            have oq4 := stq3.out hq4
            have stq4 : St s c (upd (upd (upd (upd HG q1 (.lst [])) q2 (.dK [])) q3 (.lst xs2)) q4 (.lst [.ref av])) := stq3.new hq4
            walk_at "st"
            intro q5 hq5
            have oq5 := stq4.out hq5
            walk_at "st"
            refine ⟨s, c, 9, rfl, by walk_at "stt", by omega, fun dH HH kH stH hdH => ?_⟩
            obtain ⟨vH, evH, hvH⟩ := atI_in (xs := [V.non, V.int 0, V.bl true, V.str "", V.ref q1, V.ref q2, V.ref q3, V.str "rows", V.ref q4]) hdH.1 (by simpa using hdH.2)
            walk_at "st"
            have eq1 : HH q1 = some (.lst []) := by walk_at "hl"
            have eq2 : HH q2 = some (.dK []) := by walk_at "hl"
            have eq3 : HH q3 = some (.lst xs2) := by walk_at "hl"
            have eq4 : HH q4 = some (.lst [.ref av]) := by walk_at "hl"
            have tvH := tv2.to (S' := [s, c]) (H' := HH) (by walk_at "lf")
            have RH : Rep [s, c] HH (.ref av) (.tup os) := RF.to (by walk_at "lf")
            obtain ⟨o, ro, so, eo⟩ : ∃ o, Rep [s, c] HH vH o ∧ smallRows 5000 5000 o ∧ rowsO ask b o = false := by
              simp at hvH
              rcases hvH with h | h | h | h | h | h | h | h | h <;> subst h
              · exact ⟨_, .non, trivial, rfl⟩
              · exact ⟨_, .int _, trivial, rfl⟩
              · exact ⟨_, .bl _, trivial, rfl⟩
              · exact ⟨_, .str _, trivial, rfl⟩
              · exact ⟨_, .lst eq1 oq1 .nil, trivial, rfl⟩
              · exact ⟨_, .dct eq2 oq2, trivial, rfl⟩
              · exact ⟨_, .lst eq3 oq3 tvH, trivial, rfl⟩
              · exact ⟨_, .str _, trivial, rfl⟩
              · exact ⟨_, .lst eq4 oq4 (.cons RH .nil), trivial, rfl⟩
            walk_at "if"
            refine ⟨[s, c], vH, o, ask, b, rfl, ro, so, fun HI smI => ?_⟩
            rw [eo]
            walk_at "st"
            refine r_iteB (fun h => by simp at h) (fun _ => ?_)
            walk_at "st"
            exact ⟨_, _, _, _, _, _, _, _, _, _, _, rfl, stH.same smI⟩
    · obtain ⟨x2, x3, x4, x5, x6, x7, x8, x9, x10, x11, x12, rfl, st2⟩ := p
      walk_at "st"
      intro p hp
      walk_at "st"
      refine ⟨[s, c], _, .tup [], 1, 2, rfl, .tup upd_same (st2.out hp) .nil, ⟨Nat.zero_le _, by simp⟩, fun H5 s5 => ?_⟩
      walk_at "st"
      exact q _
end
/-! ### what the top has written; the law -/
theorem all_mk {l : PySem.W.OpenLaw} {w : World} {K : PySem.W.Frag} {h : Heap} {mg : Str → Option Value} {fa : Addr} (X : K.In h) (G : h.Ns mainGlobals mg) (hfa : mg "law" = some (.ref fa))
    {od1 an1 : Option Addr} {sl1 : Array (Option Value)} {oc1 kV1 dc1 pm1 cd1 ct1 : Value} {f1 : Addr}
    {od2 an2 : Option Addr} {sl2 : Array (Option Value)} {oc2 kV2 dc2 pm2 cd2 ct2 : Value} {f2 : Addr}
    {od3 an3 : Option Addr} {sl3 : Array (Option Value)} {oc3 kV3 dc3 pm3 cd3 ct3 : Value} {f3 : Addr}
    {od4 an4 : Option Addr} {sl4 : Array (Option Value)} {oc4 kV4 dc4 pm4 cd4 ct4 : Value} {f4 : Addr}
    {od5 an5 : Option Addr} {sl5 : Array (Option Value)} {oc5 kV5 dc5 pm5 cd5 ct5 : Value} {f5 : Addr}
    {od6 an6 : Option Addr} {sl6 : Array (Option Value)} {oc6 kV6 dc6 pm6 cd6 ct6 : Value} {f6 : Addr}
    {od7 an7 : Option Addr} {sl7 : Array (Option Value)} {oc7 kV7 dc7 pm7 cd7 ct7 : Value} {f7 : Addr}
    {od8 an8 : Option Addr} {sl8 : Array (Option Value)} {oc8 kV8 dc8 pm8 cd8 ct8 : Value} {f8 : Addr}
    {od9 an9 : Option Addr} {sl9 : Array (Option Value)} {oc9 kV9 dc9 pm9 cd9 ct9 : Value} {f9 : Addr}
    {od10 an10 : Option Addr} {sl10 : Array (Option Value)} {oc10 kV10 dc10 pm10 cd10 ct10 : Value} {f10 : Addr}
    {od11 an11 : Option Addr} {sl11 : Array (Option Value)} {oc11 kV11 dc11 pm11 cd11 ct11 : Value} {f11 : Addr}
    {od12 an12 : Option Addr} {sl12 : Array (Option Value)} {oc12 kV12 dc12 pm12 cd12 ct12 : Value} {f12 : Addr}
    {od13 an13 : Option Addr} {sl13 : Array (Option Value)} {oc13 kV13 dc13 pm13 cd13 ct13 : Value} {f13 : Addr}
    {od14 an14 : Option Addr} {sl14 : Array (Option Value)} {oc14 kV14 dc14 pm14 cd14 ct14 : Value} {f14 : Addr}
    {od15 an15 : Option Addr} {sl15 : Array (Option Value)} {oc15 kV15 dc15 pm15 cd15 ct15 : Value} {f15 : Addr}
    (a1 : PySem.W.nsIn K mainGlobals "is_whole" = some (some (.ref f1))) (l1 : K.lookup f1 = some ⟨oc1, od1, .func (PySem.W.fnOf "is_whole" "is_whole" (defArgs s_is_whole) (defBody s_is_whole) (defScope s_is_whole) .none kV1 dc1 pm1 an1 cd1 ct1), sl1⟩) (c1 : PySem.W.codeIn K cd1 "is_whole" = true) (k1 : PySem.W.keepIn K (.ref f1) = true)
    (a2 : PySem.W.nsIn K mainGlobals "is_number" = some (some (.ref f2))) (l2 : K.lookup f2 = some ⟨oc2, od2, .func (PySem.W.fnOf "is_number" "is_number" (defArgs s_is_number) (defBody s_is_number) (defScope s_is_number) .none kV2 dc2 pm2 an2 cd2 ct2), sl2⟩) (c2 : PySem.W.codeIn K cd2 "is_number" = true) (k2 : PySem.W.keepIn K (.ref f2) = true)
    (a3 : PySem.W.nsIn K mainGlobals "is_tuple" = some (some (.ref f3))) (l3 : K.lookup f3 = some ⟨oc3, od3, .func (PySem.W.fnOf "is_tuple" "is_tuple" (defArgs s_is_tuple) (defBody s_is_tuple) (defScope s_is_tuple) .none kV3 dc3 pm3 an3 cd3 ct3), sl3⟩) (c3 : PySem.W.codeIn K cd3 "is_tuple" = true) (k3 : PySem.W.keepIn K (.ref f3) = true)
    (a4 : PySem.W.nsIn K mainGlobals "is_rows" = some (some (.ref f4))) (l4 : K.lookup f4 = some ⟨oc4, od4, .func (PySem.W.fnOf "is_rows" "is_rows" (defArgs s_is_rows) (defBody s_is_rows) (defScope s_is_rows) .none kV4 dc4 pm4 an4 cd4 ct4), sl4⟩) (c4 : PySem.W.codeIn K cd4 "is_rows" = true) (k4 : PySem.W.keepIn K (.ref f4) = true)
    (a5 : PySem.W.nsIn K mainGlobals "is_line" = some (some (.ref f5))) (l5 : K.lookup f5 = some ⟨oc5, od5, .func (PySem.W.fnOf "is_line" "is_line" (defArgs s_is_line) (defBody s_is_line) (defScope s_is_line) .none kV5 dc5 pm5 an5 cd5 ct5), sl5⟩) (c5 : PySem.W.codeIn K cd5 "is_line" = true) (k5 : PySem.W.keepIn K (.ref f5) = true)
    (a6 : PySem.W.nsIn K mainGlobals "_law_state" = some (some (.ref f6))) (l6 : K.lookup f6 = some ⟨oc6, od6, .func (PySem.W.fnOf "_law_state" "_law_state" (defArgs s_law_state) (defBody s_law_state) (defScope s_law_state) .none kV6 dc6 pm6 an6 cd6 ct6), sl6⟩) (c6 : PySem.W.codeIn K cd6 "_law_state" = true) (k6 : PySem.W.keepIn K (.ref f6) = true)
    (a7 : PySem.W.nsIn K mainGlobals "_law_draw" = some (some (.ref f7))) (l7 : K.lookup f7 = some ⟨oc7, od7, .func (PySem.W.fnOf "_law_draw" "_law_draw" (defArgs s_law_draw) (defBody s_law_draw) (defScope s_law_draw) .none kV7 dc7 pm7 an7 cd7 ct7), sl7⟩) (c7 : PySem.W.codeIn K cd7 "_law_draw" = true) (k7 : PySem.W.keepIn K (.ref f7) = true)
    (a8 : PySem.W.nsIn K mainGlobals "_law_prime" = some (some (.ref f8))) (l8 : K.lookup f8 = some ⟨oc8, od8, .func (PySem.W.fnOf "_law_prime" "_law_prime" (defArgs s_law_prime) (defBody s_law_prime) (defScope s_law_prime) .none kV8 dc8 pm8 an8 cd8 ct8), sl8⟩) (c8 : PySem.W.codeIn K cd8 "_law_prime" = true) (k8 : PySem.W.keepIn K (.ref f8) = true)
    (a9 : PySem.W.nsIn K mainGlobals "_law_row" = some (some (.ref f9))) (l9 : K.lookup f9 = some ⟨oc9, od9, .func (PySem.W.fnOf "_law_row" "_law_row" (defArgs s_law_row) (defBody s_law_row) (defScope s_law_row) .none kV9 dc9 pm9 an9 cd9 ct9), sl9⟩) (c9 : PySem.W.codeIn K cd9 "_law_row" = true) (k9 : PySem.W.keepIn K (.ref f9) = true)
    (a10 : PySem.W.nsIn K mainGlobals "_law_times" = some (some (.ref f10))) (l10 : K.lookup f10 = some ⟨oc10, od10, .func (PySem.W.fnOf "_law_times" "_law_times" (defArgs s_law_times) (defBody s_law_times) (defScope s_law_times) .none kV10 dc10 pm10 an10 cd10 ct10), sl10⟩) (c10 : PySem.W.codeIn K cd10 "_law_times" = true) (k10 : PySem.W.keepIn K (.ref f10) = true)
    (a11 : PySem.W.nsIn K mainGlobals "_law_together" = some (some (.ref f11))) (l11 : K.lookup f11 = some ⟨oc11, od11, .func (PySem.W.fnOf "_law_together" "_law_together" (defArgs s_law_together) (defBody s_law_together) (defScope s_law_together) .none kV11 dc11 pm11 an11 cd11 ct11), sl11⟩) (c11 : PySem.W.codeIn K cd11 "_law_together" = true) (k11 : PySem.W.keepIn K (.ref f11) = true)
    (a12 : PySem.W.nsIn K mainGlobals "_law_rows" = some (some (.ref f12))) (l12 : K.lookup f12 = some ⟨oc12, od12, .func (PySem.W.fnOf "_law_rows" "_law_rows" (defArgs s_law_rows) (defBody s_law_rows) (defScope s_law_rows) .none kV12 dc12 pm12 an12 cd12 ct12), sl12⟩) (c12 : PySem.W.codeIn K cd12 "_law_rows" = true) (k12 : PySem.W.keepIn K (.ref f12) = true)
    (a13 : PySem.W.nsIn K mainGlobals "_law_is_row" = some (some (.ref f13))) (l13 : K.lookup f13 = some ⟨oc13, od13, .func (PySem.W.fnOf "_law_is_row" "_law_is_row" (defArgs s_law_is_row) (defBody s_law_is_row) (defScope s_law_is_row) .none kV13 dc13 pm13 an13 cd13 ct13), sl13⟩) (c13 : PySem.W.codeIn K cd13 "_law_is_row" = true) (k13 : PySem.W.keepIn K (.ref f13) = true)
    (a14 : PySem.W.nsIn K mainGlobals "_law_spoilt" = some (some (.ref f14))) (l14 : K.lookup f14 = some ⟨oc14, od14, .func (PySem.W.fnOf "_law_spoilt" "_law_spoilt" (defArgs s_law_spoilt) (defBody s_law_spoilt) (defScope s_law_spoilt) .none kV14 dc14 pm14 an14 cd14 ct14), sl14⟩) (c14 : PySem.W.codeIn K cd14 "_law_spoilt" = true) (k14 : PySem.W.keepIn K (.ref f14) = true)
    (a15 : PySem.W.nsIn K mainGlobals "law" = some (some (.ref f15))) (l15 : K.lookup f15 = some ⟨oc15, od15, .func (PySem.W.fnOf "law" "law" (defArgs s_law) (defBody s_law) (defScope s_law) .none kV15 dc15 pm15 an15 cd15 ct15), sl15⟩) (c15 : PySem.W.codeIn K cd15 "law" = true) (k15 : PySem.W.keepIn K (.ref f15) = true)
    (z_abs : PySem.W.nsIn K mainGlobals "abs" = some none)
    (z_all : PySem.W.nsIn K mainGlobals "all" = some none)
    (z_bool : PySem.W.nsIn K mainGlobals "bool" = some none)
    (z_int : PySem.W.nsIn K mainGlobals "int" = some none)
    (z_isinstance : PySem.W.nsIn K mainGlobals "isinstance" = some none)
    (z_len : PySem.W.nsIn K mainGlobals "len" = some none)
    (z_list : PySem.W.nsIn K mainGlobals "list" = some none)
    (z_max : PySem.W.nsIn K mainGlobals "max" = some none)
    (z_min : PySem.W.nsIn K mainGlobals "min" = some none)
    (z_range : PySem.W.nsIn K mainGlobals "range" = some none)
    (z_tuple : PySem.W.nsIn K mainGlobals "tuple" = some none)
    (z_zip : PySem.W.nsIn K mainGlobals "zip" = some none) :
    ∃ fd : FuncData, (∀ (s : Shared) (v : Value), BindsTo s fd ⟨[v], []⟩ [("script", v)]) ∧ ∀ base : Heap, K.In base → base.Ns mainGlobals mg → FnOk l.prog w K mg base CX0 5 fa fd ["script"] (sp_law K) := by
  have e := hfa.symm.trans (PySem.W.mg_of X G a15)
  cases e
  have G1 := fun_mk (st := s_is_whole) l1 c1 k1
  have F1 : Here K mg "is_whole" s_is_whole ["thing"] f1 _ := ⟨G1, PySem.W.mg_of X G a1, G1.binds (ps := ["thing"]) fun _ _ _ _ _ _ us hl => match us, hl with | [_], _ => rfl⟩
  have G2 := fun_mk (st := s_is_number) l2 c2 k2
  have F2 : Here K mg "is_number" s_is_number ["thing", "p"] f2 _ := ⟨G2, PySem.W.mg_of X G a2, G2.binds (ps := ["thing", "p"]) fun _ _ _ _ _ _ us hl => match us, hl with | [_, _], _ => rfl⟩
  have G3 := fun_mk (st := s_is_tuple) l3 c3 k3
  have F3 : Here K mg "is_tuple" s_is_tuple ["thing", "least", "most"] f3 _ := ⟨G3, PySem.W.mg_of X G a3, G3.binds (ps := ["thing", "least", "most"]) fun _ _ _ _ _ _ us hl => match us, hl with | [_, _, _], _ => rfl⟩
  have G4 := fun_mk (st := s_is_rows) l4 c4 k4
  have F4 : Here K mg "is_rows" s_is_rows ["thing", "width", "p"] f4 _ := ⟨G4, PySem.W.mg_of X G a4, G4.binds (ps := ["thing", "width", "p"]) fun _ _ _ _ _ _ us hl => match us, hl with | [_, _, _], _ => rfl⟩
  have G5 := fun_mk (st := s_is_line) l5 c5 k5
  have F5 : Here K mg "is_line" s_is_line ["thing", "width", "p"] f5 _ := ⟨G5, PySem.W.mg_of X G a5, G5.binds (ps := ["thing", "width", "p"]) fun _ _ _ _ _ _ us hl => match us, hl with | [_, _, _], _ => rfl⟩
  have G6 := fun_mk (st := s_law_state) l6 c6 k6
  have F6 : Here K mg "_law_state" s_law_state ["script"] f6 _ := ⟨G6, PySem.W.mg_of X G a6, G6.binds (ps := ["script"]) fun _ _ _ _ _ _ us hl => match us, hl with | [_], _ => rfl⟩
  have G7 := fun_mk (st := s_law_draw) l7 c7 k7
  have F7 : Here K mg "_law_draw" s_law_draw ["state", "many"] f7 _ := ⟨G7, PySem.W.mg_of X G a7, G7.binds (ps := ["state", "many"]) fun _ _ _ _ _ _ us hl => match us, hl with | [_, _], _ => rfl⟩
  have G8 := fun_mk (st := s_law_prime) l8 c8 k8
  have F8 : Here K mg "_law_prime" s_law_prime ["state"] f8 _ := ⟨G8, PySem.W.mg_of X G a8, G8.binds (ps := ["state"]) fun _ _ _ _ _ _ us hl => match us, hl with | [_], _ => rfl⟩
  have G9 := fun_mk (st := s_law_row) l9 c9 k9
  have F9 : Here K mg "_law_row" s_law_row ["state", "wideness", "base"] f9 _ := ⟨G9, PySem.W.mg_of X G a9, G9.binds (ps := ["state", "wideness", "base"]) fun _ _ _ _ _ _ us hl => match us, hl with | [_, _, _], _ => rfl⟩
  have G10 := fun_mk (st := s_law_times) l10 c10 k10
  have F10 : Here K mg "_law_times" s_law_times ["line", "n", "base"] f10 _ := ⟨G10, PySem.W.mg_of X G a10, G10.binds (ps := ["line", "n", "base"]) fun _ _ _ _ _ _ us hl => match us, hl with | [_, _, _], _ => rfl⟩
  have G11 := fun_mk (st := s_law_together) l11 c11 k11
  have F11 : Here K mg "_law_together" s_law_together ["line", "two", "base"] f11 _ := ⟨G11, PySem.W.mg_of X G a11, G11.binds (ps := ["line", "two", "base"]) fun _ _ _ _ _ _ us hl => match us, hl with | [_, _, _], _ => rfl⟩
  have G12 := fun_mk (st := s_law_rows) l12 c12 k12
  have F12 : Here K mg "_law_rows" s_law_rows ["state", "wideness", "base", "many"] f12 _ := ⟨G12, PySem.W.mg_of X G a12, G12.binds (ps := ["state", "wideness", "base", "many"]) fun _ _ _ _ _ _ us hl => match us, hl with | [_, _, _, _], _ => rfl⟩
  have G13 := fun_mk (st := s_law_is_row) l13 c13 k13
  have F13 : Here K mg "_law_is_row" s_law_is_row ["item", "wideness", "base"] f13 _ := ⟨G13, PySem.W.mg_of X G a13, G13.binds (ps := ["item", "wideness", "base"]) fun _ _ _ _ _ _ us hl => match us, hl with | [_, _, _], _ => rfl⟩
  have G14 := fun_mk (st := s_law_spoilt) l14 c14 k14
  have F14 : Here K mg "_law_spoilt" s_law_spoilt ["state", "lot", "base"] f14 _ := ⟨G14, PySem.W.mg_of X G a14, G14.binds (ps := ["state", "lot", "base"]) fun _ _ _ _ _ _ us hl => match us, hl with | [_, _, _], _ => rfl⟩
  have G15 := fun_mk (st := s_law) l15 c15 k15
  have F15 : Here K mg "law" s_law ["script"] fa _ := ⟨G15, PySem.W.mg_of X G a15, G15.binds (ps := ["script"]) fun _ _ _ _ _ _ us hl => match us, hl with | [_], _ => rfl⟩
  have T : Tx K mg := ⟨PySem.W.mg_none_of X G z_abs, PySem.W.mg_none_of X G z_all, PySem.W.mg_none_of X G z_bool, PySem.W.mg_none_of X G z_int, PySem.W.mg_none_of X G z_isinstance, PySem.W.mg_none_of X G z_len, PySem.W.mg_none_of X G z_list, PySem.W.mg_none_of X G z_max, PySem.W.mg_none_of X G z_min, PySem.W.mg_none_of X G z_range, PySem.W.mg_none_of X G z_tuple, PySem.W.mg_none_of X G z_zip⟩
  refine ⟨PySem.W.fnOf "law" "law" (defArgs s_law) (defBody s_law) (defScope s_law) .none kV15 dc15 pm15 an15 cd15 ct15, fun s v => .of_eq rfl, fun base _ _ => ?_⟩
  have C_law_state := ok_law_state (P := l.prog) (w := w) (base := base) T  F6
  have C_law_draw := ok_law_draw (P := l.prog) (w := w) (base := base) T  F7
  have C_law_row := ok_law_row (P := l.prog) (w := w) (base := base) T C_law_draw F9
  have C_law_times := ok_law_times (P := l.prog) (w := w) (base := base) T  F10
  have C_law_together := ok_law_together (P := l.prog) (w := w) (base := base) T  F11
  have C_law_rows := ok_law_rows (P := l.prog) (w := w) (base := base) T C_law_row C_law_draw C_law_times C_law_together F12
  have C_is_tuple := ok_is_tuple (P := l.prog) (w := w) (base := base) T  F3
  have C_is_whole := ok_is_whole (P := l.prog) (w := w) (base := base) T  F1
  have C_is_number := ok_is_number (P := l.prog) (w := w) (base := base) T C_is_whole F2
  have C_is_line := ok_is_line (P := l.prog) (w := w) (base := base) T C_is_tuple C_is_number F5
  have C_is_rows := ok_is_rows (P := l.prog) (w := w) (base := base) T C_is_line F4
  have C_law_prime := ok_law_prime (P := l.prog) (w := w) (base := base) T C_law_draw F8
  have C_law_spoilt := ok_law_spoilt (P := l.prog) (w := w) (base := base) T C_law_draw F14
  have C_law_is_row := ok_law_is_row (P := l.prog) (w := w) (base := base) T  F13
  have C_law := ok_law (P := l.prog) (w := w) (base := base) T C_law_state C_law_rows C_is_rows C_law_prime C_law_draw C_law_spoilt C_law_is_row F15
  exact C_law.ok
end Z
open PySem PySem.W PyProof.Rows
set_option maxHeartbeats 0 in
theorem PySem.Challenge.cw_onetrace_k06_rows_known_holds : PySem.Challenge.rw_onetrace_k06_rows_known.Holds := by
  w_on; o_law; k_head; (case hw => w_witness2)
  k_fill
  refine L2.walk_of (l := PySem.Challenge.rw_onetrace_k06_rows_known) (n := 63) (k := 5) (x := "script") (CX := fun _ => L2.CX0) (sp := fun w => Z.sp_law _) rfl (by decide) rfl ⟨rfl, by decide, by decide⟩ (fun w h Y => PySem.W.kIn_of Y) ?F (fun _ _ a ns hl _ hS => ⟨a, ns, rfl, hS, hl, fun _ => rfl⟩) (fun _ _ _ _ _ h => h)
  case F =>
    intro w mg fa h KX G hmg
    refine' Z.all_mk KX G hmg ?a1 ?l1 ?c1 ?k1 ?a2 ?l2 ?c2 ?k2 ?a3 ?l3 ?c3 ?k3 ?a4 ?l4 ?c4 ?k4 ?a5 ?l5 ?c5 ?k5 ?a6 ?l6 ?c6 ?k6 ?a7 ?l7 ?c7 ?k7 ?a8 ?l8 ?c8 ?k8 ?a9 ?l9 ?c9 ?k9 ?a10 ?l10 ?c10 ?k10 ?a11 ?l11 ?c11 ?k11 ?a12 ?l12 ?c12 ?k12 ?a13 ?l13 ?c13 ?k13 ?a14 ?l14 ?c14 ?k14 ?a15 ?l15 ?c15 ?k15 ?z_abs ?z_all ?z_bool ?z_int ?z_isinstance ?z_len ?z_list ?z_max ?z_min ?z_range ?z_tuple ?z_zip
    (case a1 => k_is)
    (case l1 => k_is)
    (case c1 => k_is)
    (case k1 => k_is)
    (case a2 => k_is)
    (case l2 => k_is)
    (case c2 => k_is)
    (case k2 => k_is)
    (case a3 => k_is)
    (case l3 => k_is)
    (case c3 => k_is)
    (case k3 => k_is)
    (case a4 => k_is)
    (case l4 => k_is)
    (case c4 => k_is)
    (case k4 => k_is)
    (case a5 => k_is)
    (case l5 => k_is)
    (case c5 => k_is)
    (case k5 => k_is)
    (case a6 => k_is)
    (case l6 => k_is)
    (case c6 => k_is)
    (case k6 => k_is)
    (case a7 => k_is)
    (case l7 => k_is)
    (case c7 => k_is)
    (case k7 => k_is)
    (case a8 => k_is)
    (case l8 => k_is)
    (case c8 => k_is)
    (case k8 => k_is)
    (case a9 => k_is)
    (case l9 => k_is)
    (case c9 => k_is)
    (case k9 => k_is)
    (case a10 => k_is)
    (case l10 => k_is)
    (case c10 => k_is)
    (case k10 => k_is)
    (case a11 => k_is)
    (case l11 => k_is)
    (case c11 => k_is)
    (case k11 => k_is)
    (case a12 => k_is)
    (case l12 => k_is)
    (case c12 => k_is)
    (case k12 => k_is)
    (case a13 => k_is)
    (case l13 => k_is)
    (case c13 => k_is)
    (case k13 => k_is)
    (case a14 => k_is)
    (case l14 => k_is)
    (case c14 => k_is)
    (case k14 => k_is)
    (case a15 => k_is)
    (case l15 => k_is)
    (case c15 => k_is)
    (case k15 => k_is)
    (case z_abs => k_is)
    (case z_all => k_is)
    (case z_bool => k_is)
    (case z_int => k_is)
    (case z_isinstance => k_is)
    (case z_len => k_is)
    (case z_list => k_is)
    (case z_max => k_is)
    (case z_min => k_is)
    (case z_range => k_is)
    (case z_tuple => k_is)
    (case z_zip => k_is)
