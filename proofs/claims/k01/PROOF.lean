import PyProof.Rows.All
import Wide.All
import OpenK.AllK
import Wide.FinOn
import HandS.ForMost
import HandS.Wide
import HandS.Zip
import HandS.Walk
import HandS.IsInst
import HandS.TupAny
import HandS.Style
import HandS.SortOrd
import HandS.Remove
import KE.DataFind
import KE.GoesEnum
import HandS.TupMul
import PySem.Challenge.RW_onetrace_k01_primes_numbers_names
set_option Elab.async false
set_option linter.all false
set_option maxRecDepth 100000
set_option maxHeartbeats 4000000
namespace Z
open PySem PySem.Spec PyProof.Rows L2 RZ
/-- a def that is called: where it stands, what it promises -/
structure Cal (P : Program) (w : World) (K : PySem.W.Frag) (mg : Str → Option Value) (base : Heap) (x : Str) (k : Nat) (ps : List Str) (sp : Sp) (st : Stmt) (f : Addr) (fd : FuncData) : Prop where
  ok : FnOk P w K mg base CX0 k f fd ps sp
  at_ : mg x = some (.ref f)
  kp : PySem.W.keepIn K (.ref f) = true
  b : Binds K fd ps []
  fn : Fun K x x st f fd
/-- a def as it stands behind the top -/
structure Here (K : PySem.W.Frag) (mg : Str → Option Value) (x : Str) (st : Stmt) (ps : List Str) (f : Addr) (fd : FuncData) : Prop where
  fn : Fun K x x st f fd
  at_ : mg x = some (.ref f)
  b : Binds K fd ps []
section
variable {P : Program} {w : World} {K : PySem.W.Frag} {mg : Str → Option Value} {base : Heap}
theorem Here.cal {x : Str} {st : Stmt} {ps N : List Str} {f : Addr} {fd : FuncData} {k : Nat} {sp : Sp} (F : Here K mg x st ps f fd) (S : FnScope N ps (defScope st)) (len : ∀ vs H Q E, sp vs H Q E → vs.length = ps.length)
    (hbody : ∀ (cdv : Value) (A : Around) (outer : List Env) (s : Shared) (H : Hp) (vs : List V) (Q : VK) (E : XK), Room k (A.deeper (envOfC x (defScope st) s.heap.objs.size f cdv)) → sp vs H Q E →
      ∃ t, PSs (cxOf CX0 P w K mg base N x (defScope st) f cdv A outer s H E).nox (defBody st) t ∧ t { nx := fun _ H' => Q .non H', rt := Q } (L2.start N vs) H) : Cal P w K mg base x (k + 1) ps sp st f fd :=
  ⟨F.fn.ok S len hbody, F.at_, F.fn.kp, F.b, F.fn⟩
end
/-! readings, rule by rule -/
def rLen (K : PySem.W.Frag) : List V → Hp → VK → Prop := fun xs H Q => ∃ p ys, xs = [.ref p] ∧ (SqL K H p ys ∨ SqT K H p ys) ∧ Q (.int ys.length) H
theorem cr_len {X : Cx} : CallR X (.builtin "len") (rLen X.K) := call_len_seq
theorem r_app0 {l : Addr} {xs : List V} {y : V} {H : Hp} {Q : VK} (h : H l = some (.lst xs)) (z : xs.length < sizeLine) (q : Q .non (upd H l (.lst (xs ++ [y])))) : rAppend (.ref l) [y] H Q := ⟨l, xs, y, rfl, rfl, h, z, q⟩
theorem r_ty {K : PySem.W.Frag} {l : Addr} {xs : List V} {H : Hp} {A : Prop} (h : H l = some (.lst xs)) (q : A) : tyV K "list" (.ref l) H ∧ A := ⟨.inl ⟨rfl, _, .inl (.inl h)⟩, q⟩
theorem r_all {K : PySem.W.Frag} {a : Addr} {bs : List Bool} {H : Hp} {Q : VK} (h : SqL K H a (bs.map V.bl)) (q : Q (.bl (bs.all id)) H) : rAll K [.ref a] H Q := ⟨a, bs, rfl, h, q⟩
theorem r_sum {K : PySem.W.Frag} {a : Addr} {ns : List Int} {H : Hp} {Q : VK} (h : SqL K H a (ns.map V.int)) (q : Q (.int ns.sum) H) : rSum K [.ref a] H Q := ⟨a, ns, rfl, h, q⟩
theorem r_isi {K : PySem.W.Frag} {x c : V} {t u : Value} {b : Bool} {H : Hp} {Q : VK} (h1 : ClsV c u) (h2 : TyX K H x t) (h3 : PySem.W.kitOne K t u = some b) (q : Q (.bl b) H) : rIsi K [x, c] H Q := ⟨x, c, t, u, b, rfl, h1, h2, h3, q⟩
def rAbs : List V → Hp → VK → Prop := fun xs H Q => ∃ i, xs = [.int i] ∧ Q (.int (if i < 0 then -i else i)) H
theorem cr_abs {X : Cx} : CallR X (.builtin "abs") rAbs := call_abs
def rListOf (K : PySem.W.Frag) : List V → Hp → VK → Prop := fun xs H Q => ∃ p ys, xs = [.ref p] ∧ (SqL K H p ys ∨ SqT K H p ys) ∧ ∀ l, H l = none → Q (.ref l) (upd H l (.lst ys))
theorem cr_listOf {X : Cx} : CallR X (.type "list") (rListOf X.K) := call_list_of
def rTupOf (K : PySem.W.Frag) : List V → Hp → VK → Prop := fun xs H Q => ∃ p ys, xs = [.ref p] ∧ ((SqL K H p ys ∧ ∀ l, H l = none → Q (.ref l) (upd H l (.tup ys))) ∨ (SqT K H p ys ∧ Q (.ref p) H))
theorem cr_tupOf {X : Cx} : CallR X (.type "tuple") (rTupOf X.K) := call_tuple_of
section
variable {K : PySem.W.Frag} {D : Ends} {σ : L2.St} {H : Hp} {Q : VK}
theorem r_seq {t u : TS} (h : t { D with nx := u D } σ H) : tSeq t u D σ H := h
theorem r_asg {te : TE} {g : TG} (h : te σ H fun x H1 => g x σ H1 D.nx) : tAsg te g D σ H := h
theorem r_gname {i : Nat} {v : V} {N : L2.St → Hp → Prop} (h : N (σ.set i (some v)) H) : gName i v σ H N := h
theorem r_var {i : Nat} {v : V} (e : σ[i]? = some (some v)) (h : Q v H) : tVar i σ H Q := ⟨v, e, h⟩
theorem r_c {v : V} (h : Q v H) : tC v σ H Q := h
theorem r_op {r : R2} {ta tb : TE} (h : ta σ H fun x H1 => tb σ H1 fun y H2 => r x y H2 Q) : tOp r ta tb σ H Q := h
theorem r_i0 {g : Int → Int → V} {i j : Int} (h : Q (g i j) H) : rI0 g (.int i) (.int j) H Q := ⟨i, j, rfl, rfl, h⟩
theorem r_i {C : Int → Int → Prop} {g : Int → Int → V} {i j : Int} (c : C i j) (h : Q (g i j) H) : rI C g (.int i) (.int j) H Q := ⟨i, j, rfl, rfl, c, h⟩
theorem r_ixl {p : Addr} {xs : List V} {i : Int} {v : V} (h : SqL K H p xs) (e : atI xs i = some v) (q : Q v H) : rIxL K (.ref p) (.int i) H Q := ⟨p, xs, i, v, rfl, rfl, h, e, q⟩
theorem r_ixt {p : Addr} {xs : List V} {i : Int} {v : V} (h : SqT K H p xs) (e : atI xs i = some v) (q : Q v H) : rIxT K (.ref p) (.int i) H Q := ⟨p, xs, i, v, rfl, rfl, h, e, q⟩
theorem r_cb {r : List V → Hp → VK → Prop} {t : TA} (h : t σ H fun vs H1 => r vs H1 Q) : tCB r t σ H Q := h
theorem r_cons {ta : TE} {tr : TA} {R : List V → Hp → Prop} (h : ta σ H fun x H1 => tr σ H1 fun xs H2 => R (x :: xs) H2) : tCons ta tr σ H R := h
theorem r_nil {R : List V → Hp → Prop} (h : R [] H) : tNil σ H R := h
theorem r_len {p : Addr} {ys : List V} (h : SqL K H p ys) (q : Q (.int ys.length) H) : rLen K [.ref p] H Q := ⟨p, ys, rfl, .inl h, q⟩
theorem r_lent {p : Addr} {ys : List V} (h : SqT K H p ys) (q : Q (.int ys.length) H) : rLen K [.ref p] H Q := ⟨p, ys, rfl, .inr h, q⟩
theorem r_abs {i : Int} (q : Q (.int (if i < 0 then -i else i)) H) : rAbs [.int i] H Q := ⟨i, rfl, q⟩
theorem r_listl {p : Addr} {ys : List V} (h : SqL K H p ys) (q : ∀ l, H l = none → Q (.ref l) (upd H l (.lst ys))) : rListOf K [.ref p] H Q := ⟨p, ys, rfl, .inl h, q⟩
theorem r_listt {p : Addr} {ys : List V} (h : SqT K H p ys) (q : ∀ l, H l = none → Q (.ref l) (upd H l (.lst ys))) : rListOf K [.ref p] H Q := ⟨p, ys, rfl, .inr h, q⟩
theorem r_tupl {p : Addr} {ys : List V} (h : SqL K H p ys) (q : ∀ l, H l = none → Q (.ref l) (upd H l (.tup ys))) : rTupOf K [.ref p] H Q := ⟨p, ys, rfl, .inl ⟨h, q⟩⟩
theorem r_tupt {p : Addr} {ys : List V} (h : SqT K H p ys) (q : Q (.ref p) H) : rTupOf K [.ref p] H Q := ⟨p, ys, rfl, .inr ⟨h, q⟩⟩
theorem r_if {c : TT} {t u : TS} (h : c σ H fun b H1 => if b = true then t D σ H1 else u D σ H1) : tIfS c t u D σ H := h
theorem r_ife {c : TT} {t u : TE} (h : c σ H fun b H1 => if b = true then t σ H1 Q else u σ H1 Q) : tIf c t u σ H Q := h
theorem r_test {te : TE} {R : Bool → Hp → Prop} (h : te σ H fun x H' => ∃ k, x = .bl k ∧ R k H') : tTest te σ H R := h
theorem r_bl {b : Bool} {R : Bool → Prop} (h : R b) : ∃ k, V.bl b = .bl k ∧ R k := ⟨b, rfl, h⟩
theorem r_ite {p : Prop} {inst : Decidable p} {A B : Prop} (h1 : p → A) (h2 : ¬p → B) : if decide p = true then A else B := by
  by_cases h : p
  · rw [if_pos (decide_eq_true h)]; exact h1 h
  · rw [if_neg (by simpa using h)]; exact h2 h
theorem r_tand {t u : TT} {R : Bool → Hp → Prop} (h : t σ H fun c H1 => if c = true then u σ H1 R else R false H1) : tAnd t u σ H R := h
theorem r_tor {t u : TT} {R : Bool → Hp → Prop} (h : t σ H fun c H1 => if c = true then R true H1 else u σ H1 R) : tOr t u σ H R := h
theorem r_tnot {t : TT} {R : Bool → Hp → Prop} (h : t σ H fun c H1 => R (!c) H1) : tNot t σ H R := h
theorem r_andv {ta tb : TE} (h : ta σ H fun x H1 => ∃ c, x = .bl c ∧ if c = true then tb σ H1 Q else Q (.bl false) H1) : tAndV ta tb σ H Q := h
theorem r_orv {ta tb : TE} (h : ta σ H fun x H1 => ∃ c, x = .bl c ∧ if c = true then Q (.bl true) H1 else tb σ H1 Q) : tOrV ta tb σ H Q := h
theorem r_notv {ta : TE} (h : ta σ H fun x H1 => ∃ c, x = .bl c ∧ Q (.bl (!c)) H1) : tNotV ta σ H Q := h
theorem r_chain {r r' : R2} {ta tb tc : TE} (h : ta σ H fun x H1 => tb σ H1 fun y H2 => r x y H2 fun z H3 => ∃ k, z = .bl k ∧ (if k = true then tc σ H3 fun w' H4 => r' y w' H4 Q else Q (.bl false) H3)) : tChain r r' ta tb tc σ H Q := h
theorem r_t {A B : Prop} (h : A) : if true = true then A else B := by rw [if_pos rfl]; exact h
theorem r_f {A B : Prop} (h : B) : if false = true then A else B := by rw [if_neg (by decide)]; exact h
theorem r_nt {A B : Prop} (h : B) : if (!true) = true then A else B := by rw [if_neg (by decide)]; exact h
theorem r_nf {A B : Prop} (h : A) : if (!false) = true then A else B := by rw [if_pos (by decide)]; exact h
theorem r_bm {T : String} {r : V → List V → Hp → VK → Prop} {to : TE} {t : TA} (h : to σ H fun x H1 => tyV K T x H1 ∧ t σ H1 fun xs H2 => r x xs H2 Q) : tBM K T r to t σ H Q := h
theorem r_sl {r : V → Option Int → Option Int → Hp → VK → Prop} {te : TE} {tl th : TO} (h : te σ H fun x H1 => tl σ H1 fun l H2 => th σ H2 fun u H3 => r x l u H3 Q) : tSl r te tl th σ H Q := h
theorem r_sll {a : Addr} {xs : List V} {lo hi : Option Int} (h : SqL K H a xs) (q : ∀ p, H p = none → Q (.ref p) (upd H p (.lst (cutV xs lo hi)))) : rSlL K (.ref a) lo hi H Q := ⟨a, xs, rfl, h, q⟩
theorem r_nopart {R : Option Int → Hp → Prop} (h : R none H) : tNoPart σ H R := h
theorem r_part {te : TE} {R : Option Int → Hp → Prop} (h : te σ H fun x H1 => ∃ i, x = .int i ∧ R (some i) H1) : tPart te σ H R := h
theorem r_parti {i : Int} {R : Int → Prop} (h : R i) : ∃ j, V.int i = .int j ∧ R j := ⟨i, rfl, h⟩
theorem r_yes {R : Bool → Hp → Prop} (h : R true H) : tYes σ H R := h
theorem r_sz {xs : List V} {B : Prop} (e : Nat.ble xs.length 1000 = true) (h : B) : xs.length ≤ sizeLine ∧ B := ⟨Nat.le_trans (Nat.le_of_ble_eq_true e) (by decide), h⟩
theorem r_iteB {b : Bool} {A B : Prop} (h1 : b = true → A) (h2 : b = false → B) : if b = true then A else B := by
  cases b with
  | true => rw [if_pos rfl]; exact h1 rfl
  | false => rw [if_neg (by decide)]; exact h2 rfl
theorem r_tb {t : TE} {R : Bool → Hp → Prop} (h : t σ H fun x H1 => ∃ c, x = .bl c ∧ R c H1) : tB t σ H R := h
theorem r_un {r : V → Hp → VK → Prop} {ta : TE} (h : ta σ H fun x H1 => r x H1 Q) : tUn r ta σ H Q := h
theorem r_u {g : Int → V} {i : Int} (h : Q (g i) H) : rU g (.int i) H Q := ⟨i, rfl, h⟩
theorem r_ret {te : TE} (h : te σ H D.rt) : tRet te D σ H := h
theorem r_gsub {to ti : TE} {t : TSet} {v : V} {N : L2.St → Hp → Prop} (h : to σ H fun o H1 => ti σ H1 fun i H2 => t o i v H2 fun H3 => N σ H3) : gSub to ti t v σ H N := h
theorem r_setl {p : Addr} {xs : List V} {k : Int} {j : Nat} {v : V} {R : Hp → Prop} (h : H p = some (.lst xs)) (e : ixN xs.length k = some j) (q : R (upd H p (.lst (xs.set j v)))) : rSetL (.ref p) (.int k) v H R := ⟨p, xs, k, j, rfl, rfl, h, e, q⟩
theorem r_next (h : D.nx σ H) : tNext D σ H := h
theorem r_call {sp : Sp} {dvs : List V} {E : XK} {t : TA} (h : t σ H fun vs H1 => sp (vs ++ dvs) H1 Q E) : tCall sp dvs E t σ H Q := h
theorem r_lst {t : TA} (h : t σ H fun xs H1 => xs.length ≤ sizeLine ∧ ∀ p, H1 p = none → Q (.ref p) (upd H1 p (.lst xs))) : tLst t σ H Q := h
theorem r_tup {t : TA} (h : t σ H fun xs H1 => xs.length ≤ sizeLine ∧ ∀ p, H1 p = none → Q (.ref p) (upd H1 p (.tup xs))) : tTup t σ H Q := h
theorem r_drop {te : TE} (h : te σ H fun _ H1 => D.nx σ H1) : tDrop te D σ H := h
theorem r_eq {x y : V} (s : scal x y = true) (q : Q (.bl (decide (x = y))) H) : rEq x y H Q := ⟨s, q⟩
theorem r_ne {x y : V} (s : scal x y = true) (q : Q (.bl (!decide (x = y))) H) : rNe x y H Q := ⟨s, q⟩
theorem hl_new {H : Hp} {a b : Addr} {o u : HO} (h : H a = some o) (n : H b = none) : upd H b u a = some o := (upd_ne (ne_of_none h n)).trans h
theorem hl_set {H : Hp} {a b : Addr} {o u : HO} (n : a ≠ b) (h : H a = some o) : upd H b u a = some o := (upd_ne n).trans h
end

/-! ### what stands at an address, over the heaps -/
def Kp (S : List Addr) (H H' : Hp) : Prop := ∀ b o, H b = some o → b ∉ S → H' b = some o
theorem Kp.refl {S : List Addr} {H : Hp} : Kp S H H := fun _ _ h _ => h
theorem Kp.trans {S : List Addr} {H H1 H2 : Hp} (a : Kp S H H1) (b : Kp S H1 H2) : Kp S H H2 := fun x o h n => b x o (a x o h n) n
theorem Kp.new {S : List Addr} {H : Hp} {p : Addr} {x : HO} (n : H p = none) : Kp S H (upd H p x) := fun b o h _ => hl_new h n
theorem Kp.set {S : List Addr} {H : Hp} {p : Addr} {x : HO} (m : p ∈ S) : Kp S H (upd H p x) := fun b o h n => hl_set (fun e => n (e ▸ m)) h
/-- a thing made since H is changed -/
theorem Kp.own {S : List Addr} {H H1 : Hp} {p : Addr} {x : HO} (k : Kp S H H1) (n : H p = none) : Kp S H (upd H1 p x) := fun b o h m => hl_set (ne_of_none h n) (k b o h m)
theorem Kp.sub {S S' : List Addr} {H H' : Hp} (k : Kp S H H') (m : ∀ a ∈ S, a ∈ S') : Kp S' H H' := fun b o h n => k b o h fun z => n (m b z)
theorem Kp.ofSame {S : List Addr} {H H' : Hp} (k : Same H H') : Kp S H H' := fun b o h _ => k b o h
theorem Kp.nil {H H' : Hp} (k : Kp [] H H') : Same H H' := fun b o h => k b o h (by simp)
theorem Kp.free {S : List Addr} {H H' : Hp} (k : Kp S H H') {p : Addr} (n : H' p = none) (m : p ∉ S) : H p = none := by
  cases q : H p with
  | none => rfl
  | some o => rw [k p o q m] at n; cases n
theorem Same.upd_new {H : Hp} {p : Addr} {x : HO} (n : H p = none) : Same H (upd H p x) := fun b o h => hl_new h n
theorem hl_kp {S : List Addr} {H H' : Hp} {a : Addr} {o : HO} (k : Kp S H H') (n : a ∉ S) (h : H a = some o) : H' a = some o := k _ _ h n
theorem hl_same {H H' : Hp} {a : Addr} {o : HO} (k : Same H H') (h : H a = some o) : H' a = some o := k _ _ h
/-- every object outside S stands, outside S' -/
def Lft (S : List Addr) (H : Hp) (S' : List Addr) (H' : Hp) : Prop := ∀ a o, H a = some o → a ∉ S → H' a = some o ∧ a ∉ S'
theorem Lft.refl {S : List Addr} {H : Hp} : Lft S H S H := fun _ _ h n => ⟨h, n⟩
theorem Lft.trans {S S1 S2 : List Addr} {H H1 H2 : Hp} (a : Lft S H S1 H1) (b : Lft S1 H1 S2 H2) : Lft S H S2 H2 := fun x o h n => b x o (a x o h n).1 (a x o h n).2
theorem Lft.new {S : List Addr} {H : Hp} {p : Addr} {x : HO} (n : H p = none) : Lft S H S (upd H p x) := fun _ _ h m => ⟨hl_new h n, m⟩
theorem Lft.set {S : List Addr} {H : Hp} {p : Addr} {x : HO} (m : p ∈ S) : Lft S H S (upd H p x) := fun _ _ h n => ⟨hl_set (fun e => n (e ▸ m)) h, n⟩
theorem Lft.kp {S S1 : List Addr} {H H1 : Hp} (k : Kp S H H1) (m : ∀ a ∈ S, a ∈ S1) : Lft S1 H S1 H1 := fun b o h n => ⟨k b o h fun z => n (m b z), n⟩
theorem Lft.same {S : List Addr} {H H1 : Hp} (k : Same H H1) : Lft S H S H1 := fun b o h n => ⟨k b o h, n⟩
theorem Lft.own {S : List Addr} {H : Hp} {p : Addr} {x : HO} (n : H p = none) : Lft S H (p :: S) (upd H p x) := fun a _ h m => ⟨hl_new h n, fun z => by
  rcases List.mem_cons.mp z with e | e
  · exact ne_of_none h n e
  · exact m e⟩
theorem Lft.sub {S S' : List Addr} {H : Hp} (m : ∀ a ∈ S', a ∈ S) : Lft S H S' H := fun a _ h n => ⟨h, fun z => n (m a z)⟩
/-- plain data -/
inductive O where
  | non | bl (b : Bool) | int (i : Int) | str (x : Str) | tup (os : List O) | lst (os : List O) | dct
mutual
inductive Rep (S : List Addr) (H : Hp) : V → O → Prop
  | non : Rep S H .non .non
  | bl (b : Bool) : Rep S H (.bl b) (.bl b)
  | int (i : Int) : Rep S H (.int i) (.int i)
  | str (x : Str) : Rep S H (.str x) (.str x)
  | tup {a : Addr} {xs : List V} {os : List O} : H a = some (.tup xs) → a ∉ S → RepAll S H xs os → Rep S H (.ref a) (.tup os)
  | lst {a : Addr} {xs : List V} {os : List O} : H a = some (.lst xs) → a ∉ S → RepAll S H xs os → Rep S H (.ref a) (.lst os)
  | dct {a : Addr} {kvs : List (Key × V)} : H a = some (.dK kvs) → a ∉ S → Rep S H (.ref a) .dct
inductive RepAll (S : List Addr) (H : Hp) : List V → List O → Prop
  | nil : RepAll S H [] []
  | cons {v : V} {vs : List V} {o : O} {os : List O} : Rep S H v o → RepAll S H vs os → RepAll S H (v :: vs) (o :: os)
end
mutual
theorem Rep.to {S S' : List Addr} {H H' : Hp} (k : Lft S H S' H') : ∀ {v : V} {o : O}, Rep S H v o → Rep S' H' v o
  | _, _, .non => .non
  | _, _, .bl b => .bl b
  | _, _, .int i => .int i
  | _, _, .str x => .str x
  | _, _, .tup h n r => .tup (k _ _ h n).1 (k _ _ h n).2 (RepAll.to k r)
  | _, _, .lst h n r => .lst (k _ _ h n).1 (k _ _ h n).2 (RepAll.to k r)
  | _, _, .dct h n => .dct (k _ _ h n).1 (k _ _ h n).2
theorem RepAll.to {S S' : List Addr} {H H' : Hp} (k : Lft S H S' H') : ∀ {vs : List V} {os : List O}, RepAll S H vs os → RepAll S' H' vs os
  | _, _, .nil => .nil
  | _, _, .cons r t => .cons (Rep.to k r) (RepAll.to k t)
end
section
variable {S : List Addr} {H : Hp}
theorem RepAll.length : ∀ {vs : List V} {os : List O}, RepAll S H vs os → vs.length = os.length
  | _, _, .nil => rfl
  | _, _, .cons _ t => congrArg (· + 1) (RepAll.length t)
theorem RepAll.get : ∀ {vs : List V} {os : List O} {i : Nat} {v : V}, RepAll S H vs os → vs[i]? = some v → ∃ o, os[i]? = some o ∧ Rep S H v o
  | _, _, _, _, .nil, e => by simp at e
  | _, _, 0, _, .cons r _, e => by simp at e; subst e; exact ⟨_, rfl, r⟩
  | _, _, i + 1, v, .cons _ t, e => by
    obtain ⟨o, h1, h2⟩ := RepAll.get (i := i) (v := v) t (by simpa using e)
    exact ⟨o, by simpa using h1, h2⟩
theorem RepAll.append : ∀ {vs us : List V} {os qs : List O}, RepAll S H vs os → RepAll S H us qs → RepAll S H (vs ++ us) (os ++ qs)
  | _, _, _, _, .nil, s => s
  | _, _, _, _, .cons r t, s => .cons r (RepAll.append t s)
theorem RepAll.take : ∀ {vs : List V} {os : List O} (n : Nat), RepAll S H vs os → RepAll S H (vs.take n) (os.take n)
  | _, _, 0, _ => .nil
  | _, _, _ + 1, .nil => .nil
  | _, _, n + 1, .cons r t => .cons r (RepAll.take n t)
theorem RepAll.drop : ∀ {vs : List V} {os : List O} (n : Nat), RepAll S H vs os → RepAll S H (vs.drop n) (os.drop n)
  | _, _, 0, r => r
  | _, _, _ + 1, .nil => .nil
  | _, _, n + 1, .cons _ t => RepAll.drop n t
theorem RepAll.ints : ∀ (ns : List Int), RepAll S H (ns.map V.int) (ns.map O.int)
  | [] => .nil
  | n :: ns => .cons (.int n) (RepAll.ints ns)
theorem RepAll.ints_inv : ∀ {ns : List Int} {vs : List V}, RepAll S H vs (ns.map O.int) → vs = ns.map V.int
  | [], _, .nil => rfl
  | n :: ns, _, .cons r t => by cases r; rw [RepAll.ints_inv t]; rfl
theorem Rep.tupInv {v : V} {os : List O} (r : Rep S H v (.tup os)) : ∃ a xs, v = .ref a ∧ H a = some (.tup xs) ∧ a ∉ S ∧ RepAll S H xs os := by
  cases r with
  | tup h n t => exact ⟨_, _, rfl, h, n, t⟩
end
/-! ### the drawn state -/
structure StAt (s c : Addr) (H : Hp) (cs : List Int) (j r : Int) : Prop where
  hs : H s = some (.lst [.ref c, .int j, .int r])
  hc : H c = some (.lst (cs.map .int))
  ne : cs ≠ []
  nn : ∀ x ∈ cs, 0 ≤ x
  len : cs.length ≤ 1000
  hj : 0 ≤ j
  hr : 0 ≤ r
  hr' : r < 2147483647
def St (s c : Addr) (H : Hp) : Prop := s ≠ c ∧ ∃ cs j r, StAt s c H cs j r
theorem St.out {s c p : Addr} {H : Hp} (h : St s c H) (n : H p = none) : p ∉ [s, c] := by
  obtain ⟨_, cs, j, r, h⟩ := h
  intro z
  rcases List.mem_cons.mp z with e | z
  · rw [e, h.hs] at n; cases n
  · rw [List.mem_singleton.mp z, h.hc] at n; cases n
theorem St.same {s c : Addr} {H H' : Hp} (h : St s c H) (k : Same H H') : St s c H' := by
  obtain ⟨n, cs, j, r, h⟩ := h
  exact ⟨n, cs, j, r, k _ _ h.hs, k _ _ h.hc, h.ne, h.nn, h.len, h.hj, h.hr, h.hr'⟩
theorem St.new {s c p : Addr} {H : Hp} {x : HO} (h : St s c H) (n : H p = none) : St s c (upd H p x) := h.same (Same.upd_new n)
theorem St.set {s c p : Addr} {H : Hp} {x : HO} (h : St s c H) (n : p ∉ [s, c]) : St s c (upd H p x) := by
  obtain ⟨n0, cs, j, r, h⟩ := h
  exact ⟨n0, cs, j, r, hl_set (fun e => n (by simp [e])) h.hs, hl_set (fun e => n (by simp [e])) h.hc, h.ne, h.nn, h.len, h.hj, h.hr, h.hr'⟩
/-! ### loops and comprehensions -/
section
variable {K : PySem.W.Frag} {D : Ends} {σ : L2.St} {H : Hp} {Q : VK}
def Lp (J : It) (g : TG) (tb : TS) (D : Ends) (σ : L2.St) (H1 : Hp) : Prop := ∃ W : Nat → Nat → L2.St → Hp → Prop, (∃ m, W 0 m σ H1) ∧ ∀ i m σ H, W i m σ H →
  (J.stop i H ∧ D.nx σ H) ∨ (J.go i H ∧ ∃ N : L2.St → Hp → Prop, (∀ σ' H', N σ' H' → ∃ m', m' < m ∧ W (i + 1) m' σ' H') ∧ ∀ x H', J.yld i H x H' → g x σ H' fun σ2 H2 => tb { D with nx := N, ct := N, bk := D.nx } σ2 H2)
theorem r_for {wi : TI} {g : TG} {tb : TS} (h : wi σ H fun J H1 => Lp J g tb D σ H1) : tFor wi g tb D σ H := h
def Rg1 (R : It → Hp → Prop) (vs : List V) (H : Hp) : Prop := ∃ j : Int, vs = [.int j] ∧ -(2 ^ 62) ≤ j ∧ j < 2 ^ 62 ∧ R (Itr 0 j.toNat) H
theorem r_irng1 {ta : TA} {R : It → Hp → Prop} (h : ta σ H (Rg1 R)) : iRng1 ta σ H R := h
theorem r_rg1 {R : It → Hp → Prop} {j : Int} (c : -(2 ^ 62) ≤ j ∧ j < 2 ^ 62) (h : R (Itr 0 j.toNat) H) : Rg1 R [.int j] H := ⟨j, rfl, c.1, c.2, h⟩
def Rg2 (R : It → Hp → Prop) (vs : List V) (H : Hp) : Prop := ∃ i j : Int, vs = [.int i, .int j] ∧ (-(2 ^ 62) ≤ i ∧ i < 2 ^ 62 ∧ -(2 ^ 62) ≤ j ∧ j < 2 ^ 62) ∧ R (Itr i (j - i).toNat) H
theorem r_irng2 {ta : TA} {R : It → Hp → Prop} (h : ta σ H (Rg2 R)) : iRng2 ta σ H R := h
theorem r_rg2 {R : It → Hp → Prop} {i j : Int} (c : -(2 ^ 62) ≤ i ∧ i < 2 ^ 62 ∧ -(2 ^ 62) ≤ j ∧ j < 2 ^ 62) (h : R (Itr i (j - i).toNat) H) : Rg2 R [.int i, .int j] H := ⟨i, j, rfl, c, h⟩
def IlR (K : PySem.W.Frag) (R : It → Hp → Prop) (x : V) (H : Hp) : Prop := ∃ a, x = .ref a ∧ (∃ xs, SqL K H a xs) ∧ R (Itl K a) H
theorem r_ilist {tl : TE} {R : It → Hp → Prop} (h : tl σ H (IlR K R)) : iList K tl σ H R := h
theorem r_il {R : It → Hp → Prop} {a : Addr} {xs : List V} (e : SqL K H a xs) (h : R (Itl K a) H) : IlR K R (.ref a) H := ⟨a, rfl, ⟨xs, e⟩, h⟩
def ItR (K : PySem.W.Frag) (R : It → Hp → Prop) (x : V) (H : Hp) : Prop := ∃ a, x = .ref a ∧ (∃ xs, SqT K H a xs) ∧ R (Itt K a) H
theorem r_itup {tl : TE} {R : It → Hp → Prop} (h : tl σ H (ItR K R)) : iTup K tl σ H R := h
theorem r_it {R : It → Hp → Prop} {a : Addr} {xs : List V} (e : SqT K H a xs) (h : R (Itt K a) H) : ItR K R (.ref a) H := ⟨a, rfl, ⟨xs, e⟩, h⟩
def IzR (K : PySem.W.Frag) (R : It → Hp → Prop) (vs : List V) (H1 : Hp) : Prop := ∃ a b xs ys, vs = [.ref a, .ref b] ∧ ((SqL K H1 a xs ∧ SqL K H1 b ys ∧ R (Itz K a b) H1) ∨ (SqT K H1 a xs ∧ SqT K H1 b ys ∧ R (ItzT K a b) H1))
theorem r_izip {ta : TA} {R : It → Hp → Prop} (h : ta σ H (IzR K R)) : iZipA K ta σ H R := h
theorem r_izt {R : It → Hp → Prop} {a b : Addr} {xs ys : List V} (e1 : SqT K H a xs) (e2 : SqT K H b ys) (h : R (ItzT K a b) H) : IzR K R [.ref a, .ref b] H := ⟨a, b, xs, ys, rfl, .inr ⟨e1, e2, h⟩⟩
theorem lp_by {J : It} {n : Nat} {G : Hp → Prop} {Y : Nat → Hp → V → Hp → Prop} (w : Walk J n G Y) {g : TG} {tb : TS} (Pv : Nat → L2.St → Hp → Prop) (h0 : Pv 0 σ H) (hG : ∀ i σ H, i ≤ n → Pv i σ H → G H)
    (hs : ∀ i x σ H H', i < n → Pv i σ H → Y i H x H' → g x σ H' fun σ2 H2 => tb { D with nx := Pv (i + 1), ct := Pv (i + 1), bk := D.nx } σ2 H2) (hd : ∀ σ H, Pv n σ H → D.nx σ H) : Lp J g tb D σ H := for_it w Pv h0 hG hs hd
/-- ways that meet: what holds of slots and heap where they do -/
theorem r_join {c : TT} {t u : TS} (G : L2.St → Hp → Prop) (h2 : ∀ σ' H', G σ' H' → D.nx σ' H') (h1 : ∀ N : L2.St → Hp → Prop, (∀ σ' H', G σ' H' → N σ' H') → tIfS c t u { D with nx := N } σ H) : tIfS c t u D σ H := h1 D.nx h2
theorem r_joinE {te : TE} (G : V → Hp → Prop) (h2 : ∀ v H', G v H' → Q v H') (h1 : ∀ Q' : VK, (∀ v H', G v H' → Q' v H') → te σ H Q') : te σ H Q := h1 Q h2
theorem r_joinT {te : TT} {R : Bool → Hp → Prop} (G : Bool → Hp → Prop) (h2 : ∀ v H', G v H' → R v H') (h1 : ∀ R' : Bool → Hp → Prop, (∀ v H', G v H' → R' v H') → te σ H R') : te σ H R := h1 R h2
theorem walk_zipT {a b : Addr} {xs ys : List V} {n : Nat} (hn : n = min xs.length ys.length) : Walk (ItzT K a b) n (fun H => SqT K H a xs ∧ SqT K H b ys) (YPair (fun i => xs[i]?) (fun i => ys[i]?)) where
  goes := fun i H hi h => ⟨xs, ys, xs[i]'(by omega), ys[i]'(by omega), h.1, h.2, List.getElem?_eq_getElem (by omega), List.getElem?_eq_getElem (by omega)⟩
  stops := fun H h => ⟨xs, ys, h.1, h.2, by omega⟩
  yields := fun i H x H' _ h y => by
    obtain ⟨T, x1, y1, e1, e2, e3, e4, e5⟩ := y
    exact ⟨T, x1, y1, e1, e2, e3, e4 xs h.1, e5 ys h.2⟩
/-- a comprehension's turns -/
def Lc (J : It) (g : TG) (tt : TT) (te : TE) (vs : List Nat) (σ : L2.St) (D : Addr) (Q : VK) (H1 : Hp) : Prop := ∃ W : Nat → Nat → Hp → Prop, (∃ m, W 0 m (upd H1 D (.lst []))) ∧ ∀ i m H, W i m H →
  (J.stop i H ∧ Q (.ref D) H) ∨ (J.go i H ∧ ∃ Nx : Hp → Prop, (∀ H', Nx H' → ∃ m', m' < m ∧ W (i + 1) m' H') ∧ ∀ x H', J.yld i H x H' → g x (wipe σ vs) H' fun σ2 H2 => wipe σ2 vs = wipe σ vs ∧ tt σ2 H2 fun b H3 =>
    if b = true then te σ2 H3 fun y H4 => ∃ acc, H4 D = some (.lst acc) ∧ acc.length < sizeLine ∧ Nx (upd H4 D (.lst (acc ++ [y]))) else Nx H3)
theorem r_lc {wi : TI} {g : TG} {tt : TT} {te : TE} {vs : List Nat} (h : wi σ H fun J H1 => ∀ D, H1 D = none → Lc J g tt te vs σ D Q H1) : tLc wi g tt te vs σ H Q := h
/-- what an item's part of a turn is to reach: kept with a value, or not kept -/
def LcT (g : TG) (tt : TT) (te : TE) (vs : List Nat) (σ : L2.St) (x : V) (H : Hp) (Y : V → Hp → Prop) (No : Hp → Prop) : Prop :=
  g x (wipe σ vs) H fun σ2 H2 => wipe σ2 vs = wipe σ vs ∧ tt σ2 H2 fun b H3 => if b = true then te σ2 H3 Y else No H3
/-- the list is made of the values kept: R i says what the i-th turn's part is -/
theorem lc_by {J : It} {n : Nat} {G : Hp → Prop} {Yd : Nat → Hp → V → Hp → Prop} (w : Walk J n G Yd) {g : TG} {tt : TT} {te : TE} {vs : List Nat} {D : Addr} (Pv : Nat → Hp → Prop) (h0 : Pv 0 (upd H D (.lst []))) (hG : ∀ i H, i ≤ n → Pv i H → G H)
    (hs : ∀ i x H H', i < n → Pv i H → Yd i H x H' → LcT g tt te vs σ x H' (fun y H4 => ∃ acc, H4 D = some (.lst acc) ∧ acc.length < sizeLine ∧ Pv (i + 1) (upd H4 D (.lst (acc ++ [y])))) (fun H3 => Pv (i + 1) H3)) (hd : ∀ H, Pv n H → Q (.ref D) H) : Lc J g tt te vs σ D Q H := by
  refine ⟨fun i m H => m = n - i ∧ i ≤ n ∧ Pv i H, ⟨n, by simp, Nat.zero_le _, h0⟩, ?_⟩
  rintro i m H ⟨rfl, hi, p⟩
  by_cases hlt : i < n
  · exact .inr ⟨w.goes i H hlt (hG i H hi p), Pv (i + 1), fun H' p' => ⟨n - (i + 1), by omega, rfl, hlt, p'⟩, fun x H' y => hs i x H H' hlt p (w.yields i H x H' hlt (hG i H hi p) y)⟩
  · have e : i = n := by omega
    subst e
    exact .inl ⟨w.stops H (hG _ H hi p), hd H p⟩
/-- every item is kept; its value is told by R, which new objects leave true; the source is left as it is -/
theorem lc_map {J : It} {n : Nat} {G : Hp → Prop} {Yd : Nat → Hp → V → Hp → Prop} (w : Walk J n G Yd) (hn : n ≤ 1000000) {g : TG} {tt : TT} {te : TE} {vs : List Nat} {D : Addr} (nD : H D = none) (R : Nat → V → Hp → Prop) (hR : ∀ i v H H', R i v H → Same H H' → R i v H')
    (hRD : ∀ i v H' acc acc', R i v H' → H' D = some (.lst acc) → R i v (upd H' D (.lst acc'))) (hG : ∀ H', Same H H' → G H') (hY : ∀ i H1 x H2, Yd i H1 x H2 → Same H1 H2)
    (hs : ∀ i x H1 H2 (Y : V → Hp → Prop) (No : Hp → Prop), i < n → Same H H1 → Yd i H1 x H2 → (∀ y H4, Same H2 H4 → R i y H4 → Y y H4) → LcT g tt te vs σ x H2 Y No)
    (hd : ∀ ys H', ys.length = n → Same H H' → H' D = some (.lst ys) → (∀ i y, ys[i]? = some y → R i y H') → Q (.ref D) H') : Lc J g tt te vs σ D Q H := by
  refine lc_by w (fun i H' => Same H H' ∧ ∃ ys : List V, ys.length = i ∧ H' D = some (.lst ys) ∧ ∀ j y, ys[j]? = some y → R j y H') ⟨Same.upd_new nD, [], rfl, upd_same, fun j y e => by simp at e⟩ (fun i H' _ p => hG H' p.1) (fun i x H1 H2 hi p y => ?_) (fun H' p => ?_)
  · obtain ⟨sm, ys, el, eD, hr⟩ := p
    have s2 := hY _ _ _ _ y
    refine hs i x H1 H2 _ _ hi sm y (fun v H4 q1 q2 => ?_)
    have s4 : Same H1 H4 := s2.trans q1
    have e4 : H4 D = some (.lst ys) := s4 _ _ eD
    refine ⟨ys, e4, by rw [el]; exact Nat.lt_of_lt_of_le (Nat.lt_of_lt_of_le hi hn) (by decide), fun b o e => ?_, ys ++ [v], by simp [el], upd_same, fun j y' e => ?_⟩
    · exact hl_set (ne_of_none e nD) (s4 _ _ (sm _ _ e))
    · by_cases hj : j < ys.length
      · rw [List.getElem?_append_left hj] at e
        exact hRD _ _ _ _ _ (hR _ _ _ _ (hr j y' e) s4) e4
      · rw [List.getElem?_append_right (by omega)] at e
        have hj2 : j - ys.length = 0 := by
          cases h : j - ys.length with
          | zero => rfl
          | succ m => rw [h] at e; simp at e
        rw [hj2] at e
        simp at e
        subst e
        have : j = i := by omega
        subst this
        exact hRD _ _ _ _ _ q2 e4
  · obtain ⟨sm, ys, el, eD, hr⟩ := p
    exact hd ys H' el sm eD hr
/-- items are kept or not: t tells which -/
theorem lc_filt {J : It} {n : Nat} {G : Hp → Prop} {Yd : Nat → Hp → V → Hp → Prop} (w : Walk J n G Yd) (hn : n ≤ 1000000) {g : TG} {tt : TT} {te : TE} {vs : List Nat} {D : Addr} (nD : H D = none) (t : Nat → Bool) (hG : ∀ H', Same H H' → G H') (hY : ∀ i H1 x H2, Yd i H1 x H2 → Same H1 H2)
    (hs : ∀ i x H1 H2 (Y : V → Hp → Prop) (No : Hp → Prop), i < n → Same H H1 → Yd i H1 x H2 → (t i = true → ∀ y H4, Same H2 H4 → Y y H4) → (t i = false → ∀ H4, Same H2 H4 → No H4) → LcT g tt te vs σ x H2 Y No)
    (hd : ∀ ys H', ys.isEmpty = (List.range n).all (fun i => !t i) → ys.length ≤ n → Same H H' → H' D = some (.lst ys) → Q (.ref D) H') : Lc J g tt te vs σ D Q H := by
  refine lc_by w (fun i H' => Same H H' ∧ ∃ ys : List V, ys.isEmpty = (List.range i).all (fun i => !t i) ∧ ys.length ≤ i ∧ H' D = some (.lst ys)) ⟨Same.upd_new nD, [], rfl, Nat.le_refl _, upd_same⟩ (fun i H' _ p => hG H' p.1) (fun i x H1 H2 hi p y => ?_) (fun H' p => ?_)
  · obtain ⟨sm, ys, ee, el, eD⟩ := p
    have s2 := hY _ _ _ _ y
    refine hs i x H1 H2 _ _ hi sm y (fun ht v H4 q => ?_) (fun ht H4 q => ?_)
    · have s4 : Same H1 H4 := s2.trans q
      refine ⟨ys, s4 _ _ eD, Nat.lt_of_le_of_lt el (Nat.lt_of_lt_of_le hi (Nat.le_trans hn (by decide))), fun b o e => hl_set (ne_of_none e nD) (s4 _ _ (sm _ _ e)), ys ++ [v], ?_, by simp; omega, upd_same⟩
      rw [List.range_succ, List.all_append, List.all_cons, ht]
      cases ys <;> simp
    · have s4 : Same H1 H4 := s2.trans q
      refine ⟨sm.trans s4, ys, ?_, by omega, s4 _ _ eD⟩
      rw [List.range_succ, List.all_append, List.all_cons, ht, ee]
      simp
  · obtain ⟨sm, ys, ee, el, eD⟩ := p
    exact hd ys H' ee el sm eD
theorem range_all {α : Type} (f : α → Bool) (d : α) : ∀ os : List α, (List.range os.length).all (fun i => f (os.getD i d)) = os.all f
  | [] => rfl
  | o :: os => by
    rw [List.length_cons, List.range_succ_eq_map, List.all_cons, List.all_map, List.all_cons, ← range_all f d os]
    rfl
end
/-! ### the rules with the written part told -/
section
variable {X : Cx} {K : PySem.W.Frag} {e l tg : Expr} {tl te : TE} {t ta : TA}
theorem ix_listK (q : X.K = K := by rfl) : IxR X (rIxL K) := q ▸ ix_list
theorem ix_tupK (q : X.K = K := by rfl) : IxR X (rIxT K) := q ▸ ix_tup
theorem pi_listK (h : PE X l tl) (q : X.K = K := by rfl) : PI X tg l (iList K tl) := q ▸ pi_list h
theorem pi_tupK (h : PE X l tl) (q : X.K = K := by rfl) : PI X tg l (iTup K tl) := q ▸ pi_tup h
theorem cr_lenK (q : X.K = K := by rfl) : CallR X (.builtin "len") (rLen K) := q ▸ cr_len
theorem cr_listOfK (q : X.K = K := by rfl) : CallR X (.type "list") (rListOf K) := q ▸ cr_listOf
theorem cr_tupOfK (q : X.K = K := by rfl) : CallR X (.type "tuple") (rTupOf K) := q ▸ cr_tupOf
theorem cr_allK (hc : X.calm = true) (q : X.K = K := by rfl) : CallR X (.builtin "all") (rAll K) := q ▸ cr_all hc
theorem cr_sumK (hc : X.calm = true) (q : X.K = K := by rfl) : CallR X (.builtin "sum") (rSum K) := q ▸ cr_sum hc
theorem cr_isiK (q : X.K = K := by rfl) : CallR X (.builtin "isinstance") (rIsi K) := q ▸ call_isi
theorem sl_listK (q : X.K = K := by rfl) : SlR X (rSlL K) := q ▸ sl_list
theorem sl_tupAK (q : X.K = K := by rfl) : SlR X (rSlA K) := q ▸ sl_tupA
theorem op_catAK (q : X.K = K := by rfl) : OpR X (binaryOp .Add) (rCatA K) := q ▸ op_catA
theorem castBM {e : Expr} {T : String} {r : V → List V → Hp → VK → Prop} {to : TE} (h : PE X e (tBM X.K T r to t)) (q : X.K = K := by rfl) : PE X e (tBM K T r to t) := q ▸ h
theorem castBM0 {e : Expr} {T : String} {r : V → List V → Hp → VK → Prop} {to : TE} (h : PE X e (tBM0 X.K T r to)) (q : X.K = K := by rfl) : PE X e (tBM0 K T r to) := q ▸ h
theorem castPI {iter : Expr} {wi : PySem.W.Frag → TI} (h : PI X tg iter (wi X.K)) (q : X.K = K := by rfl) : PI X tg iter (wi K) := q ▸ h
theorem castPG {n : Nat} {tg : Expr} {g : TGs} (h : PG X tg (gTup X.K n g)) (q : X.K = K := by rfl) : PG X tg (gTup K n g) := q ▸ h
end
/-! ### calls by keywords alone; keywords in any order -/
theorem pe_callK0 {X : Cx} {CX : CXT} {k : Nat} {f : Addr} {fd : FuncData} {ps ks : List Str} {sp : Sp} {E : XK} {x : Str} {p pos : Pos} {kws : List Keyword} {tk : TA} {g : List Value → List Value → List Value} {gV : List V → List V → List V}
    (F : FnOk X.prog X.w X.K X.mg X.base CX k f fd ps sp) (hr : Room k X.A) (hg : Gl X x) (hm : X.mg x = some (.ref f)) (hk : PySem.W.keepIn X.K (.ref f) = true) (hb : KBinds X.K fd ps ks g gV) (hx : Passes CX X E)
    (hkw : PK X kws tk) (hall : (backToKw pos (keywordEach kws X.env)).all (·.1.isSome) = true := by rfl) (hks : (backToKw pos (keywordEach kws X.env)).filterMap (·.1) = ks := by rfl)
    (hdb : (x == ("__debug__" : Str)) = false := by decide) (hpl : ((backTo pos (starEach [] X.env)).any (·.1) || (backToKw pos (keywordEach kws X.env)).any (·.1.isNone)) = false := by rfl) :
    PE X (.Call (.Name x p) [] kws pos) (tCallK sp gV E tNil tk) := by
  refine ⟨fun pins s σ H Q I h => wpAny_Call_Name_kw (ld_glob I hg hm ?_ hdb)⟩
  refine PySem.W.callWith_KW0 (h₀ := X.base) I.ok.mod.kin hk hall (thn (hkw.run pos pins s σ H _ I h) fun ws s2 ⟨zs, H2, I2, rz, q2⟩ => ⟨I2.kIn, ?_⟩) hpl
  rw [hks]
  exact run_fnk (us := []) F hr hb hx I2 .nil rz q2
def permV (na nb : Nat) (is : List Nat) (vs zs : List V) : List V := if vs.length = na ∧ zs.length = nb then is.map fun i => (vs ++ zs).getD i .non else []
def permU (na nb : Nat) (is : List Nat) (vs zs : List Value) : List Value := if vs.length = na ∧ zs.length = nb then is.map fun i => (vs ++ zs).getD i .none else []
theorem vals_getD : ∀ {xs : List V} {us : List Value} (i : Nat), Vals xs us → RelV (xs.getD i .non) (us.getD i .none)
  | _, _, _, .nil => rfl
  | _, _, 0, .cons r _ => r
  | _, _, i + 1, .cons _ t => by
    have := vals_getD i t
    simpa using this
theorem vals_map {xs : List V} {us : List Value} (r : Vals xs us) : ∀ is : List Nat, Vals (is.map fun i => xs.getD i .non) (is.map fun i => us.getD i .none)
  | [] => .nil
  | i :: is => .cons (vals_getD i r) (vals_map r is)
theorem kb_perm {K : PySem.W.Frag} {fd : FuncData} {ps ks : List Str} {us0 ws0 : Nat} {is : List Nat} (h0 : ps ≠ [])
    (h : ∀ (us ws : List Value), us.length = us0 → ws.length = ws0 → ∀ s : Shared, BindsTo s fd ⟨us, ks.zip ws⟩ (ps.zip (is.map fun i => (us ++ ws).getD i .none))) : KBinds K fd ps ks (permU us0 ws0 is) (permV us0 ws0 is) where
  to := fun s us ws _ hl => by
    unfold permU at hl ⊢
    by_cases c : us.length = us0 ∧ ws.length = ws0
    · rw [if_pos c]
      exact h us ws c.1 c.2 s
    · rw [if_neg c] at hl
      cases ps with
      | nil => exact absurd rfl h0
      | cons _ _ => simp at hl
  rel := fun {vs us zs ws} r1 r2 => by
    unfold permU permV
    rw [r1.length, r2.length]
    by_cases c : us.length = us0 ∧ ws.length = ws0
    · rw [if_pos c, if_pos c]
      exact vals_map (r1.append r2) is
    · rw [if_neg c, if_neg c]
      exact .nil
section
variable {K : PySem.W.Frag} {D : Ends} {σ : L2.St} {H : Hp} {Q : VK}
theorem r_callk {sp : Sp} {gV : List V → List V → List V} {E : XK} {t tk : TA} (h : t σ H fun vs H1 => tk σ H1 fun zs H2 => sp (gV vs zs) H2 Q E) : tCallK sp gV E t tk σ H Q := h
theorem r_perm {sp : Sp} {E : XK} {na nb : Nat} {is : List Nat} {vs zs : List V} (h1 : vs.length = na) (h2 : zs.length = nb) (h : sp (is.map fun i => (vs ++ zs).getD i .non) H Q E) : sp (permV na nb is vs zs) H Q E := by
  unfold permV; rw [if_pos ⟨h1, h2⟩]; exact h
end
theorem hu_of64 {A : Around} {k : Nat} (hr : Room k A) : A.units + 64 < cLine := hr.units
/-! ### against the empty list, the empty tuple -/
def rNil (K : PySem.W.Frag) (g : Bool → Bool) : R2 := fun x y H Q => ∃ a b xs, x = .ref a ∧ y = .ref b ∧ SqL K H a xs ∧ SqL K H b [] ∧ Q (.bl (g xs.isEmpty)) H
def rNilT (K : PySem.W.Frag) (g : Bool → Bool) : R2 := fun x y H Q => ∃ a b xs, x = .ref a ∧ y = .ref b ∧ SqT K H a xs ∧ SqT K H b [] ∧ Q (.bl (g xs.isEmpty)) H
theorem op_eqNil {X : Cx} (hu : X.A.units + 64 < cLine) : OpR X (compareOp .Eq) (rNil X.K id) := by
  intro pins s σ H x y v u Q I rx ry h
  obtain ⟨a, b, xs, rfl, rfl, h1, h2, q⟩ := h
  cases rx; cases ry
  obtain ⟨its, rv, p1, _⟩ := I.list h1
  obtain ⟨its2, rv2, p2, _⟩ := I.list h2
  cases rv2
  have e1 : xs.length = its.length := rv.length
  cases xs with
  | nil =>
    cases rv
    exact PySem.SeqAt.eq_listAt (e := fun _ => true) p1.isList p2.isList rfl (by omega) (fun j h => absurd h (Nat.not_lt_zero j)) ⟨.bl _, H, I, rfl, q⟩
  | cons z zs =>
    cases its with
    | nil => simp at e1
    | cons _ _ => exact PySem.SeqAt.eq_list_lengthsAt p1.isList p2.isList rfl (by omega) ⟨.bl false, H, I, rfl, q⟩
theorem op_neNil {X : Cx} (hu : X.A.units + 64 < cLine) : OpR X (compareOp .NotEq) (rNil X.K not) := by
  intro pins s σ H x y v u Q I rx ry h
  obtain ⟨a, b, xs, rfl, rfl, h1, h2, q⟩ := h
  cases rx; cases ry
  obtain ⟨its, rv, p1, _⟩ := I.list h1
  obtain ⟨its2, rv2, p2, _⟩ := I.list h2
  cases rv2
  have e1 : xs.length = its.length := rv.length
  cases xs with
  | nil =>
    cases rv
    exact PySem.SeqAt.RcNeAt.lists (e := fun _ => true) p1.isList p2.isList rfl (by omega) (fun j h => absurd h (Nat.not_lt_zero j)) _ _ _ _ ⟨.bl _, H, I, rfl, q⟩
  | cons z zs =>
    cases its with
    | nil => simp at e1
    | cons _ _ => exact PySem.SeqAt.RcNeAt.lists_lengths p1.isList p2.isList rfl (by omega) _ _ _ _ ⟨.bl true, H, I, rfl, q⟩
theorem op_eqNilT {X : Cx} (hu : X.A.units + 64 < cLine) : OpR X (compareOp .Eq) (rNilT X.K id) := by
  intro pins s σ H x y v u Q I rx ry h
  obtain ⟨a, b, xs, rfl, rfl, h1, h2, q⟩ := h
  cases rx; cases ry
  obtain ⟨its, rv, p1, _⟩ := I.tuple h1
  obtain ⟨its2, rv2, p2, _⟩ := I.tuple h2
  cases rv2
  have e1 : xs.length = its.length := rv.length
  refine PySem.SeqAt.eq_tupleAt (e := fun _ => true) (show s.heap.IsTuple a its.toArray from p1) (show s.heap.IsTuple b #[] from p2) (by omega) (fun j _ h => absurd h (Nat.not_lt_zero j)) ⟨.bl xs.isEmpty, H, I, ?_, q⟩
  cases xs with
  | nil =>
    cases rv
    rfl
  | cons z zs =>
    cases its with
    | nil => simp at e1
    | cons _ _ => rfl
theorem op_eqNilK {X : Cx} {K : PySem.W.Frag} (hu : X.A.units + 64 < cLine) (q : X.K = K := by rfl) : OpR X (compareOp .Eq) (rNil K id) := q ▸ op_eqNil hu
theorem op_neNilK {X : Cx} {K : PySem.W.Frag} (hu : X.A.units + 64 < cLine) (q : X.K = K := by rfl) : OpR X (compareOp .NotEq) (rNil K not) := q ▸ op_neNil hu
theorem op_eqNilTK {X : Cx} {K : PySem.W.Frag} (hu : X.A.units + 64 < cLine) (q : X.K = K := by rfl) : OpR X (compareOp .Eq) (rNilT K id) := q ▸ op_eqNilT hu
section
variable {K : PySem.W.Frag} {H : Hp} {Q : VK}
theorem r_nilL {g : Bool → Bool} {a b : Addr} {xs : List V} (h1 : SqL K H a xs) (h2 : SqL K H b []) (q : Q (.bl (g xs.isEmpty)) H) : rNil K g (.ref a) (.ref b) H Q := ⟨a, b, xs, rfl, rfl, h1, h2, q⟩
theorem r_nilT {g : Bool → Bool} {a b : Addr} {xs : List V} (h1 : SqT K H a xs) (h2 : SqT K H b []) (q : Q (.bl (g xs.isEmpty)) H) : rNilT K g (.ref a) (.ref b) H Q := ⟨a, b, xs, rfl, rfl, h1, h2, q⟩
end
theorem kt_NoneType_int {K : PySem.W.Frag} : PySem.W.kitOne K (.type "NoneType") (.type "int") = some false := kit_ty (by decide +kernel)
theorem kt_bool_int {K : PySem.W.Frag} : PySem.W.kitOne K (.type "bool") (.type "int") = some true := kit_ty (by decide +kernel)
theorem kt_int_int {K : PySem.W.Frag} : PySem.W.kitOne K (.type "int") (.type "int") = some true := kit_ty (by decide +kernel)
theorem kt_str_int {K : PySem.W.Frag} : PySem.W.kitOne K (.type "str") (.type "int") = some false := kit_ty (by decide +kernel)
theorem kt_tuple_int {K : PySem.W.Frag} : PySem.W.kitOne K (.type "tuple") (.type "int") = some false := kit_ty (by decide +kernel)
theorem kt_list_int {K : PySem.W.Frag} : PySem.W.kitOne K (.type "list") (.type "int") = some false := kit_ty (by decide +kernel)
theorem kt_dict_int {K : PySem.W.Frag} : PySem.W.kitOne K (.type "dict") (.type "int") = some false := kit_ty (by decide +kernel)
theorem kt_NoneType_bool {K : PySem.W.Frag} : PySem.W.kitOne K (.type "NoneType") (.type "bool") = some false := kit_ty (by decide +kernel)
theorem kt_bool_bool {K : PySem.W.Frag} : PySem.W.kitOne K (.type "bool") (.type "bool") = some true := kit_ty (by decide +kernel)
theorem kt_int_bool {K : PySem.W.Frag} : PySem.W.kitOne K (.type "int") (.type "bool") = some false := kit_ty (by decide +kernel)
theorem kt_str_bool {K : PySem.W.Frag} : PySem.W.kitOne K (.type "str") (.type "bool") = some false := kit_ty (by decide +kernel)
theorem kt_tuple_bool {K : PySem.W.Frag} : PySem.W.kitOne K (.type "tuple") (.type "bool") = some false := kit_ty (by decide +kernel)
theorem kt_list_bool {K : PySem.W.Frag} : PySem.W.kitOne K (.type "list") (.type "bool") = some false := kit_ty (by decide +kernel)
theorem kt_dict_bool {K : PySem.W.Frag} : PySem.W.kitOne K (.type "dict") (.type "bool") = some false := kit_ty (by decide +kernel)
theorem kt_NoneType_tuple {K : PySem.W.Frag} : PySem.W.kitOne K (.type "NoneType") (.type "tuple") = some false := kit_ty (by decide +kernel)
theorem kt_bool_tuple {K : PySem.W.Frag} : PySem.W.kitOne K (.type "bool") (.type "tuple") = some false := kit_ty (by decide +kernel)
theorem kt_int_tuple {K : PySem.W.Frag} : PySem.W.kitOne K (.type "int") (.type "tuple") = some false := kit_ty (by decide +kernel)
theorem kt_str_tuple {K : PySem.W.Frag} : PySem.W.kitOne K (.type "str") (.type "tuple") = some false := kit_ty (by decide +kernel)
theorem kt_tuple_tuple {K : PySem.W.Frag} : PySem.W.kitOne K (.type "tuple") (.type "tuple") = some true := kit_ty (by decide +kernel)
theorem kt_list_tuple {K : PySem.W.Frag} : PySem.W.kitOne K (.type "list") (.type "tuple") = some false := kit_ty (by decide +kernel)
theorem kt_dict_tuple {K : PySem.W.Frag} : PySem.W.kitOne K (.type "dict") (.type "tuple") = some false := kit_ty (by decide +kernel)
theorem kt_NoneType_str {K : PySem.W.Frag} : PySem.W.kitOne K (.type "NoneType") (.type "str") = some false := kit_ty (by decide +kernel)
theorem kt_bool_str {K : PySem.W.Frag} : PySem.W.kitOne K (.type "bool") (.type "str") = some false := kit_ty (by decide +kernel)
theorem kt_int_str {K : PySem.W.Frag} : PySem.W.kitOne K (.type "int") (.type "str") = some false := kit_ty (by decide +kernel)
theorem kt_str_str {K : PySem.W.Frag} : PySem.W.kitOne K (.type "str") (.type "str") = some true := kit_ty (by decide +kernel)
theorem kt_tuple_str {K : PySem.W.Frag} : PySem.W.kitOne K (.type "tuple") (.type "str") = some false := kit_ty (by decide +kernel)
theorem kt_list_str {K : PySem.W.Frag} : PySem.W.kitOne K (.type "list") (.type "str") = some false := kit_ty (by decide +kernel)
theorem kt_dict_str {K : PySem.W.Frag} : PySem.W.kitOne K (.type "dict") (.type "str") = some false := kit_ty (by decide +kernel)
theorem kt_NoneType_list {K : PySem.W.Frag} : PySem.W.kitOne K (.type "NoneType") (.type "list") = some false := kit_ty (by decide +kernel)
theorem kt_bool_list {K : PySem.W.Frag} : PySem.W.kitOne K (.type "bool") (.type "list") = some false := kit_ty (by decide +kernel)
theorem kt_int_list {K : PySem.W.Frag} : PySem.W.kitOne K (.type "int") (.type "list") = some false := kit_ty (by decide +kernel)
theorem kt_str_list {K : PySem.W.Frag} : PySem.W.kitOne K (.type "str") (.type "list") = some false := kit_ty (by decide +kernel)
theorem kt_tuple_list {K : PySem.W.Frag} : PySem.W.kitOne K (.type "tuple") (.type "list") = some false := kit_ty (by decide +kernel)
theorem kt_list_list {K : PySem.W.Frag} : PySem.W.kitOne K (.type "list") (.type "list") = some true := kit_ty (by decide +kernel)
theorem kt_dict_list {K : PySem.W.Frag} : PySem.W.kitOne K (.type "dict") (.type "list") = some false := kit_ty (by decide +kernel)
theorem kt_NoneType_dict {K : PySem.W.Frag} : PySem.W.kitOne K (.type "NoneType") (.type "dict") = some false := kit_ty (by decide +kernel)
theorem kt_bool_dict {K : PySem.W.Frag} : PySem.W.kitOne K (.type "bool") (.type "dict") = some false := kit_ty (by decide +kernel)
theorem kt_int_dict {K : PySem.W.Frag} : PySem.W.kitOne K (.type "int") (.type "dict") = some false := kit_ty (by decide +kernel)
theorem kt_str_dict {K : PySem.W.Frag} : PySem.W.kitOne K (.type "str") (.type "dict") = some false := kit_ty (by decide +kernel)
theorem kt_tuple_dict {K : PySem.W.Frag} : PySem.W.kitOne K (.type "tuple") (.type "dict") = some false := kit_ty (by decide +kernel)
theorem kt_list_dict {K : PySem.W.Frag} : PySem.W.kitOne K (.type "list") (.type "dict") = some false := kit_ty (by decide +kernel)
theorem kt_dict_dict {K : PySem.W.Frag} : PySem.W.kitOne K (.type "dict") (.type "dict") = some true := kit_ty (by decide +kernel)
local macro_rules | `(tactic| walk_at "ne") => `(tactic| first | assumption | (refine' Ne.symm ?h1; (case h1 => assumption)))
local macro_rules | `(tactic| walk_at "nin") => `(tactic| first | assumption | exact List.not_mem_nil)
local macro_rules | `(tactic| walk_at "hl") => `(tactic| first
  | assumption
  | exact upd_same
  | (refine' hl_new ?h1 ?h2; (case h2 => assumption); (case h1 => walk_at "hl"))
  | (refine' hl_set ?h2 ?h1; (case h2 => walk_at "ne"); (case h1 => walk_at "hl"))
  | (refine' hl_same ?h2 ?h1; (case h2 => assumption); (case h1 => walk_at "hl"))
  | (refine' hl_kp ?h2 ?h3 ?h1; (case h2 => assumption); (case h3 => walk_at "nin"); (case h1 => walk_at "hl")))
local macro_rules | `(tactic| walk_at "sq") => `(tactic| first | assumption | (refine' SqL.of ?h1; (case h1 => walk_at "hl")) | (refine' SqT.of ?h1; (case h1 => walk_at "hl")))
local macro_rules | `(tactic| walk_at "sc") => `(tactic| first | assumption | omega | (dsimp only; omega) | decide | exact .inl ⟨by omega, by omega⟩ | exact .inr ⟨by omega, by omega⟩ | exact ⟨by omega, by decide⟩)
local macro_rules | `(tactic| walk_at "sz") => `(tactic| first | assumption | ((try simp only [List.length_map, List.length_append, List.length_cons, List.length_nil]); have : (1000000 : Nat) ≤ sizeLine := (by decide); omega))
local macro_rules | `(tactic| walk_at "ty") => `(tactic| first | assumption | exact TyX.base (.int _) | exact TyX.base (.bl _) | exact TyX.base .non | exact TyX.base (.str _) | (refine' TyX.base (.tup ?h1); (case h1 => walk_at "hl")) | (refine' TyX.base (.lst ?h1); (case h1 => walk_at "hl")) | (refine' TyX.base (.dK ?h1); (case h1 => walk_at "hl")))
local macro_rules | `(tactic| walk_at "mem") => `(tactic| first | assumption | (simp; done) | (intro _ h; simp at h ⊢; first | exact h | exact .inr h | exact .inr (.inr h) | (rcases h with h | h <;> simp [h])))
local macro_rules | `(tactic| walk_at "stt") => `(tactic| first | assumption | (refine' St.new ?h1 ?h2; (case h2 => assumption); (case h1 => walk_at "stt")) | (refine' St.set ?h1 ?h2; (case h2 => assumption); (case h1 => walk_at "stt")) | (refine' St.same ?h1 ?h2; (case h2 => assumption); (case h1 => walk_at "stt")))
local macro_rules | `(tactic| walk_at "in") => `(tactic| first | assumption | exact List.mem_cons_self | exact List.mem_cons_of_mem _ List.mem_cons_self | exact List.mem_cons_of_mem _ (List.mem_cons_of_mem _ List.mem_cons_self))
local macro_rules | `(tactic| walk_at "kp") => `(tactic| first
  | exact Kp.refl
  | assumption
  | (refine' Kp.trans ?h1 (Kp.new ?h2); (case h2 => assumption); (case h1 => walk_at "kp"))
  | (refine' Kp.trans ?h1 (Kp.set ?h2); (case h2 => walk_at "in"); (case h1 => walk_at "kp"))
  | (refine' Kp.own ?h1 ?h2; (case h2 => assumption); (case h1 => walk_at "kp"))
  | (refine' Kp.trans ?h1 (Kp.sub ?h2 ?h3); (case h2 => assumption); (case h3 => walk_at "mem"); (case h1 => walk_at "kp"))
  | (refine' Kp.trans ?h1 (Kp.ofSame ?h2); (case h2 => assumption); (case h1 => walk_at "kp")))
local macro_rules | `(tactic| walk_at "sm") => `(tactic| first
  | exact Same.refl _
  | assumption
  | (refine' Same.trans ?h1 (Same.upd_new ?h2); (case h2 => assumption); (case h1 => walk_at "sm"))
  | (refine' Same.trans ?h1 ?h2; (case h2 => assumption); (case h1 => walk_at "sm")))
local macro_rules | `(tactic| walk_at "lf") => `(tactic| first
  | exact Lft.refl
  | (refine' Lft.trans ?h1 (Lft.new ?h2); (case h2 => assumption); (case h1 => walk_at "lf"))
  | (refine' Lft.trans ?h1 (Lft.set ?h2); (case h2 => walk_at "in"); (case h1 => walk_at "lf"))
  | (refine' Lft.trans ?h1 (Lft.kp ?h2 ?h3); (case h2 => assumption); (case h3 => walk_at "mem"); (case h1 => walk_at "lf"))
  | (refine' Lft.trans ?h1 (Lft.same ?h2); (case h2 => assumption); (case h1 => walk_at "lf"))
  | (refine' Lft.trans ?h1 (Lft.own ?h2); (case h2 => assumption); (case h1 => walk_at "lf")))
local macro_rules | `(tactic| walk_at "kt") => `(tactic| first | exact kt_NoneType_int | exact kt_bool_int | exact kt_int_int | exact kt_str_int | exact kt_tuple_int | exact kt_list_int | exact kt_dict_int | exact kt_NoneType_bool | exact kt_bool_bool | exact kt_int_bool | exact kt_str_bool | exact kt_tuple_bool | exact kt_list_bool | exact kt_dict_bool | exact kt_NoneType_tuple | exact kt_bool_tuple | exact kt_int_tuple | exact kt_str_tuple | exact kt_tuple_tuple | exact kt_list_tuple | exact kt_dict_tuple | exact kt_NoneType_str | exact kt_bool_str | exact kt_int_str | exact kt_str_str | exact kt_tuple_str | exact kt_list_str | exact kt_dict_str | exact kt_NoneType_list | exact kt_bool_list | exact kt_int_list | exact kt_str_list | exact kt_tuple_list | exact kt_list_list | exact kt_dict_list | exact kt_NoneType_dict | exact kt_bool_dict | exact kt_int_dict | exact kt_str_dict | exact kt_tuple_dict | exact kt_list_dict | exact kt_dict_dict)
local macro_rules | `(tactic| walk_at "st1") => `(tactic| first
  | with_reducible refine r_seq ?_
  | with_reducible refine r_for ?_
  | with_reducible refine r_irng1 ?_
  | ((with_reducible refine r_rg1 ?e1 ?_); (case e1 => omega))
  | with_reducible refine r_irng2 ?_
  | ((with_reducible refine r_rg2 ?e1 ?_); (case e1 => omega))
  | with_reducible refine r_ilist ?_
  | ((with_reducible refine' r_il ?e1 ?_); (case e1 => walk_at "sq"))
  | with_reducible refine r_itup ?_
  | ((with_reducible refine' r_it ?e1 ?_); (case e1 => walk_at "sq"))
  | with_reducible refine r_izip ?_
  | ((with_reducible refine' r_izt ?e1 ?e2 ?_); (case e1 => walk_at "sq"); (case e2 => walk_at "sq"))
  | with_reducible refine r_lc ?_
  | with_reducible refine r_tand ?_
  | with_reducible refine r_tor ?_
  | with_reducible refine r_tnot ?_
  | with_reducible refine r_andv ?_
  | with_reducible refine r_orv ?_
  | with_reducible refine r_notv ?_
  | with_reducible refine r_chain ?_
  | with_reducible refine' r_t ?_
  | with_reducible refine' r_f ?_
  | with_reducible refine r_bm ?_
  | with_reducible refine r_tb ?_
  | with_reducible refine r_yes ?_
  | ((with_reducible refine r_sz ?e1 ?_); (case e1 => rfl))
  | with_reducible refine r_sl ?_
  | ((with_reducible refine' r_sll ?e1 ?_); (case e1 => walk_at "sq"))
  | with_reducible refine r_nopart ?_
  | with_reducible refine r_part ?_
  | with_reducible refine r_parti ?_
  | with_reducible refine r_callk ?_
  | with_reducible refine r_perm (by rfl) (by rfl) ?_
  | ((with_reducible refine' r_nilL ?e1 ?e2 ?_); (case e1 => walk_at "sq"); (case e2 => walk_at "sq"))
  | ((with_reducible refine' r_nilT ?e1 ?e2 ?_); (case e1 => walk_at "sq"); (case e2 => walk_at "sq"))
  | ((with_reducible refine' r_app0 ?e1 ?e2 ?_); (case e1 => walk_at "hl"); (case e2 => walk_at "sz"))
  | ((with_reducible refine' r_ty ?e1 ?_); (case e1 => walk_at "hl"))
  | ((with_reducible refine' r_all ?e1 ?_); (case e1 => walk_at "sq"))
  | ((with_reducible refine' r_sum ?e1 ?_); (case e1 => walk_at "sq"))
  | ((with_reducible refine' r_isi ?e1 ?e2 ?e3 ?_); (case e1 => exact .ty _); (case e2 => walk_at "ty"); (case e3 => walk_at "kt"))
  | with_reducible refine r_asg ?_
  | with_reducible refine r_gname ?_
  | ((with_reducible refine' r_var ?e1 ?_); (case e1 => rfl))
  | with_reducible refine r_c ?_
  | with_reducible refine r_op ?_
  | with_reducible refine r_i0 ?_
  | ((with_reducible refine' r_i ?e1 ?_); (case e1 => walk_at "sc"))
  | ((with_reducible refine' r_ixl ?e1 ?e2 ?_); (case e1 => walk_at "sq"); (case e2 => first | assumption | rfl))
  | ((with_reducible refine' r_ixt ?e1 ?e2 ?_); (case e1 => walk_at "sq"); (case e2 => first | assumption | rfl))
  | with_reducible refine r_cb ?_
  | with_reducible refine r_cons ?_
  | with_reducible refine r_nil ?_
  | ((with_reducible refine' r_len ?e1 ?_); (case e1 => walk_at "sq"))
  | ((with_reducible refine' r_lent ?e1 ?_); (case e1 => walk_at "sq"))
  | with_reducible refine r_abs ?_
  | ((with_reducible refine' r_listl ?e1 ?_); (case e1 => walk_at "sq"))
  | ((with_reducible refine' r_listt ?e1 ?_); (case e1 => walk_at "sq"))
  | ((with_reducible refine' r_tupl ?e1 ?_); (case e1 => walk_at "sq"))
  | ((with_reducible refine' r_tupt ?e1 ?_); (case e1 => walk_at "sq"))
  | with_reducible refine r_ife ?_
  | with_reducible refine r_test ?_
  | with_reducible refine r_bl ?_
  | with_reducible refine r_ret ?_
  | with_reducible refine r_gsub ?_
  | ((with_reducible refine' r_setl ?e1 ?e2 ?_); (case e1 => walk_at "hl"); (case e2 => first | assumption | rfl))
  | with_reducible refine r_next ?_
  | with_reducible refine r_call ?_
  | with_reducible refine r_lst ?_
  | with_reducible refine r_tup ?_
  | with_reducible refine r_drop ?_
  | ((with_reducible refine' r_eq ?e1 ?_); (case e1 => rfl))
  | ((with_reducible refine' r_ne ?e1 ?_); (case e1 => rfl)))
local macro_rules | `(tactic| walk_at "st") => `(tactic| repeat (walk_at "st1"))
local macro_rules | `(tactic| walk_at "if") => `(tactic| ((first | refine r_if ?_ | (simp only []; refine r_if ?_)); walk_at "st"))
structure Tx (K : PySem.W.Frag) (mg : Str → Option Value) : Prop where
  c_FIGURES : ∃ t, mg "FIGURES" = some (.str "0123456789" t)
  c_HIGHEST_PRIME : ∃ t, mg "HIGHEST_PRIME" = some (.int 997 t)
  c_LETTERS : ∃ t, mg "LETTERS" = some (.str "abcdefghijklmnopqrstuvwxyz" t)
  c_LONGEST_NAME : ∃ t, mg "LONGEST_NAME" = some (.int 8 t)
  c_LONGEST_PLACE : ∃ t, mg "LONGEST_PLACE" = some (.int 40 t)
  c_PRIME : ∃ t, mg "PRIME" = some (.int 97 t)
  m_abs : mg "abs" = none
  m_all : mg "all" = none
  m_bool : mg "bool" = none
  m_int : mg "int" = none
  m_isinstance : mg "isinstance" = none
  m_len : mg "len" = none
  m_range : mg "range" = none
  m_repr : mg "repr" = none
  m_str : mg "str" = none
def topS (i : Nat) : Stmt := PySem.Challenge.pw_onetrace_k01_primes_numbers_names.main.body.getD i (.Pass ⟨0, 0, 0, 0⟩)
abbrev s_is_whole : Stmt := topS 7
theorem sc_is_whole : FnScope ["thing"] ["thing"] (defScope s_is_whole) := ⟨rfl, rfl, rfl, by decide +kernel, rfl, by decide +kernel, by decide +kernel⟩
abbrev s_is_prime : Stmt := topS 8
theorem sc_is_prime : FnScope ["thing", "k"] ["thing"] (defScope s_is_prime) := ⟨rfl, rfl, rfl, by decide +kernel, rfl, by decide +kernel, by decide +kernel⟩
abbrev s_is_number : Stmt := topS 9
theorem sc_is_number : FnScope ["thing", "p"] ["thing", "p"] (defScope s_is_number) := ⟨rfl, rfl, rfl, by decide +kernel, rfl, by decide +kernel, by decide +kernel⟩
abbrev s_is_name : Stmt := topS 10
theorem sc_is_name : FnScope ["thing"] ["thing"] (defScope s_is_name) := ⟨rfl, rfl, rfl, by decide +kernel, rfl, by decide +kernel, by decide +kernel⟩
abbrev s_is_place : Stmt := topS 11
theorem sc_is_place : FnScope ["thing"] ["thing"] (defScope s_is_place) := ⟨rfl, rfl, rfl, by decide +kernel, rfl, by decide +kernel, by decide +kernel⟩
abbrev s_has_only : Stmt := topS 12
theorem sc_has_only : FnScope ["text", "signs", "sign"] ["text", "signs"] (defScope s_has_only) := ⟨rfl, rfl, rfl, by decide +kernel, rfl, by decide +kernel, by decide +kernel⟩
abbrev s_inverse : Stmt := topS 13
theorem sc_inverse : FnScope ["n", "p", "rest", "lower", "many", "lower_many", "whole"] ["n", "p"] (defScope s_inverse) := ⟨rfl, rfl, rfl, by decide +kernel, rfl, by decide +kernel, by decide +kernel⟩
abbrev s_law_begun : Stmt := topS 15
theorem sc_law_begun : FnScope ["script", "cell"] ["script"] (defScope s_law_begun) := ⟨rfl, rfl, rfl, by decide +kernel, rfl, by decide +kernel, by decide +kernel⟩
abbrev s_law_draw : Stmt := topS 16
theorem sc_law_draw : FnScope ["state", "many", "cells", "at", "cell"] ["state", "many"] (defScope s_law_draw) := ⟨rfl, rfl, rfl, by decide +kernel, rfl, by decide +kernel, by decide +kernel⟩
abbrev s_law_prime : Stmt := topS 17
theorem sc_law_prime : FnScope ["state", "some"] ["state"] (defScope s_law_prime) := ⟨rfl, rfl, rfl, by decide +kernel, rfl, by decide +kernel, by decide +kernel⟩
abbrev s_law_place : Stmt := topS 18
theorem sc_law_place : FnScope ["state", "signs", "size", "word"] ["state"] (defScope s_law_place) := ⟨rfl, rfl, rfl, by decide +kernel, rfl, by decide +kernel, by decide +kernel⟩
abbrev s_law_text : Stmt := topS 19
theorem sc_law_text : FnScope ["state", "signs", "size", "k"] ["state"] (defScope s_law_text) := ⟨rfl, rfl, rfl, by decide +kernel, rfl, by decide +kernel, by decide +kernel⟩
abbrev s_law_whole : Stmt := topS 20
theorem sc_law_whole : FnScope ["what"] ["what"] (defScope s_law_whole) := ⟨rfl, rfl, rfl, by decide +kernel, rfl, by decide +kernel, by decide +kernel⟩
abbrev s_law_primed : Stmt := topS 21
theorem sc_law_primed : FnScope ["what", "least"] ["what"] (defScope s_law_primed) := ⟨rfl, rfl, rfl, by decide +kernel, rfl, by decide +kernel, by decide +kernel⟩
abbrev s_law_named : Stmt := topS 22
theorem sc_law_named : FnScope ["what", "most", "more", "letters", "sign"] ["what", "most", "more"] (defScope s_law_named) := ⟨rfl, rfl, rfl, by decide +kernel, rfl, by decide +kernel, by decide +kernel⟩
abbrev s_law_things : Stmt := topS 23
theorem sc_law_things : FnScope ["state", "q", "some", "far"] ["state", "q"] (defScope s_law_things) := ⟨rfl, rfl, rfl, by decide +kernel, rfl, by decide +kernel, by decide +kernel⟩
abbrev s_law : Stmt := topS 24
theorem sc_law : FnScope ["script", "state", "turn", "q", "what", "owed", "told", "num", "back"] ["script"] (defScope s_law) := ⟨rfl, rfl, rfl, by decide +kernel, rfl, by decide +kernel, by decide +kernel⟩
theorem kb_inverse_1_0 {K : PySem.W.Frag} {f : Addr} {fd : FuncData} (F : Fun K "inverse" "inverse" s_inverse f fd) : ∀ (us ws : List Value), us.length = 0 → ws.length = 2 → ∀ s : Shared, BindsTo s fd ⟨us, (["p", "n"] : List Str).zip ws⟩ ((["n", "p"] : List Str).zip (([1, 0] : List Nat).map fun i => (us ++ ws).getD i .none)) := by
  obtain ⟨oc, od, kV, doc, pm, an, cdv, ct, osl, rfl, lk, hcd⟩ := F.ex
  intro us ws h1 h2 s
  match us, h1, ws, h2 with
  | [], _, [w0, w1], _ => exact .of_eq rfl
theorem kb_is_name_0 {K : PySem.W.Frag} {f : Addr} {fd : FuncData} (F : Fun K "is_name" "is_name" s_is_name f fd) : ∀ (us ws : List Value), us.length = 0 → ws.length = 1 → ∀ s : Shared, BindsTo s fd ⟨us, (["thing"] : List Str).zip ws⟩ ((["thing"] : List Str).zip (([0] : List Nat).map fun i => (us ++ ws).getD i .none)) := by
  obtain ⟨oc, od, kV, doc, pm, an, cdv, ct, osl, rfl, lk, hcd⟩ := F.ex
  intro us ws h1 h2 s
  match us, h1, ws, h2 with
  | [], _, [w0], _ => exact .of_eq rfl
theorem kb_is_number_0_1 {K : PySem.W.Frag} {f : Addr} {fd : FuncData} (F : Fun K "is_number" "is_number" s_is_number f fd) : ∀ (us ws : List Value), us.length = 0 → ws.length = 2 → ∀ s : Shared, BindsTo s fd ⟨us, (["thing", "p"] : List Str).zip ws⟩ ((["thing", "p"] : List Str).zip (([0, 1] : List Nat).map fun i => (us ++ ws).getD i .none)) := by
  obtain ⟨oc, od, kV, doc, pm, an, cdv, ct, osl, rfl, lk, hcd⟩ := F.ex
  intro us ws h1 h2 s
  match us, h1, ws, h2 with
  | [], _, [w0, w1], _ => exact .of_eq rfl
theorem kb_is_place_0 {K : PySem.W.Frag} {f : Addr} {fd : FuncData} (F : Fun K "is_place" "is_place" s_is_place f fd) : ∀ (us ws : List Value), us.length = 0 → ws.length = 1 → ∀ s : Shared, BindsTo s fd ⟨us, (["thing"] : List Str).zip ws⟩ ((["thing"] : List Str).zip (([0] : List Nat).map fun i => (us ++ ws).getD i .none)) := by
  obtain ⟨oc, od, kV, doc, pm, an, cdv, ct, osl, rfl, lk, hcd⟩ := F.ex
  intro us ws h1 h2 s
  match us, h1, ws, h2 with
  | [], _, [w0], _ => exact .of_eq rfl
theorem kb_is_prime_0 {K : PySem.W.Frag} {f : Addr} {fd : FuncData} (F : Fun K "is_prime" "is_prime" s_is_prime f fd) : ∀ (us ws : List Value), us.length = 0 → ws.length = 1 → ∀ s : Shared, BindsTo s fd ⟨us, (["thing"] : List Str).zip ws⟩ ((["thing"] : List Str).zip (([0] : List Nat).map fun i => (us ++ ws).getD i .none)) := by
  obtain ⟨oc, od, kV, doc, pm, an, cdv, ct, osl, rfl, lk, hcd⟩ := F.ex
  intro us ws h1 h2 s
  match us, h1, ws, h2 with
  | [], _, [w0], _ => exact .of_eq rfl
/-! ### defs that run while nothing is being shown (repr): the list of guards is empty -/
structure FnG (P : Program) (w : World) (K : PySem.W.Frag) (mg : Str → Option Value) (base : Heap) (k : Nat) (f : Addr) (fd : FuncData) (ps : List Str) (sp : Sp) : Prop where
  len : ∀ vs H Q E, sp vs H Q E → vs.length = ps.length
  run : ∀ (A : Around) (outer : List Env) (s : Shared) (H : Hp) (args : Args) (us : List Value) (vs : List V) (Q : VK) (E : XK), A.guards = some [] → Room k A → Env0 P w K mg base A outer s H → BindsTo s fd args (ps.zip us) → Vals vs us → sp vs H Q E →
    codeAny (model P w) A (.call (.ref f) args) (CR CX0 outer P w H s Q E) s
section
variable {P : Program} {w : World} {K : PySem.W.Frag} {mg : Str → Option Value} {base : Heap}
theorem fnG_of {k : Nat} {x qual : Str} {st : Stmt} {f : Addr} {fd : FuncData} {N ps : List Str} {sp : Sp} (F : Fun K x qual st f fd) (S : FnScope N ps (defScope st)) (hlen : ∀ vs H Q E, sp vs H Q E → vs.length = ps.length)
    (body : ∀ (cdv : Value) (A : Around) (outer : List Env) (s : Shared) (H : Hp) (vs : List V) (Q : VK) (E : XK), A.guards = some [] → Room k (A.deeper (envOfC qual (defScope st) s.heap.objs.size f cdv)) → sp vs H Q E →
      ∃ t, PSs (cxOf CX0 P w K mg base N qual (defScope st) f cdv A outer s H E).nox (defBody st) t ∧ t { nx := fun _ H' => Q .non H', rt := Q } (L2.start N vs) H) : FnG P w K mg base (k + 1) f fd ps sp := by
  obtain ⟨oc, od, kV, doc, pm, an, cdv, ct, osl, rfl, lk, hcd⟩ := F.ex
  refine ⟨hlen, fun A outer s H args us vs Q E hga hr e0 hb r hsp => ?_⟩
  have inK : K.In s.heap := e0.mod.kin.keeps (fun b o q => (e0.bs b o q).1)
  have nl : s.heap.NoLimit := e0.mod.nolimit.keeps (fun b o q => (e0.bs b o q).1)
  have kinds : ∀ y ∈ ps.zip us, (defScope st).names.lookup y.1 = some .local ∨ ((defScope st).names.lookup y.1 = some .cell ∧ ((cellsFrom (s.heap.objs.size + 1) (defScope st).names []).lookup y.1).isSome = true) := by
    intro y hy
    have := S.par y.1 (List.of_mem_zip (a := y.1) (b := y.2) hy).1
    exact this.elim .inl (fun z => .inr ⟨z, PySem.W.cellsFrom_some _ _ _ (.inl z)⟩)
  apply codeAny_call_function hr.depth (inK _ _ lk) rfl S.co S.gen rfl (PySem.W.codeRec_of inK hcd)
  apply hb
  apply wpAny_newFunctionEnv_cells S.kind kinds
  intro env he s1 x
  subst he
  refine ⟨nl.keeps x.toInCall.keep, codeAny_func ?_⟩
  obtain ⟨t, ht, hq⟩ := body cdv A outer s H vs Q E hga (hr.deeper _) hsp
  have J0 := inv_start (CX := CX0) (E := E) S hr.hd e0 (hlen _ _ _ _ hsp) r x
  refine wpAny_mono (ht.nox.run [] s1 (L2.start N vs) H _ J0 hq) (fun fl s' hs => ?_) (fun e s' hs => hs)
  match fl, hs with
  | .ret u, ⟨v, σ', H', J, rv, q⟩ => exact ⟨v, H', J.os, J.bare, J.base, J.hok, rv, q⟩
  | .next, ⟨σ', H', J, q⟩ => exact ⟨V.non, H', J.os, J.bare, J.base, J.hok, rfl, q⟩
  | .brk, ⟨_, _, _, q⟩ => exact q.elim
  | .cont, ⟨_, _, _, q⟩ => exact q.elim
end
/-! ### the law's own call, where nothing is being shown -/
section
variable {P : Program} {w : World} {K : PySem.W.Frag} {mg mb : Str → Option Value} {k : Nat} {fa a : Addr} {fd : FuncData} {x : Str} {sp : Sp} {g0 : Shared} {vs : List Value} {ns : List Int}
/-- from a heap H that tracks nothing but, at most, the script -/
theorem lawG_from (inK : K.In g0.heap) (hns : g0.heap.Ns mainGlobals mg) (hb : g0.heap.Ns builtinsNs mb) (hbb : ∀ x : Str, x ≠ "__name__" → mb x = bootBuiltins x) (nl : g0.heap.NoLimit) (hg : g0.gens = #[])
    (ha : g0.heap.get? a = some { cls := .type "list", data := .seq vs.toArray }) (hr : Room k callerA)
    (F : ∀ base : Heap, K.In base → base.Ns mainGlobals mg → FnG P w K mg base k fa fd [x] sp) (hbind : ∀ (s : Shared) (u : Value), BindsTo s fd ⟨[u], []⟩ [(x, u)])
    (hsp : ∀ H : Hp, Only H → SqL K H a (ns.map V.int) → sp [.ref a] H (fun v _ => v = .bl true) fun _ _ _ => False)
    (H : Hp) (onl : Only H) (script : SqL K H a (ns.map V.int)) (ok : HOk P w H g0.heap) (at_ : ∀ b, H b ≠ none → b = a) (off : H a ≠ none → K.lookup a = none) :
    codeAny (model P w) callerA (.call (.ref fa) ⟨[.ref a], []⟩) (fun r s' => r = .ok (.ret (.bool true)) ∧ OldK g0.heap s'.heap ∧ s'.os = g0.os ∧ AllBare s'.gens) g0 := by
  have free_dict : ∀ (b : Addr) (o : Obj) (es : Array DictEntry) (ep : Nat), g0.heap.get? b = some o → o.data = .dict es ep → H b = none := by
    intro b o es ep e d
    by_cases q : H b = none
    · exact q
    · obtain rfl := at_ b q
      rw [e] at ha
      injection ha with ha
      rw [ha] at d
      cases d
  have to_base : ∀ (b : Addr) (m : Str → Option Value), g0.heap.Ns b m → (hidT g0.heap H).Ns b m := by
    intro b m n
    obtain ⟨o, es, ep, e, d, r⟩ := n
    exact ⟨o, es, ep, hidT_get e (free_dict b o es ep e d), d, r⟩
  have baseK : K.In (hidT g0.heap H) := by
    intro b o e
    refine hidT_get (inK b o e) ?_
    by_cases q : H b = none
    · exact q
    · obtain rfl := at_ b q
      rw [off q] at e
      cases e
  obtain ⟨mc, n1, n2⟩ := nl
  have M : Mod K mg (hidT g0.heap H) := ⟨baseK, to_base _ _ hns, ⟨mb, to_base _ _ hb, hbb⟩, ⟨mc, to_base _ _ n1, n2⟩⟩
  have env : Env0 P w K mg (hidT g0.heap H) callerA [] g0 H :=
    { frames := rfl, mod := M, bs := fun b o e => of_hidT e, bsz := Nat.le_of_eq (hidT_size _ _), funs := trivial, frf := fun b z => (by cases z), hok := ok, bare := .of_eq hg }
  have run := (F _ baseK (to_base _ _ hns)).run callerA [] g0 H ⟨[.ref a], []⟩ [.ref a] [.ref a] _ _ rfl hr env (hbind g0 (.ref a)) (.cons rfl .nil) (hsp H onl script)
  refine codeAny_mono run (fun r s' z => ?_)
  match r, z with
  | .ok (.ret u), z =>
    obtain ⟨v, H', os, bare, un, ok', rv, q⟩ := z
    have q : v = .bl true := q
    subst q
    obtain rfl : u = Value.bool true := rv
    refine ⟨rfl, OldK.of_keep (fun b o e => ?_), os, bare⟩
    by_cases q : H b = none
    · exact un.keep b o e q (by intro z; cases z) (by intro z; cases z)
    · rcases onl b with z | ⟨ob, xs, z⟩
      · exact absurd z q
      · have e1 := (ok b _ z).1
        have e2 := (ok' b _ (un.frzs b ob _ z)).1
        rw [e] at e1
        injection e1 with e1
        rw [e1]
        exact e2
theorem lawG_call (inK : K.In g0.heap) (hns : g0.heap.Ns mainGlobals mg) (hb : g0.heap.Ns builtinsNs mb) (hbb : ∀ x : Str, x ≠ "__name__" → mb x = bootBuiltins x) (nl : g0.heap.NoLimit) (hg : g0.gens = #[])
    (ha : g0.heap.get? a = some { cls := .type "list", data := .seq vs.toArray }) (hi : IntsAre vs ns) (hl : ns.length ≤ sizeLine) (hr : Room k callerA)
    (F : ∀ base : Heap, K.In base → base.Ns mainGlobals mg → FnG P w K mg base k fa fd [x] sp) (hbind : ∀ (s : Shared) (u : Value), BindsTo s fd ⟨[u], []⟩ [(x, u)])
    (hsp : ∀ H : Hp, Only H → SqL K H a (ns.map V.int) → sp [.ref a] H (fun v _ => v = .bl true) fun _ _ _ => False) :
    codeAny (model P w) callerA (.call (.ref fa) ⟨[.ref a], []⟩) (fun r s' => r = .ok (.ret (.bool true)) ∧ OldK g0.heap s'.heap ∧ s'.os = g0.os ∧ AllBare s'.gens) g0 := by
  have rv : Vals (ns.map V.int) vs := vals_ints hi
  have el : vs.length = ns.length := hi.length
  by_cases hk : K.lookup a = none
  · refine lawG_from inK hns hb hbb nl hg ha hr F hbind hsp (fun b => if b = a then some (.frz { cls := .type "list", data := .seq vs.toArray } (.lst (ns.map V.int))) else none) (fun b => ?_) (.inl (.inr ⟨_, if_pos rfl⟩)) (fun b o e => ?_) (fun b z => ?_) (fun _ => hk)
    · by_cases q : b = a
      · exact .inr ⟨_, _, if_pos q⟩
      · exact .inl (if_neg q)
    · by_cases q : b = a
      · subst q
        have e := (if_pos rfl).symm.trans e
        injection e with e
        rw [← e]
        exact ⟨ha, by rw [List.length_map]; exact hl, vs, _, rv, ha⟩
      · have e := (if_neg q).symm.trans e
        cases e
    · by_cases q : b = a
      · exact q
      · exact absurd (if_neg q) z
  · obtain ⟨o, ho⟩ := Option.ne_none_iff_exists'.mp hk
    have e := inK a o ho
    rw [ha] at e
    injection e with e
    subst e
    exact lawG_from inK hns hb hbb nl hg ha hr F hbind hsp (fun _ => none) (fun _ => .inl rfl) (.inr ⟨_, vs.toArray, _, ho, rfl, rfl, rfl, by rw [List.size_toArray, el]; exact hl, by simpa using rv⟩) (fun b o e => by cases e) (fun b z => absurd rfl z) (fun z => absurd rfl z)
end
theorem walkG_of {l : PySem.W.OpenLaw} {n k : Nat} {q : Program} {loose : List Str} {XP : (Str → Option Value) → Heap → Prop} {YP : World → Heap → Prop} {d : DefRec} {K : Params → PySem.W.Frag} {sp : World → Sp} {x : Str}
    (hn : l.most = some n) (hn2 : n ≤ sizeLine) (hdf : d.params.defaults = []) (hr : Room k callerA) (hY : ∀ (w : World) (h : Heap), YP w h → (K w.params).In h)
    (F : ∀ (w : World) (mg : Str → Option Value) (fa : Addr) (h : Heap), (K w.params).In h → h.Ns mainGlobals mg → mg d.name = some (.ref fa) →
      ∃ fd : FuncData, (∀ (s : Shared) (u : Value), BindsTo s fd ⟨[u], []⟩ [(x, u)]) ∧ ∀ base : Heap, (K w.params).In base → base.Ns mainGlobals mg → FnG l.prog w (K w.params) mg base k fa fd [x] (sp w))
    (hsp : ∀ (w : World) (H : Hp) (a : Addr) (ns : List Int), ns.length ≤ n → Only H → SqL (K w.params) H a (ns.map V.int) → sp w [.ref a] H (fun v _ => v = .bl true) fun _ _ _ => False) :
    PySem.W.WalkO q loose XP YP l.row.toRowW d [] (fun f vs => PySem.call f vs) := by
  apply Att.attach_call hn hdf
  intro w s₀ s₁ mg mb fa o pm cd doc a vs ns G Y ho hd hcd hmg hobj hints hlen hg
  obtain ⟨fd, b, f⟩ := F w mg fa _ (hY w _ Y) G.T.g hmg
  exact lawG_call (hY w _ Y) G.T.g G.T.b G.T.builtins G.T.nolimit hg hobj hints (Nat.le_trans hlen hn2) hr f b (fun H o s => hsp w H a ns hlen o s)
/-! ### the law's own: draws -/
def sp_law_draw (_ : PySem.W.Frag) : Sp := fun vs H Q _ => ∃ (s c : Addr) (m : Int), vs = [.ref s, .int m] ∧ St s c H ∧ (0 < m ∧ m < 1073741824) ∧
  ∀ d H', Kp [s, c] H H' → St s c H' → 0 ≤ d ∧ d < m → Q (.int d) H'
theorem St.nil0 {s c : Addr} {H : Hp} (h : St s c H) : H s ≠ none ∧ H c ≠ none := by
  obtain ⟨_, cs, j, r, h⟩ := h
  exact ⟨by rw [h.hs]; simp, by rw [h.hc]; simp⟩
theorem ints_of_all {p : Int → Prop} : ∀ {ys : List V}, (∀ y ∈ ys, ∃ n : Int, y = .int n ∧ p n) → ∃ cs : List Int, ys = cs.map .int ∧ ∀ n ∈ cs, p n
  | [], _ => ⟨[], rfl, by simp⟩
  | y :: ys, h => by
    obtain ⟨n, rfl, hn⟩ := h y List.mem_cons_self
    obtain ⟨cs, rfl, hc⟩ := ints_of_all (ys := ys) fun z hz => h z (List.mem_cons_of_mem _ hz)
    exact ⟨n :: cs, rfl, fun m hm => by
      rcases List.mem_cons.mp hm with rfl | hm
      · exact hn
      · exact hc m hm⟩
theorem atI_in {α : Type} {xs : List α} {i : Int} (h0 : 0 ≤ i) (h1 : i < xs.length) : ∃ v, atI xs i = some v ∧ v ∈ xs := by
  obtain ⟨j, rfl⟩ : ∃ j : Nat, i = j := ⟨i.toNat, by omega⟩
  have h2 : j < xs.length := by omega
  exact ⟨xs[j], atI_nat (List.getElem?_eq_getElem h2), List.getElem_mem h2⟩
section
variable {P : Program} {w : World} {K : PySem.W.Frag} {mg : Str → Option Value} {base : Heap}
theorem ok_law_draw (T : Tx K mg)  {f : Addr} {fd : FuncData} (F : Here K mg "_law_draw" s_law_draw ["state", "many"] f fd) : Cal P w K mg base "_law_draw" 1 ["state", "many"] (sp_law_draw K) s_law_draw f fd := by
  refine F.cal sc_law_draw (fun vs H Q E h => ?_) (fun cdv A outer s H vs Q E hr h => ?_)
  · obtain ⟨s, c, m, rfl, _⟩ := h
    rfl
  · obtain ⟨s, c, m, rfl, hst, ⟨m0, m1⟩, q⟩ := h
    refine ⟨_, (pss_cons (ps_set (i := 2) sc_law_draw.nd rfl (by first | exact .inl rfl | exact .inr rfl) (pe_ix (ix_listK (K := K)) (pv 0) pe_int (fun _ _ => rfl)))
      (pss_cons (ps_set (i := 3) sc_law_draw.nd rfl (by first | exact .inl rfl | exact .inr rfl) (pe_op op_mod (pe_ix (ix_listK (K := K)) (pv 0) pe_int (fun _ _ => rfl)) (pe_callB (cr_lenK (K := K)) (by rfl) T.m_len (by decide +kernel) (pa_cons (pv 2) pa_nil))))
      (pss_cons (ps_set (i := 4) sc_law_draw.nd rfl (by first | exact .inl rfl | exact .inr rfl) (pe_ix (ix_listK (K := K)) (pv 2) (pv 3) (fun _ _ => rfl)))
      (pss_cons (ps_if (pt_cmpR op_ge (pv 4) pe_int (nomark _)) (pss_cons (ps_asg (pe_op op_fdivW (pv 4) (pv 1)) (pg_sub (pv 2) (pv 3) set_list))
      (pss_one (ps_ret (pe_op op_mod (pv 4) (pv 1))))) pss_nil)
      (pss_cons (ps_asg (pe_op op_add (pe_ix (ix_listK (K := K)) (pv 0) pe_int (fun _ _ => rfl)) pe_int) (pg_sub (pv 0) pe_int set_list))
      (pss_cons (ps_asg (pe_op op_mod (pe_op op_add (pe_op op_add (pe_op op_mul (pe_ix (ix_listK (K := K)) (pv 0) pe_int (fun _ _ => rfl)) pe_int) (pv 4)) pe_int) pe_int) (pg_sub (pv 0) pe_int set_list))
      (pss_one (ps_ret (pe_op op_mod (pe_op op_fdivW (pe_op op_mod (pe_op op_mul (pe_ix (ix_listK (K := K)) (pv 0) pe_int (fun _ _ => rfl)) (pe_ix (ix_listK (K := K)) (pv 0) pe_int (fun _ _ => rfl))) pe_int) pe_int) (pv 1)))))))))), ?_⟩
    obtain ⟨hne, cs, j, r, hs, hc, ne, nn, len, hj, hr0, hr1⟩ := hst
    have hl : 0 < (cs.map V.int).length := by rw [List.length_map]; exact List.length_pos_iff.mpr ne
    obtain ⟨i, hi, ei⟩ : ∃ i : Nat, i < cs.length ∧ j % ((cs.map V.int).length : Int) = i := by
      have h1 := Int.emod_nonneg j (show ((cs.map V.int).length : Int) ≠ 0 by omega)
      have h2 := Int.emod_lt_of_pos j (show (0 : Int) < ((cs.map V.int).length : Int) by omega)
      rw [List.length_map] at h1 h2 ⊢
      exact ⟨(j % (cs.length : Int)).toNat, by omega, by omega⟩
    have hx : atI (cs.map V.int) (j % ((cs.map V.int).length : Int)) = some (.int cs[i]) := by
      rw [ei]; exact atI_nat (by rw [List.getElem?_map, List.getElem?_eq_getElem hi]; rfl)
    have hx0 : 0 ≤ cs[i] := nn _ (List.getElem_mem hi)
    have hxi : ixN (cs.map V.int).length (j % ((cs.map V.int).length : Int)) = some i := by
      rw [ei]; unfold ixN; rw [if_pos (by omega), if_pos (by rw [List.length_map]; omega)]; rfl
    have hw : CDivW cs[i] m := wide_div (b := 30) m0 (by omega) (by decide) (by decide)
    walk_at "st"
    walk_at "if"
    refine r_ite (fun hge => ?_) (fun hlt => ?_)
    · walk_at "st"
      refine q _ _ (fun b o e hb => ?_) ⟨hne, cs.set i (cs[i] / m), j, r, ?_, ?_, ?_, ?_, ?_, hj, hr0, hr1⟩ ⟨Int.emod_nonneg _ (by omega), Int.emod_lt_of_pos _ m0⟩
      · rw [upd_ne (by intro z; exact hb (by simp [z]))]; exact e
      · walk_at "hl"
      · rw [upd_same, List.map_set]
      · intro z; exact ne (by simpa using congrArg List.length z)
      · intro x hx
        rcases List.mem_or_eq_of_mem_set hx with h | h
        · exact nn _ h
        · rw [h]; exact Int.ediv_nonneg hx0 (by omega)
      · simpa using len
    · walk_at "st"
      refine q _ _ (fun b o e hb => ?_) ⟨hne, cs, j + 1, (r * 48271 + cs[i] + 12345) % 2147483647, upd_same, ?_, ne, nn, len, by omega, Int.emod_nonneg _ (by decide), Int.emod_lt_of_pos _ (by decide)⟩ ⟨Int.emod_nonneg _ (by omega), Int.emod_lt_of_pos _ m0⟩
      · rw [upd_ne (by intro z; exact hb (by simp [z])), upd_ne (by intro z; exact hb (by simp [z]))]; exact e
      · rw [upd_ne hne.symm, upd_ne hne.symm]; exact hc
end
def rInt1 : List V → Hp → VK → Prop := fun xs H Q => (∃ i, xs = [.int i] ∧ Q (.int i) H) ∨ ∃ k, xs = [.bl k] ∧ Q (.int (if k then 1 else 0)) H
theorem cr_int1 {X : Cx} : CallR X (.type "int") rInt1 := call_int1
section
variable {K : PySem.W.Frag} {σ : L2.St} {H : Hp} {Q : VK}
theorem r_int1b {k : Bool} (h : Q (.int (if k then 1 else 0)) H) : rInt1 [.bl k] H Q := .inr ⟨k, rfl, h⟩
theorem r_int1i {k : Int} (h : Q (.int k) H) : rInt1 [.int k] H Q := .inl ⟨k, rfl, h⟩
theorem r_cat {a b : Addr} {xs ys : List V} (h : H a = some (.lst xs)) (h2 : H b = some (.lst ys)) (z : xs.length + ys.length ≤ sizeLine) (q : ∀ p, H p = none → Q (.ref p) (upd H p (.lst (xs ++ ys)))) : rCat (.ref a) (.ref b) H Q := ⟨a, b, xs, ys, rfl, rfl, h, h2, z, q⟩
theorem r_rep {a : Addr} {k : Int} {xs : List V} (h : H a = some (.lst xs)) (c : -(2 ^ 63) ≤ k ∧ k < 2 ^ 63) (z : xs.length * k.toNat ≤ sizeLine) (q : ∀ p, H p = none → Q (.ref p) (upd H p (.lst (List.replicate k.toNat xs).flatten))) : rRep (.ref a) (.int k) H Q := ⟨a, k, xs, rfl, rfl, h, c.1, c.2, z, q⟩
end
local macro_rules | `(tactic| walk_at "st1") => `(tactic| first
  | with_reducible refine r_int1b ?_
  | with_reducible refine r_int1i ?_)
def sp_law_begun (K : PySem.W.Frag) : Sp := fun vs H Q _ => ∃ (a : Addr) (ns : List Int), vs = [.ref a] ∧ SqL K H a (ns.map .int) ∧ ns.length ≤ 63 ∧
  ∀ s c H', Same H H' → St s c H' → Q (.ref s) H'
section
variable {P : Program} {w : World} {K : PySem.W.Frag} {mg : Str → Option Value} {base : Heap}
theorem ok_law_begun (T : Tx K mg)  {f : Addr} {fd : FuncData} (F : Here K mg "_law_begun" s_law_begun ["script"] f fd) : Cal P w K mg base "_law_begun" 1 ["script"] (sp_law_begun K) s_law_begun f fd := by
  refine F.cal sc_law_begun (fun vs H Q E h => ?_) (fun cdv A outer s H vs Q E hr h => ?_)
  · obtain ⟨a, ns, rfl, _⟩ := h
    rfl
  · obtain ⟨a, ns, rfl, hS, hlen, q⟩ := h
    refine ⟨_, (pss_one (ps_ret (pe_lst (pa_cons (pe_op op_cat (pe_lc rfl sc_law_begun.nd (pi_listK (K := K) (pv 0)) (blkOk_by (own := [("cell", 1)]) (N := ["script", "cell"]) (sc := (defScope s_law_begun)) (by decide +kernel)) (fun _ _ _ _ _ => (pg_name (i := 1) sc_law_begun.nd rfl (by first | exact .inl rfl | exact .inr rfl))) (fun _ _ _ _ _ => pts_nil) (fun _ _ _ _ _ => (pe_callB cr_abs (by rfl) T.m_abs (by decide +kernel) (pa_cons (pv 1) pa_nil)))) (pe_op op_rep (pe_lst (pa_cons pe_int pa_nil)) (pe_callTy cr_int1 (by rfl) T.m_int (by decide +kernel) (pa_cons (pe_cmpR op_eq (pe_callB (cr_lenK (K := K)) (by rfl) T.m_len (by decide +kernel) (pa_cons (pv 0) pa_nil)) pe_int (nomark _)) pa_nil)))) (pa_cons pe_int (pa_cons pe_int pa_nil)))))), ?_⟩
    walk_at "st"
    intro D hD
    refine lc_map (walk_list (a := a) (xs := ns.map V.int)) (by rw [List.length_map]; omega) hD (fun i y _ => ∃ n : Int, y = .int n ∧ 0 ≤ n) (fun _ _ _ _ h _ => h) (fun _ _ _ _ _ h _ => h) (fun H' k => k.seq hS) (fun i H1 x H2 y => by rw [y.1]; exact Same.refl _)
      (fun i x H1 H2 Y No hi sm y hY => ?_) (fun ys H' el sm eD hys => ?_)
    · obtain ⟨rfl, ex⟩ := y
      rw [List.getElem?_map] at ex
      cases en : ns[i]? with
      | none => rw [en] at ex; cases ex
      | some n =>
        rw [en] at ex; cases ex
        refine ⟨rfl, ?_⟩
        walk_at "st"
        refine hY _ _ (Same.refl _) ⟨_, rfl, ?_⟩
        split <;> omega
    · have hall : ∀ y ∈ ys, ∃ n : Int, y = .int n ∧ 0 ≤ n := fun y hy => by
        obtain ⟨i, e⟩ := List.getElem?_of_mem hy
        exact hys i y e
      obtain ⟨cs, rfl, hcs⟩ := ints_of_all hall
      have e2 : cs.length = ns.length := by rw [List.length_map, List.length_map] at el; exact el
      walk_at "st"
      intro l1 hl1
      have hS2 : SqL K (upd H' l1 (.lst [.int 1])) a (ns.map .int) := (sm.trans (Same.upd_new hl1)).seq hS
      walk_at "st"
      rw [List.length_map]
      have fin : ∀ (p : Addr) (H2 : Hp) (zs : List Int), Same H H2 → H2 p = some (.lst (zs.map .int)) → zs ≠ [] → (∀ z ∈ zs, 0 ≤ z) → zs.length ≤ 100 → ∀ s, H2 s = none → Q (.ref s) (upd H2 s (.lst [.ref p, .int 0, .int 1])) := fun p H2 zs s2 ep ne nn ln s hs => by
        have nps : s ≠ p := (ne_of_none ep hs).symm
        exact q s p _ (s2.trans (Same.upd_new hs)) ⟨nps, zs, 0, 1, upd_same, hl_set nps.symm ep, ne, nn, by omega, by omega, by omega, by omega⟩
      have szl : (1000000 : Nat) ≤ sizeLine := by decide
      by_cases h0 : ns.length = 0
      · have e0 : decide (V.int (ns.length : Int) = V.int 0) = true := decide_eq_true (by rw [h0]; rfl)
        rw [e0]
        refine r_rep upd_same (by decide) (by decide) (fun l2 hl2 => ?_)
        refine r_cat (by walk_at "hl") upd_same (by rw [List.length_map]; simp; omega) (fun l3 hl3 => ?_)
        walk_at "st"
        intro s hs
        refine fin l3 _ (cs ++ [1]) (by walk_at "sm") (by rw [upd_same, List.map_append]; rfl) (by simp) (fun z hz => ?_) (by simp; omega) s hs
        rcases List.mem_append.mp hz with h | h
        · exact hcs z h
        · rw [List.mem_singleton.mp h]; decide
      · have e0 : decide (V.int (ns.length : Int) = V.int 0) = false := decide_eq_false (by simp; intro z; rw [z] at h0; exact h0 rfl)
        rw [e0]
        refine r_rep upd_same (by decide) (by decide) (fun l2 hl2 => ?_)
        refine r_cat (by walk_at "hl") upd_same (by rw [List.length_map]; simp; omega) (fun l3 hl3 => ?_)
        walk_at "st"
        intro s hs
        refine fin l3 _ cs (by walk_at "sm") (by rw [upd_same]; simp) (fun z => h0 (by rw [← e2, z]; rfl)) hcs (by omega) s hs
end
/-! ### texts -/
def rLenS : List V → Hp → VK → Prop := fun xs H Q => ∃ z, xs = [.str z] ∧ z.length ≤ sizeLine ∧ Q (.int z.length) H
theorem cr_lenS {X : Cx} : CallR X (.builtin "len") rLenS := call_len_str
def rInS : R2 := fun x y H Q => ∃ (c : Nat) (z : Str), x = .str ⟨#[c]⟩ ∧ y = .str z ∧ Q (.bl (decide (c ∈ z.cps.toList))) H
theorem op_inS {X : Cx} : OpR X (compareOp .In) rInS := op_in_sign
def rNinS : R2 := fun x y H Q => ∃ (c : Nat) (z : Str), x = .str ⟨#[c]⟩ ∧ y = .str z ∧ Q (.bl (!decide (c ∈ z.cps.toList))) H
theorem op_ninS {X : Cx} : OpR X (compareOp .NotIn) rNinS := op_notIn_sign
def rAddS : R2 := fun x y H Q => ∃ i j, x = .str i ∧ y = .str j ∧ i.length + j.length ≤ sizeLine ∧ Q (.str (i ++ j)) H
theorem op_addS {X : Cx} : OpR X (binaryOp .Add) rAddS := op_add_str
section
variable {K : PySem.W.Frag} {σ : L2.St} {H : Hp} {Q : VK}
theorem r_lenS {z : Str} (h : z.length ≤ sizeLine) (q : Q (.int z.length) H) : rLenS [.str z] H Q := ⟨z, rfl, h, q⟩
theorem r_inS {c : Nat} {z : Str} (q : Q (.bl (decide (c ∈ z.cps.toList))) H) : rInS (.str ⟨#[c]⟩) (.str z) H Q := ⟨c, z, rfl, rfl, q⟩
theorem r_ninS {c : Nat} {z : Str} (q : Q (.bl (!decide (c ∈ z.cps.toList))) H) : rNinS (.str ⟨#[c]⟩) (.str z) H Q := ⟨c, z, rfl, rfl, q⟩
theorem r_addS {a b : Str} (h : a.length + b.length ≤ sizeLine) (q : Q (.str (a ++ b)) H) : rAddS (.str a) (.str b) H Q := ⟨a, b, rfl, rfl, h, q⟩
theorem r_ixS {z : Str} {i : Int} {c : Nat} (h : z.length ≤ sizeLine) (e : atI z.cps.toList i = some c) (q : Q (.str ⟨#[c]⟩) H) : rIxS (.str z) (.int i) H Q := ⟨z, i, c, rfl, rfl, h, e, q⟩
def IsR (R : It → Hp → Prop) (v : V) (H : Hp) : Prop := ∃ x, v = .str x ∧ R (Its x) H
theorem r_istr {te : TE} {R : It → Hp → Prop} (h : te σ H (IsR R)) : iStr te σ H R := h
theorem r_is {R : It → Hp → Prop} {x : Str} (h : R (Its x) H) : IsR R (.str x) H := ⟨x, rfl, h⟩
end
theorem str_small {z : Str} (h : z.length ≤ 1000) : z.length ≤ sizeLine := Nat.le_trans h (by decide)
local macro_rules | `(tactic| walk_at "ssz") => `(tactic| first | decide | exact str_small (by assumption) | (have : (1000000 : Nat) ≤ sizeLine := (by decide); omega))
local macro_rules | `(tactic| walk_at "st1") => `(tactic| first
  | with_reducible refine' r_nt ?_ | with_reducible refine' r_nf ?_
  | ((with_reducible refine r_lenS ?e1 ?_); (case e1 => walk_at "ssz"))
  | with_reducible refine r_inS ?_
  | with_reducible refine r_ninS ?_
  | ((with_reducible refine r_addS ?e1 ?_); (case e1 => walk_at "ssz"))
  | ((with_reducible refine' r_ixS ?e1 ?e2 ?_); (case e1 => walk_at "ssz"); (case e2 => first | assumption | rfl))
  | with_reducible refine r_istr ?_
  | with_reducible refine r_is ?_
  | with_reducible refine r_un ?_
  | with_reducible refine r_u ?_)
def cs (x : Str) : List Nat := x.cps.toList
def onlyIn (x z : Str) : Bool := (cs x).all (fun c => decide (c ∈ cs z))
def nameO : O → Bool
  | .str x => decide (1 ≤ x.length) && (decide (x.length ≤ 8) && onlyIn x "abcdefghijklmnopqrstuvwxyz")
  | _ => false
def firstIn (x z : Str) : Bool := match cs x with
  | [] => false
  | c :: _ => decide (c ∈ cs z)
def placeO : O → Bool
  | .str x => decide (1 ≤ x.length) && (decide (x.length ≤ 40) && (firstIn x "abcdefghijklmnopqrstuvwxyz" && onlyIn x "abcdefghijklmnopqrstuvwxyz0123456789."))
  | _ => false
def namedO (m : Int) (more : Str) : O → Bool
  | .str x => decide (1 ≤ x.length) && (decide ((x.length : Int) ≤ m) && (firstIn x "abcdefghijklmnopqrstuvwxyz" && onlyIn x ("abcdefghijklmnopqrstuvwxyz" ++ more)))
  | _ => false
def smallS : O → Prop
  | .str x => x.length ≤ 1000
  | _ => True
def sp_has_only (_ : PySem.W.Frag) : Sp := fun vs H Q _ => ∃ x z : Str, vs = [.str x, .str z] ∧ x.length ≤ 1000 ∧ ∀ H', Same H H' → Q (.bl (onlyIn x z)) H'
def sp_is_name (_ : PySem.W.Frag) : Sp := fun vs H Q _ => ∃ (S : List Addr) (v : V) (o : O), vs = [v] ∧ Rep S H v o ∧ smallS o ∧ ∀ H', Same H H' → Q (.bl (nameO o)) H'
def sp_is_place (_ : PySem.W.Frag) : Sp := fun vs H Q _ => ∃ (S : List Addr) (v : V) (o : O), vs = [v] ∧ Rep S H v o ∧ smallS o ∧ ∀ H', Same H H' → Q (.bl (placeO o)) H'
def sp_law_named (_ : PySem.W.Frag) : Sp := fun vs H Q _ => ∃ (S : List Addr) (v : V) (o : O) (m : Int) (more : Str), vs = [v, .int m, .str more] ∧ Rep S H v o ∧ smallS o ∧ more.length ≤ 1000 ∧ ∀ H', Same H H' → Q (.bl (namedO m more o)) H'
section
variable {P : Program} {w : World} {K : PySem.W.Frag} {mg : Str → Option Value} {base : Heap}
theorem ok_has_only (T : Tx K mg)  {f : Addr} {fd : FuncData} (F : Here K mg "has_only" s_has_only ["text", "signs"] f fd) : Cal P w K mg base "has_only" 1 ["text", "signs"] (sp_has_only K) s_has_only f fd := by
  refine F.cal sc_has_only (fun vs H Q E h => ?_) (fun cdv A outer s H vs Q E hr h => ?_)
  · obtain ⟨x, z, rfl, _⟩ := h
    rfl
  · obtain ⟨x, z, rfl, hx, q⟩ := h
    refine ⟨_, (pss_one (ps_ret (pe_callB (cr_allK (K := K) rfl) (by rfl) T.m_all (by decide +kernel) (pa_cons (pe_lc rfl sc_has_only.nd (pi_str (pv 0)) (blkOk_by (own := [("sign", 2)]) (N := ["text", "signs", "sign"]) (sc := (defScope s_has_only)) (by decide +kernel)) (fun _ _ _ _ _ => (pg_name (i := 2) sc_has_only.nd rfl (by first | exact .inl rfl | exact .inr rfl))) (fun _ _ _ _ _ => pts_nil) (fun _ _ _ _ _ => (pe_cmpR op_inS (pv 2) (pv 1) (by rfl)))) pa_nil)))), ?_⟩
    walk_at "st"
    intro D hD
    have hx2 : x.cps.size ≤ 1000 := hx
    refine lc_map (walk_str (z := x)) (by omega) hD (fun i y _ => ∃ c, x.cps[i]? = some c ∧ y = .bl (decide (c ∈ cs z))) (fun _ _ _ _ h _ => h) (fun _ _ _ _ _ h _ => h) (fun _ _ => trivial) (fun i H1 x H2 y => by rw [y.1]; exact Same.refl _)
      (fun i x' H1 H2 Y No hi sm y hY => ?_) (fun ys H' el sm eD hys => ?_)
    · obtain ⟨rfl, c, ec, rfl⟩ := y
      refine ⟨rfl, ?_⟩
      walk_at "st"
      exact hY _ _ (Same.refl _) ⟨c, ec, rfl⟩
    · have eys : ys = ((cs x).map fun c => decide (c ∈ cs z)).map V.bl := by
        apply List.ext_getElem?
        intro i
        cases e2 : ys[i]? with
        | none =>
          rw [List.getElem?_eq_none_iff] at e2
          rw [List.getElem?_eq_none_iff.mpr (by simp [cs]; omega)]
        | some y =>
          obtain ⟨c, ec, rfl⟩ := hys i y e2
          have : (cs x)[i]? = some c := by unfold cs; rw [Array.getElem?_toList]; exact ec
          rw [List.getElem?_map, List.getElem?_map, this]; rfl
      subst eys
      walk_at "st"
      have := q H' sm
      rw [List.all_map]
      exact this
theorem ok_is_name (T : Tx K mg) {f_has_only : Addr} {fd_has_only : FuncData} (C_has_only : Cal P w K mg base "has_only" 1 ["text", "signs"] (sp_has_only K) s_has_only f_has_only fd_has_only) {f : Addr} {fd : FuncData} (F : Here K mg "is_name" s_is_name ["thing"] f fd) : Cal P w K mg base "is_name" 2 ["thing"] (sp_is_name K) s_is_name f fd := by
  refine F.cal sc_is_name (fun vs H Q E h => ?_) (fun cdv A outer s H vs Q E hr h => ?_)
  · obtain ⟨S, v, o, rfl, _⟩ := h
    rfl
  · obtain ⟨S, v, o, rfl, r, sm0, q⟩ := h
    refine ⟨_, (pss_one (ps_ret (pe_and (pe_callB (cr_isiK (K := K)) (by rfl) T.m_isinstance (by decide +kernel) (pa_cons (pv 0) (pa_cons (pe_bltn (v := .ty "str") (by rfl) T.m_str (by decide +kernel) rfl) pa_nil))) (pe_and (pe_chain op_le op_le pe_int (pe_callB cr_lenS (by rfl) T.m_len (by decide +kernel) (pa_cons (pv 0) pa_nil)) (pe_glob (v := .int 8) (by rfl) (T.c_LONGEST_NAME).choose_spec ⟨_, rfl⟩)) (pe_one (pe_call C_has_only.ok (hr.mono (by decide)) (by rfl) C_has_only.at_ C_has_only.kp C_has_only.b .nil pass0 (pa_cons (pv 0) (pa_cons (pe_glob (v := .str "abcdefghijklmnopqrstuvwxyz") (by rfl) (T.c_LETTERS).choose_spec ⟨_, rfl⟩) pa_nil)))))))), ?_⟩
    cases r with
    | str x =>
      have hx : x.length ≤ 1000 := sm0
      walk_at "st"
      refine r_ite (fun h1 => ?_) (fun h1 => ?_)
      · walk_at "st"
        refine r_iteB (fun h2 => ?_) (fun h2 => ?_)
        · walk_at "st"
          refine ⟨x, _, rfl, hx, fun H' sm => ?_⟩
          have := q H' sm
          have e : nameO (.str x) = onlyIn x "abcdefghijklmnopqrstuvwxyz" := by
            simp at h1 h2
            simp [nameO, show 1 ≤ x.length by omega, show x.length ≤ 8 by omega]
          rw [e] at this
          exact this
        · have := q H (Same.refl _)
          have e : nameO (.str x) = false := by
            simp at h2
            simp [nameO]; omega
          rw [e] at this
          exact this
      · walk_at "st"
        have := q H (Same.refl _)
        have e : nameO (.str x) = false := by
          simp [nameO]; omega
        rw [e] at this
        exact this
    | _ => (walk_at "st"; exact q H (Same.refl _))
end
local macro_rules | `(tactic| walk_at "ssz") => `(tactic| first | decide | exact str_small (by assumption) | (have : (1000000 : Nat) ≤ sizeLine := (by decide); omega))
local macro_rules | `(tactic| walk_at "st1") => `(tactic| first
  | with_reducible refine' r_nt ?_ | with_reducible refine' r_nf ?_
  | ((with_reducible refine r_lenS ?e1 ?_); (case e1 => walk_at "ssz"))
  | with_reducible refine r_inS ?_
  | with_reducible refine r_ninS ?_
  | ((with_reducible refine r_addS ?e1 ?_); (case e1 => walk_at "ssz"))
  | ((with_reducible refine' r_ixS ?e1 ?e2 ?_); (case e1 => walk_at "ssz"); (case e2 => first | assumption | rfl))
  | with_reducible refine r_istr ?_
  | with_reducible refine r_is ?_
  | with_reducible refine r_un ?_
  | with_reducible refine r_u ?_)
theorem cs_append (x y : Str) : cs (x ++ y) = cs x ++ cs y := by
  show (x.cps ++ y.cps).toList = _
  rw [Array.toList_append]; rfl
theorem cs_len (x : Str) : (cs x).length = x.length := by
  show x.cps.toList.length = x.cps.size
  rw [Array.length_toList]
theorem first_at {x : Str} (h : 1 ≤ x.length) : ∃ c, atI x.cps.toList 0 = some c ∧ ∀ z, firstIn x z = decide (c ∈ cs z) := by
  have hl := cs_len x
  cases e : cs x with
  | nil => rw [e] at hl; simp at hl; omega
  | cons c r =>
    refine ⟨c, ?_, fun z => ?_⟩
    · have : x.cps.toList = c :: r := e
      rw [this]; exact atI_nat (j := 0) rfl
    · unfold firstIn; rw [e]
section
variable {P : Program} {w : World} {K : PySem.W.Frag} {mg : Str → Option Value} {base : Heap}
theorem ok_is_place (T : Tx K mg) {f_has_only : Addr} {fd_has_only : FuncData} (C_has_only : Cal P w K mg base "has_only" 1 ["text", "signs"] (sp_has_only K) s_has_only f_has_only fd_has_only) {f : Addr} {fd : FuncData} (F : Here K mg "is_place" s_is_place ["thing"] f fd) : Cal P w K mg base "is_place" 2 ["thing"] (sp_is_place K) s_is_place f fd := by
  refine F.cal sc_is_place (fun vs H Q E h => ?_) (fun cdv A outer s H vs Q E hr h => ?_)
  · obtain ⟨S, v, o, rfl, _⟩ := h
    rfl
  · obtain ⟨S, v, o, rfl, r, sm0, q⟩ := h
    refine ⟨_, (pss_cons (ps_if (PW.pt (pw_or (pt_not (pt_val (pe_callB (cr_isiK (K := K)) (by rfl) T.m_isinstance (by decide +kernel) (pa_cons (pv 0) (pa_cons (pe_bltn (v := .ty "str") (by rfl) T.m_str (by decide +kernel) rfl) pa_nil))))) (pw_or1 (pt_not (pt_chain op_le op_le pe_int (pe_callB cr_lenS (by rfl) T.m_len (by decide +kernel) (pa_cons (pv 0) pa_nil)) (pe_glob (v := .int 40) (by rfl) (T.c_LONGEST_PLACE).choose_spec ⟨_, rfl⟩)))))) (pss_one (ps_ret pe_bl)) pss_nil)
      (pss_one (ps_ret (pe_and (pe_cmpR op_inS (pe_ix ix_str (pv 0) pe_int (fun _ _ => rfl)) (pe_glob (v := .str "abcdefghijklmnopqrstuvwxyz") (by rfl) (T.c_LETTERS).choose_spec ⟨_, rfl⟩) (by rfl)) (pe_one (pe_call C_has_only.ok (hr.mono (by decide)) (by rfl) C_has_only.at_ C_has_only.kp C_has_only.b .nil pass0 (pa_cons (pv 0) (pa_cons (pe_op op_addS (pe_op op_addS (pe_glob (v := .str "abcdefghijklmnopqrstuvwxyz") (by rfl) (T.c_LETTERS).choose_spec ⟨_, rfl⟩) (pe_glob (v := .str "0123456789") (by rfl) (T.c_FIGURES).choose_spec ⟨_, rfl⟩)) pe_str) pa_nil)))))))), ?_⟩
    cases r with
    | str x =>
      have hx : x.length ≤ 1000 := sm0
      walk_at "st"
      refine r_join (fun σ' H' => σ' = [some (.str x)] ∧ H' = H ∧ 1 ≤ x.length ∧ x.length ≤ 40) (fun σ' H' g => ?_) (fun N hN => ?_)
      · obtain ⟨rfl, rfl, g1, g2⟩ := g
        obtain ⟨c, ec, hc⟩ := first_at g1
        walk_at "st"
        refine r_iteB (fun h2 => ?_) (fun h2 => ?_)
        · walk_at "st"
          refine ⟨x, _, rfl, hx, fun H' sm => ?_⟩
          have := q H' sm
          have e : placeO (.str x) = onlyIn x ("abcdefghijklmnopqrstuvwxyz" ++ "0123456789" ++ ".") := by
            have e1 : firstIn x "abcdefghijklmnopqrstuvwxyz" = true := by rw [hc]; exact h2
            show (decide (1 ≤ x.length) && (decide (x.length ≤ 40) && (firstIn x "abcdefghijklmnopqrstuvwxyz" && _))) = _
            rw [e1, decide_eq_true g1, decide_eq_true g2]
            rfl
          rw [e] at this
          exact this
        · have := q H' (Same.refl _)
          have e : placeO (.str x) = false := by
            have e1 : firstIn x "abcdefghijklmnopqrstuvwxyz" = false := by rw [hc]; exact h2
            show (decide (1 ≤ x.length) && (decide (x.length ≤ 40) && (firstIn x "abcdefghijklmnopqrstuvwxyz" && _))) = _
            rw [e1]; simp
          rw [e] at this
          exact this
      · have no : ¬(1 ≤ x.length ∧ x.length ≤ 40) → Q (.bl false) H := fun z => by
          have := q H (Same.refl _)
          have e : placeO (.str x) = false := by
            by_cases h1 : 1 ≤ x.length
            · have h2 : ¬ x.length ≤ 40 := fun z2 => z ⟨h1, z2⟩
              simp [placeO, h2]
            · simp [placeO, h1]
          rw [e] at this
          exact this
        walk_at "if"
        refine r_ite (fun h1 => ?_) (fun h1 => ?_)
        · walk_at "st"
          by_cases h2 : (x.length : Int) ≤ 40
          · rw [decide_eq_true h2]
            walk_at "st"
            exact hN _ _ ⟨rfl, rfl, by omega, by omega⟩
          · rw [decide_eq_false h2]
            walk_at "st"
            exact no (by omega)
        · walk_at "st"
          exact no (by omega)
    | _ => (walk_at "st"; walk_at "if"; exact q H (Same.refl _))
theorem ok_law_named (T : Tx K mg)  {f : Addr} {fd : FuncData} (F : Here K mg "_law_named" s_law_named ["what", "most", "more"] f fd) : Cal P w K mg base "_law_named" 1 ["what", "most", "more"] (sp_law_named K) s_law_named f fd := by
  refine F.cal sc_law_named (fun vs H Q E h => ?_) (fun cdv A outer s H vs Q E hr h => ?_)
  · obtain ⟨S, v, o, m, more, rfl, _⟩ := h
    rfl
  · obtain ⟨S, v, o, m, more, rfl, r, sm0, hm, q⟩ := h
    refine ⟨_, (pss_cons (ps_if (PW.pt (pw_or (pt_not (pt_val (pe_callB (cr_isiK (K := K)) (by rfl) T.m_isinstance (by decide +kernel) (pa_cons (pv 0) (pa_cons (pe_bltn (v := .ty "str") (by rfl) T.m_str (by decide +kernel) rfl) pa_nil))))) (pw_or1 (pt_not (pt_chain op_le op_le pe_int (pe_callB cr_lenS (by rfl) T.m_len (by decide +kernel) (pa_cons (pv 0) pa_nil)) (pv 1)))))) (pss_one (ps_ret pe_bl)) pss_nil)
      (pss_cons (ps_set (i := 3) sc_law_named.nd rfl (by first | exact .inl rfl | exact .inr rfl) pe_str)
      (pss_one (ps_ret (pe_and (pe_cmpR op_inS (pe_ix ix_str (pv 0) pe_int (fun _ _ => rfl)) (pv 3) (by rfl)) (pe_one (pe_cmpR (op_eqNilK (K := K) (hu_of64 hr)) (pe_lc rfl sc_law_named.nd (pi_str (pv 0)) (blkOk_by (own := [("sign", 4)]) (N := ["what", "most", "more", "letters", "sign"]) (sc := (defScope s_law_named)) (by decide +kernel)) (fun _ _ _ _ _ => (pg_name (i := 4) sc_law_named.nd rfl (by first | exact .inl rfl | exact .inr rfl))) (fun _ _ _ _ _ => (pts_one (pt_cmpR op_ninS (pv 4) (pe_op op_addS (pv 3) (pv 2)) (by rfl)))) (fun _ _ _ _ _ => (pv 4))) (pe_lst pa_nil) (nomark _)))))))), ?_⟩
    cases r with
    | str x =>
      have hx : x.length ≤ 1000 := sm0
      have hx2 : x.cps.size ≤ 1000 := hx
      walk_at "st"
      refine r_join (fun σ' H' => σ' = [some (.str x), some (.int m), some (.str more), none, none] ∧ H' = H ∧ 1 ≤ x.length ∧ (x.length : Int) ≤ m) (fun σ' H' g => ?_) (fun N hN => ?_)
      · obtain ⟨rfl, rfl, g1, g2⟩ := g
        obtain ⟨c, ec, hc⟩ := first_at g1
        walk_at "st"
        refine r_iteB (fun h2 => ?_) (fun h2 => ?_)
        · walk_at "st"
          intro D hD
          refine lc_filt (walk_str (z := x)) (by omega) hD (fun i => !decide ((cs x).getD i 0 ∈ cs ("abcdefghijklmnopqrstuvwxyz" ++ more))) (fun _ _ => trivial) (fun i H1 x H2 y => by rw [y.1]; exact Same.refl _)
            (fun i x' H1 H2 Y No hi sm y hY hN => ?_) (fun ys H5 ee el sm eD => ?_)
          · obtain ⟨rfl, c', ec', rfl⟩ := y
            have e3 : (cs x).getD i 0 = c' := by
              have : (cs x)[i]? = some c' := by unfold cs; rw [Array.getElem?_toList]; exact ec'
              simp [List.getD, this]
            rw [e3] at hY hN
            have l1 : (Str.ofString "abcdefghijklmnopqrstuvwxyz").length + more.length ≤ 2000 := by
              have : (Str.ofString "abcdefghijklmnopqrstuvwxyz").length = 26 := by decide
              omega
            refine ⟨rfl, ?_⟩
            walk_at "st"
            cases hd : decide (c' ∈ cs ("abcdefghijklmnopqrstuvwxyz" ++ more)) with
            | true =>
              rw [hd] at hN
              have hd : decide (c' ∈ (Str.ofString "abcdefghijklmnopqrstuvwxyz" ++ more).cps.toList) = true := hd
              rw [hd]
              walk_at "st"
              exact hN rfl _ (Same.refl _)
            | false =>
              rw [hd] at hY
              have hd : decide (c' ∈ (Str.ofString "abcdefghijklmnopqrstuvwxyz" ++ more).cps.toList) = false := hd
              rw [hd]
              walk_at "st"
              exact hY rfl _ _ (Same.refl _)
          · walk_at "st"
            intro p hp
            walk_at "st"
            have := q (upd H5 p (.lst [])) (by walk_at "sm")
            have e : namedO m more (.str x) = ys.isEmpty := by
              have e1 : firstIn x "abcdefghijklmnopqrstuvwxyz" = true := by rw [hc]; exact h2
              show (decide (1 ≤ x.length) && (decide ((x.length : Int) ≤ m) && (firstIn x "abcdefghijklmnopqrstuvwxyz" && _))) = _
              rw [e1, decide_eq_true g1, decide_eq_true g2, ee]
              have h7 : x.cps.size = (cs x).length := (cs_len x).symm
              rw [h7]
              have h8 := range_all (fun c => decide (c ∈ cs ("abcdefghijklmnopqrstuvwxyz" ++ more))) 0 (cs x)
              show onlyIn x _ = _
              unfold onlyIn
              rw [← h8]
              simp
            rw [e] at this
            exact this
        · have := q H' (Same.refl _)
          have e : namedO m more (.str x) = false := by
            have e1 : firstIn x "abcdefghijklmnopqrstuvwxyz" = false := by rw [hc]; exact h2
            show (decide (1 ≤ x.length) && (decide ((x.length : Int) ≤ m) && (firstIn x "abcdefghijklmnopqrstuvwxyz" && _))) = _
            rw [e1]; simp
          rw [e] at this
          exact this
      · have no : ¬(1 ≤ x.length ∧ (x.length : Int) ≤ m) → Q (.bl false) H := fun z => by
          have := q H (Same.refl _)
          have e : namedO m more (.str x) = false := by
            by_cases h1 : 1 ≤ x.length
            · have h2 : ¬ (x.length : Int) ≤ m := fun z2 => z ⟨h1, z2⟩
              simp [namedO, h2]
            · simp [namedO, h1]
          rw [e] at this
          exact this
        walk_at "if"
        refine r_ite (fun h1 => ?_) (fun h1 => ?_)
        · walk_at "st"
          by_cases h2 : (x.length : Int) ≤ m
          · rw [decide_eq_true h2]
            walk_at "st"
            exact hN _ _ ⟨rfl, rfl, by omega, by omega⟩
          · rw [decide_eq_false h2]
            walk_at "st"
            exact no (by omega)
        · walk_at "st"
          exact no (by omega)
    | _ => (walk_at "st"; walk_at "if"; exact q H (Same.refl _))
end
local macro_rules | `(tactic| walk_at "ssz") => `(tactic| first | decide | exact str_small (by assumption) | (have : (1000000 : Nat) ≤ sizeLine := (by decide); omega))
local macro_rules | `(tactic| walk_at "st1") => `(tactic| first
  | with_reducible refine' r_nt ?_ | with_reducible refine' r_nf ?_
  | ((with_reducible refine r_lenS ?e1 ?_); (case e1 => walk_at "ssz"))
  | with_reducible refine r_inS ?_
  | with_reducible refine r_ninS ?_
  | ((with_reducible refine r_addS ?e1 ?_); (case e1 => walk_at "ssz"))
  | ((with_reducible refine' r_ixS ?e1 ?e2 ?_); (case e1 => walk_at "ssz"); (case e2 => first | assumption | rfl))
  | with_reducible refine r_istr ?_
  | with_reducible refine r_is ?_
  | with_reducible refine r_un ?_
  | with_reducible refine r_u ?_)
def wholeO : O → Bool
  | .int _ => true
  | _ => false
def numO (p : Int) : O → Bool
  | .int n => decide (0 ≤ n) && decide (n < p)
  | _ => false
def sp_is_whole (_ : PySem.W.Frag) : Sp := fun vs H Q _ => ∃ (S : List Addr) (v : V) (o : O), vs = [v] ∧ Rep S H v o ∧ Q (.bl (wholeO o)) H
def sp_law_whole (_ : PySem.W.Frag) : Sp := fun vs H Q _ => ∃ (S : List Addr) (v : V) (o : O), vs = [v] ∧ Rep S H v o ∧ Q (.bl (wholeO o)) H
def sp_is_number (_ : PySem.W.Frag) : Sp := fun vs H Q _ => ∃ (S : List Addr) (v : V) (o : O) (p : Int), vs = [v, .int p] ∧ Rep S H v o ∧ Q (.bl (numO p o)) H
section
variable {P : Program} {w : World} {K : PySem.W.Frag} {mg : Str → Option Value} {base : Heap}
theorem ok_is_whole (T : Tx K mg)  {f : Addr} {fd : FuncData} (F : Here K mg "is_whole" s_is_whole ["thing"] f fd) : Cal P w K mg base "is_whole" 1 ["thing"] (sp_is_whole K) s_is_whole f fd := by
  refine F.cal sc_is_whole (fun vs H Q E h => ?_) (fun cdv A outer s H vs Q E hr h => ?_)
  · obtain ⟨S, v, o, rfl, _⟩ := h
    rfl
  · obtain ⟨S, v, o, rfl, r, q⟩ := h
    refine ⟨_, (pss_one (ps_ret (pe_and (pe_callB (cr_isiK (K := K)) (by rfl) T.m_isinstance (by decide +kernel) (pa_cons (pv 0) (pa_cons (pe_bltn (v := .ty "int") (by rfl) T.m_int (by decide +kernel) rfl) pa_nil))) (pe_one (pe_not (pe_callB (cr_isiK (K := K)) (by rfl) T.m_isinstance (by decide +kernel) (pa_cons (pv 0) (pa_cons (pe_bltn (v := .ty "bool") (by rfl) T.m_bool (by decide +kernel) rfl) pa_nil)))))))), ?_⟩
    cases r <;> (walk_at "st"; exact q)
theorem ok_is_number (T : Tx K mg) {f_is_whole : Addr} {fd_is_whole : FuncData} (C_is_whole : Cal P w K mg base "is_whole" 1 ["thing"] (sp_is_whole K) s_is_whole f_is_whole fd_is_whole) {f : Addr} {fd : FuncData} (F : Here K mg "is_number" s_is_number ["thing", "p"] f fd) : Cal P w K mg base "is_number" 2 ["thing", "p"] (sp_is_number K) s_is_number f fd := by
  refine F.cal sc_is_number (fun vs H Q E h => ?_) (fun cdv A outer s H vs Q E hr h => ?_)
  · obtain ⟨S, v, o, p, rfl, _⟩ := h
    rfl
  · obtain ⟨S, v, o, p, rfl, r, q⟩ := h
    refine ⟨_, (pss_one (ps_ret (pe_and (pe_call C_is_whole.ok (hr.mono (by decide)) (by rfl) C_is_whole.at_ C_is_whole.kp C_is_whole.b .nil pass0 (pa_cons (pv 0) pa_nil)) (pe_one (pe_chain op_le op_lt pe_int (pv 0) (pv 1)))))), ?_⟩
    walk_at "st"
    refine ⟨S, v, o, rfl, r, ?_⟩
    cases r with
    | int n =>
      walk_at "st"
      refine r_iteB (fun _ => ?_) (fun z => by cases z)
      walk_at "st"
      refine r_ite (fun h1 => ?_) (fun h1 => ?_)
      · walk_at "st"
        simpa [numO, h1] using q
      · simpa [numO, h1] using q
    | _ => (walk_at "st"; exact r_iteB (fun z => by cases z) (fun _ => q))
theorem ok_law_whole (T : Tx K mg)  {f : Addr} {fd : FuncData} (F : Here K mg "_law_whole" s_law_whole ["what"] f fd) : Cal P w K mg base "_law_whole" 1 ["what"] (sp_law_whole K) s_law_whole f fd := by
  refine F.cal sc_law_whole (fun vs H Q E h => ?_) (fun cdv A outer s H vs Q E hr h => ?_)
  · obtain ⟨S, v, o, rfl, _⟩ := h
    rfl
  · obtain ⟨S, v, o, rfl, r, q⟩ := h
    refine ⟨_, (pss_one (ps_ret (pe_and (pe_callB (cr_isiK (K := K)) (by rfl) T.m_isinstance (by decide +kernel) (pa_cons (pv 0) (pa_cons (pe_bltn (v := .ty "int") (by rfl) T.m_int (by decide +kernel) rfl) pa_nil))) (pe_one (pe_not (pe_callB (cr_isiK (K := K)) (by rfl) T.m_isinstance (by decide +kernel) (pa_cons (pv 0) (pa_cons (pe_bltn (v := .ty "bool") (by rfl) T.m_bool (by decide +kernel) rfl) pa_nil)))))))), ?_⟩
    cases r <;> (walk_at "st"; exact q)
end
local macro_rules | `(tactic| walk_at "ssz") => `(tactic| first | decide | exact str_small (by assumption) | (have : (1000000 : Nat) ≤ sizeLine := (by decide); omega))
local macro_rules | `(tactic| walk_at "st1") => `(tactic| first
  | with_reducible refine' r_nt ?_ | with_reducible refine' r_nf ?_
  | ((with_reducible refine r_lenS ?e1 ?_); (case e1 => walk_at "ssz"))
  | with_reducible refine r_inS ?_
  | with_reducible refine r_ninS ?_
  | ((with_reducible refine r_addS ?e1 ?_); (case e1 => walk_at "ssz"))
  | ((with_reducible refine' r_ixS ?e1 ?e2 ?_); (case e1 => walk_at "ssz"); (case e2 => first | assumption | rfl))
  | with_reducible refine r_istr ?_
  | with_reducible refine r_is ?_
  | with_reducible refine r_un ?_
  | with_reducible refine r_u ?_)
/-- no divisor from 2 on, below n; the same by the small ones alone -/
def noDiv (n : Nat) : Bool := (List.range (n - 2)).all fun j => n % (j + 2) != 0
def smallDiv (n : Nat) : Bool := (List.range 30).all fun j => !decide ((j + 2) * (j + 2) ≤ n) || (n % (j + 2) != 0)
theorem divs : (List.range 998).all (fun n => decide (n < 2) || (noDiv n == smallDiv n)) = true := by decide +kernel
theorem small_is {n : Nat} (h : 2 ≤ n) (h2 : n ≤ 997) : smallDiv n = noDiv n := by
  have := List.all_eq_true.mp divs n (List.mem_range.mpr (by omega))
  simp [show ¬ n < 2 by omega] at this
  exact this.symm
def primeO : O → Bool
  | .int n => decide (2 ≤ n) && (decide (n ≤ 997) && noDiv n.toNat)
  | _ => false
theorem primeO_in {n : Int} (h : 2 ≤ n) (h2 : n ≤ 997) : primeO (.int n) = noDiv n.toNat := by simp [primeO, h, h2]
theorem primeO_out {n : Int} (h : ¬(2 ≤ n ∧ n ≤ 997)) : primeO (.int n) = false := by
  by_cases h1 : 2 ≤ n
  · have h2 : ¬ n ≤ 997 := fun z => h ⟨h1, z⟩
    simp [primeO, h2]
  · simp [primeO, h1]
def sp_is_prime (_ : PySem.W.Frag) : Sp := fun vs H Q _ => ∃ (S : List Addr) (v : V) (o : O), vs = [v] ∧ Rep S H v o ∧ ∀ H', Same H H' → Q (.bl (primeO o)) H'
def sp_law_primed (_ : PySem.W.Frag) : Sp := fun vs H Q _ => ∃ (S : List Addr) (v : V) (o : O), vs = [v] ∧ Rep S H v o ∧ ∀ H', Same H H' → Q (.bl (primeO o)) H'
theorem whole_cases {o : O} (h : wholeO o = true) : ∃ n, o = .int n := by
  cases o with
  | int n => exact ⟨n, rfl⟩
  | _ => cases h
theorem prime_not {o : O} (h : wholeO o = false) : primeO o = false := by
  cases o with
  | int n => cases h
  | _ => rfl
theorem natmod {n : Int} (h : 0 ≤ n) (k : Nat) : n % ((2 : Int) + k) = ((n.toNat % (k + 2) : Nat) : Int) := by
  obtain ⟨m, rfl⟩ := Int.eq_ofNat_of_zero_le h
  rw [show (2 : Int) + k = ((k + 2 : Nat) : Int) by omega]
  rfl
section
variable {P : Program} {w : World} {K : PySem.W.Frag} {mg : Str → Option Value} {base : Heap}
theorem ok_is_prime (T : Tx K mg) {f_is_whole : Addr} {fd_is_whole : FuncData} (C_is_whole : Cal P w K mg base "is_whole" 1 ["thing"] (sp_is_whole K) s_is_whole f_is_whole fd_is_whole) {f : Addr} {fd : FuncData} (F : Here K mg "is_prime" s_is_prime ["thing"] f fd) : Cal P w K mg base "is_prime" 2 ["thing"] (sp_is_prime K) s_is_prime f fd := by
  refine F.cal sc_is_prime (fun vs H Q E h => ?_) (fun cdv A outer s H vs Q E hr h => ?_)
  · obtain ⟨S, v, o, rfl, _⟩ := h
    rfl
  · obtain ⟨S, v, o, rfl, r, q⟩ := h
    refine ⟨_, (pss_cons (ps_if (PW.pt (pw_or (pt_not (pt_val (pe_call C_is_whole.ok (hr.mono (by decide)) (by rfl) C_is_whole.at_ C_is_whole.kp C_is_whole.b .nil pass0 (pa_cons (pv 0) pa_nil)))) (pw_or (pt_cmpR op_lt (pv 0) pe_int (nomark _)) (pw_or1 (pt_cmpR op_gt (pv 0) (pe_glob (v := .int 997) (by rfl) (T.c_HIGHEST_PRIME).choose_spec ⟨_, rfl⟩) (nomark _)))))) (pss_one (ps_ret pe_bl)) pss_nil)
      (pss_one (ps_ret (pe_callB (cr_allK (K := K) rfl) (by rfl) T.m_all (by decide +kernel) (pa_cons (pe_lc rfl sc_is_prime.nd (pi_range2 (by rfl) T.m_range (pa_cons pe_int (pa_cons pe_int pa_nil))) (blkOk_by (own := [("k", 1)]) (N := ["thing", "k"]) (sc := (defScope s_is_prime)) (by decide +kernel)) (fun _ _ _ _ _ => (pg_name (i := 1) sc_is_prime.nd rfl (by first | exact .inl rfl | exact .inr rfl))) (fun _ _ _ _ _ => (pts_one (pt_cmpR op_le (pe_op op_mul (pv 1) (pv 1)) (pv 0) (nomark _)))) (fun _ _ _ _ _ => (pe_cmpR op_ne (pe_op op_mod (pv 0) (pv 1)) pe_int (nomark _)))) pa_nil))))), ?_⟩
    walk_at "st"
    walk_at "if"
    refine ⟨S, v, o, rfl, r, ?_⟩
    walk_at "st"
    cases hw : wholeO o with
    | false =>
      walk_at "st"
      have := q H (Same.refl _)
      rw [prime_not hw] at this
      exact this
    | true =>
      obtain ⟨n, rfl⟩ := whole_cases hw
      cases r
      walk_at "st"
      refine r_ite (fun h1 => ?_) (fun h1 => ?_)
      · walk_at "st"
        have := q H (Same.refl _)
        rw [primeO_out (by omega)] at this
        exact this
      · walk_at "st"
        refine r_ite (fun h2 => ?_) (fun h2 => ?_)
        · walk_at "st"
          have := q H (Same.refl _)
          rw [primeO_out (by omega)] at this
          exact this
        · walk_at "st"
          intro D hD
          have szl : (1000000 : Nat) ≤ sizeLine := by decide
          refine lc_by (walk_range (lo := 2) (n := (32 - 2 : Int).toNat)) (fun i H' => Same H H' ∧ ∃ bs : List Bool, H' D = some (.lst (bs.map V.bl)) ∧ bs.length ≤ i ∧ bs.all id = (List.range i).all (fun j => !decide ((j + 2) * (j + 2) ≤ n.toNat) || (n.toNat % (j + 2) != 0))) ⟨Same.upd_new hD, [], upd_same, Nat.le_refl _, rfl⟩ (fun _ _ _ _ => trivial) (fun i x H1 H2 hi p y => ?_) (fun H' p => ?_)
          · obtain ⟨sm, bs, eD, el, ea⟩ := p
            obtain ⟨rfl, rfl⟩ := y
            have hi2 : i < 30 := hi
            have hk : ((2 : Int) + i) * (2 + i) ≤ n ↔ (i + 2) * (i + 2) ≤ n.toNat := by
              rw [show ((2 : Int) + i) * (2 + i) = (((i + 2) * (i + 2) : Nat) : Int) by rw [show (2 : Int) + i = ((i + 2 : Nat) : Int) by omega]; rfl]
              omega
            refine ⟨rfl, ?_⟩
            walk_at "st"
            refine r_ite (fun h3 => ?_) (fun h3 => ?_)
            · walk_at "st"
              refine ⟨bs.map V.bl, eD, by rw [List.length_map]; omega, fun b o e => hl_set (ne_of_none e hD) (sm _ _ e), bs ++ [!decide (V.int (n % (2 + (i : Int))) = V.int 0)], by rw [upd_same, List.map_append]; rfl, by simp; omega, ?_⟩
              rw [List.all_append, ea, List.range_succ, List.all_append]
              have e4 := natmod (n := n) (by omega) i
              rw [e4]
              have e5 : decide ((i + 2) * (i + 2) ≤ n.toNat) = true := decide_eq_true (hk.mp h3)
              simp only [List.all_cons, List.all_nil, e5, Bool.and_true, id]
              congr 1
              simp only [V.int.injEq, Bool.not_true, Bool.false_or]
              by_cases h7 : n.toNat % (i + 2) = 0
              · rw [h7]; rfl
              · have h8 : ¬ (((n.toNat % (i + 2) : Nat) : Int) = 0) := by omega
                rw [decide_eq_false h8]
                simp [h7]
            · refine ⟨sm, bs, eD, by omega, ?_⟩
              rw [ea, List.range_succ, List.all_append]
              have e5 : decide ((i + 2) * (i + 2) ≤ n.toNat) = false := decide_eq_false (fun z => h3 (hk.mpr z))
              simp only [List.all_cons, List.all_nil, e5, Bool.and_true]
              simp
          · obtain ⟨sm, bs, eD, el, ea⟩ := p
            walk_at "st"
            have := q H' sm
            rw [primeO_in (by omega) (by omega), ← small_is (by omega) (by omega)] at this
            rw [ea]
            exact this
theorem ok_law_primed (T : Tx K mg) {f_law_whole : Addr} {fd_law_whole : FuncData} (C_law_whole : Cal P w K mg base "_law_whole" 1 ["what"] (sp_law_whole K) s_law_whole f_law_whole fd_law_whole) {f : Addr} {fd : FuncData} (F : Here K mg "_law_primed" s_law_primed ["what"] f fd) : Cal P w K mg base "_law_primed" 2 ["what"] (sp_law_primed K) s_law_primed f fd := by
  refine F.cal sc_law_primed (fun vs H Q E h => ?_) (fun cdv A outer s H vs Q E hr h => ?_)
  · obtain ⟨S, v, o, rfl, _⟩ := h
    rfl
  · obtain ⟨S, v, o, rfl, r, q⟩ := h
    refine ⟨_, (pss_cons (ps_if (PW.pt (pw_or (pt_not (pt_val (pe_call C_law_whole.ok (hr.mono (by decide)) (by rfl) C_law_whole.at_ C_law_whole.kp C_law_whole.b .nil pass0 (pa_cons (pv 0) pa_nil)))) (pw_or1 (pt_not (pt_chain op_le op_le pe_int (pv 0) pe_int))))) (pss_one (ps_ret pe_bl)) pss_nil)
      (pss_one (ps_ret (pe_cmpR (op_eqNilK (K := K) (hu_of64 hr)) (pe_lc rfl sc_law_primed.nd (pi_range2 (by rfl) T.m_range (pa_cons pe_int (pa_cons (pv 0) pa_nil))) (blkOk_by (own := [("least", 1)]) (N := ["what", "least"]) (sc := (defScope s_law_primed)) (by decide +kernel)) (fun _ _ _ _ _ => (pg_name (i := 1) sc_law_primed.nd rfl (by first | exact .inl rfl | exact .inr rfl))) (fun _ _ _ _ _ => (pts_one (pt_cmpR op_eq (pe_op op_mod (pv 0) (pv 1)) pe_int (nomark _)))) (fun _ _ _ _ _ => (pv 1))) (pe_lst pa_nil) (nomark _))))), ?_⟩
    walk_at "st"
    walk_at "if"
    refine ⟨S, v, o, rfl, r, ?_⟩
    walk_at "st"
    cases hw : wholeO o with
    | false =>
      walk_at "st"
      have := q H (Same.refl _)
      rw [prime_not hw] at this
      exact this
    | true =>
      obtain ⟨n, rfl⟩ := whole_cases hw
      cases r
      walk_at "st"
      refine r_ite (fun h1 => ?_) (fun h1 => ?_)
      · walk_at "st"
        by_cases h2 : n ≤ 997
        · rw [decide_eq_true h2]
          walk_at "st"
          intro D hD
          have szl : (1000000 : Nat) ≤ sizeLine := by decide
          refine lc_filt (walk_range (lo := 2) (n := (n - 2).toNat)) (by omega) hD (fun i => decide (n.toNat % (i + 2) = 0)) (fun _ _ => trivial) (fun i H1 x H2 y => by rw [y.1]; exact Same.refl _)
            (fun i x' H1 H2 Y No hi sm y hY hN => ?_) (fun ys H5 ee el sm eD => ?_)
          · obtain ⟨rfl, rfl⟩ := y
            have e4 := natmod (n := n) (by omega) i
            refine ⟨rfl, ?_⟩
            walk_at "st"
            rw [e4]
            by_cases h5 : n.toNat % (i + 2) = 0
            · rw [decide_eq_true h5] at hY
              rw [decide_eq_true (by rw [h5]; rfl)]
              walk_at "st"
              exact hY rfl _ _ (Same.refl _)
            · rw [decide_eq_false h5] at hN
              rw [decide_eq_false (by intro z; injection z with z; omega)]
              walk_at "st"
              exact hN rfl _ (Same.refl _)
          · walk_at "st"
            intro p hp
            walk_at "st"
            have := q (upd H5 p (.lst [])) (by walk_at "sm")
            rw [primeO_in h1 h2] at this
            have e6 : ys.isEmpty = noDiv n.toNat := by
              rw [ee]
              unfold noDiv
              rw [show (n - 2).toNat = n.toNat - 2 by omega]
              congr 1
            rw [← e6] at this
            exact this
        · rw [decide_eq_false h2]
          walk_at "st"
          have := q H (Same.refl _)
          rw [primeO_out (by omega)] at this
          exact this
      · walk_at "st"
        have := q H (Same.refl _)
        rw [primeO_out (by omega)] at this
        exact this
end
local macro_rules | `(tactic| walk_at "ssz") => `(tactic| first | decide | exact str_small (by assumption) | (have : (1000000 : Nat) ≤ sizeLine := (by decide); omega))
local macro_rules | `(tactic| walk_at "st1") => `(tactic| first
  | with_reducible refine' r_nt ?_ | with_reducible refine' r_nf ?_
  | ((with_reducible refine r_lenS ?e1 ?_); (case e1 => walk_at "ssz"))
  | with_reducible refine r_inS ?_
  | with_reducible refine r_ninS ?_
  | ((with_reducible refine r_addS ?e1 ?_); (case e1 => walk_at "ssz"))
  | ((with_reducible refine' r_ixS ?e1 ?e2 ?_); (case e1 => walk_at "ssz"); (case e2 => first | assumption | rfl))
  | with_reducible refine r_istr ?_
  | with_reducible refine r_is ?_
  | with_reducible refine r_un ?_
  | with_reducible refine r_u ?_)
section
variable {K : PySem.W.Frag} {D : Ends} {σ : L2.St} {H : Hp} {Q : VK}
theorem r_par {i j : Nat} {ta : TA} (h : ta σ H fun vs H1 => ∃ v w, vs = [v, w] ∧ D.nx ((σ.set i (some v)).set j (some w)) H1) : tPar i j ta D σ H := h
theorem r_parx {v w : V} {R : V → V → Prop} (h : R v w) : ∃ v' w', [v, w] = [v', w'] ∧ R v' w' := ⟨v, w, rfl, h⟩
theorem r_gtup {n : Nat} {t : TGs} {a : Addr} {xs : List V} {N : L2.St → Hp → Prop} (h : SqT K H a xs) (e : xs.length = n) (q : t xs σ H N) : gTup K n t (.ref a) σ H N := ⟨a, xs, rfl, h, e, q⟩
theorem r_gcons {t : TG} {u : TGs} {v : V} {r : List V} {N : L2.St → Hp → Prop} (q : t v σ H fun σ' H' => u r σ' H' N) : gCons t u (v :: r) σ H N := ⟨v, r, rfl, q⟩
theorem r_gnil {N : L2.St → Hp → Prop} (q : N σ H) : gNil [] σ H N := ⟨rfl, q⟩
end
local macro_rules | `(tactic| walk_at "st1") => `(tactic| first
  | with_reducible refine r_par ?_
  | with_reducible refine r_parx ?_
  | ((with_reducible refine' r_gtup ?e1 ?e2 ?_); (case e1 => walk_at "sq"); (case e2 => rfl))
  | with_reducible refine r_gcons ?_
  | with_reducible refine r_gnil ?_)
def sp_inverse (_ : PySem.W.Frag) : Sp := fun vs H Q _ => ∃ (n p : Int), vs = [.int n, .int p] ∧ (1 ≤ n ∧ n < p ∧ p ≤ 997) ∧ Nat.gcd p.toNat n.toNat = 1 ∧ ∀ b H', Same H H' → (1 ≤ b ∧ b < p) → b * n % p = 1 → Q (.int b) H'
section
variable {P : Program} {w : World} {K : PySem.W.Frag} {mg : Str → Option Value} {base : Heap}
theorem ok_inverse (T : Tx K mg)  {f : Addr} {fd : FuncData} (F : Here K mg "inverse" s_inverse ["n", "p"] f fd) : Cal P w K mg base "inverse" 1 ["n", "p"] (sp_inverse K) s_inverse f fd := by
  refine F.cal sc_inverse (fun vs H Q E h => ?_) (fun cdv A outer s H vs Q E hr h => ?_)
  · obtain ⟨n, p, rfl, _⟩ := h
    rfl
  · obtain ⟨n, p, rfl, hn, hg, q⟩ := h
    refine ⟨_, (pss_cons (ps_par (i := 2) (j := 3) rfl sc_inverse.nd rfl rfl (by decide) rfl rfl (pa_cons (pv 1) (pa_cons (pv 0) pa_nil)) (by rfl))
      (pss_cons (ps_asg (pe_tup (pa_cons pe_int (pa_cons pe_int pa_nil))) (castPG (K := K) (n := 2) (pg_tup rfl (pgs_cons (pg_name (i := 4) sc_inverse.nd rfl (by first | exact .inl rfl | exact .inr rfl)) (pgs_cons (pg_name (i := 5) sc_inverse.nd rfl (by first | exact .inl rfl | exact .inr rfl)) pgs_nil)))))
      (pss_cons (ps_while PassesOwn.never (pt_cmpR op_ne (pv 3) pe_int (nomark _)) (pss_cons (ps_set (i := 6) sc_inverse.nd rfl (by first | exact .inl rfl | exact .inr rfl) (pe_op op_fdivW (pv 2) (pv 3)))
      (pss_cons (ps_par (i := 2) (j := 3) rfl sc_inverse.nd rfl rfl (by decide) rfl rfl (pa_cons (pv 3) (pa_cons (pe_op op_sub (pv 2) (pe_op op_mul (pv 6) (pv 3))) pa_nil)) (by rfl))
      (pss_one (ps_par (i := 4) (j := 5) rfl sc_inverse.nd rfl rfl (by decide) rfl rfl (pa_cons (pv 5) (pa_cons (pe_op op_sub (pv 4) (pe_op op_mul (pv 6) (pv 5))) pa_nil)) (by rfl))))))
      (pss_one (ps_ret (pe_op op_mod (pv 4) (pv 1))))))), ?_⟩
    walk_at "st"
    intro tt htt
    walk_at "st"
    refine ⟨fun m σ' H' => ∃ (r l : Nat) (many lm : Int) (x6 : Option V), σ' = [some (.int n), some (.int p), some (.int r), some (.int l), some (.int many), some (.int lm), x6] ∧ H' = upd H tt (.tup [.int 0, .int 1]) ∧ l = m ∧ p ∣ (r : Int) - many * n ∧ p ∣ (l : Int) - lm * n ∧ Nat.gcd r l = 1 ∧ (r : Int) ≤ p ∧ (l : Int) ≤ p, ⟨n.toNat, p.toNat, n.toNat, 0, 1, none, ?_, rfl, rfl, ?_, ?_, hg, by omega, by omega⟩, fun m σ' H' w => ?_⟩
    · rw [show ((p.toNat : Nat) : Int) = p by omega, show ((n.toNat : Nat) : Int) = n by omega]
      rfl
    · rw [show ((p.toNat : Nat) : Int) = p by omega]
      simp
    · rw [show ((n.toNat : Nat) : Int) = n by omega]
      simp
    · obtain ⟨r, l, many, lm, x6, rfl, rfl, rfl, d1, d2, g, b1, b2⟩ := w
      walk_at "st"
      refine r_iteB (fun h => ?_) (fun h => ?_)
      · have hl : l ≠ 0 := fun z => by rw [z] at h; simp at h
        refine ⟨fun σ' H' => ∃ m', m' < l ∧ ∃ (r l : Nat) (many lm : Int) (x6 : Option V), σ' = [some (.int n), some (.int p), some (.int r), some (.int l), some (.int many), some (.int lm), x6] ∧ H' = _ ∧ l = m' ∧ p ∣ (r : Int) - many * n ∧ p ∣ (l : Int) - lm * n ∧ Nat.gcd r l = 1 ∧ (r : Int) ≤ p ∧ (l : Int) ≤ p, fun _ _ h => h, ?_⟩
        have hw : CDivW (r : Int) (l : Int) := wide_div (b := 30) (by omega) (by omega) (by decide) (by decide)
        have e1 : (r : Int) / l = ((r / l : Nat) : Int) := rfl
        have e2 : r / l ≤ r := Nat.div_le_self _ _
        have e0 : (0 : Int) ≤ (r : Int) / l := Int.ediv_nonneg (by omega) (by omega)
        have cm1 : CMul ((r : Int) / l) (l : Int) := .inr ⟨by omega, by omega⟩
        have cm2 : CMul ((r : Int) / l) lm := .inl ⟨by omega, by omega⟩
        walk_at "st"
        have e3 : (r : Int) - (r : Int) / l * l = ((r % l : Nat) : Int) := by
          rw [show ((r % l : Nat) : Int) = (r : Int) % l from rfl, Int.emod_def, Int.mul_comm]
        rw [e3]
        refine ⟨r % l, Nat.mod_lt _ (by omega), l, r % l, lm, many - (r : Int) / l * lm, _, rfl, rfl, rfl, d2, ?_, ?_, b2, ?_⟩
        · rw [← e3]
          obtain ⟨c1, h1⟩ := d1
          obtain ⟨c2, h2⟩ := d2
          refine ⟨c1 - (r : Int) / l * c2, ?_⟩
          rw [Int.mul_sub, ← h1, Int.mul_left_comm, ← h2, Int.sub_mul, Int.mul_sub, Int.mul_assoc]
          omega
        · rw [← g, Nat.gcd_comm r l, Nat.gcd_rec l r, Nat.gcd_comm]
        · have := Nat.mod_lt r (show 0 < l by omega)
          omega
      · have hl : l = 0 := by simpa using h
        subst hl
        walk_at "st"
        have hr1 : r = 1 := by simpa using g
        subst hr1
        obtain ⟨c1, h1⟩ := d1
        have key : many % p * n % p = 1 := by
          rw [Int.mul_emod, Int.emod_emod, ← Int.mul_emod]
          have : many * n = 1 - p * c1 := by omega
          rw [this, Int.sub_emod, Int.mul_emod_right]
          simp
          exact Int.emod_eq_of_lt (by omega) (by omega)
        refine q _ _ (Same.upd_new htt) ⟨?_, Int.emod_lt_of_pos _ (by omega)⟩ key
        have h0 := Int.emod_nonneg many (show p ≠ 0 by omega)
        by_cases z : many % p = 0
        · rw [z] at key
          simp at key
        · omega
end
local macro_rules | `(tactic| walk_at "ssz") => `(tactic| first | decide | exact str_small (by assumption) | (have : (1000000 : Nat) ≤ sizeLine := (by decide); omega))
local macro_rules | `(tactic| walk_at "st1") => `(tactic| first
  | with_reducible refine' r_nt ?_ | with_reducible refine' r_nf ?_
  | ((with_reducible refine r_lenS ?e1 ?_); (case e1 => walk_at "ssz"))
  | with_reducible refine r_inS ?_
  | with_reducible refine r_ninS ?_
  | ((with_reducible refine r_addS ?e1 ?_); (case e1 => walk_at "ssz"))
  | ((with_reducible refine' r_ixS ?e1 ?e2 ?_); (case e1 => walk_at "ssz"); (case e2 => first | assumption | rfl))
  | with_reducible refine r_istr ?_
  | with_reducible refine r_is ?_
  | with_reducible refine r_un ?_
  | with_reducible refine r_u ?_)
def rJoin (K : PySem.W.Frag) : V → List V → Hp → VK → Prop := fun x xs H Q => ∃ a p, ∃ ys : List Str, x = .str a ∧ xs = [.ref p] ∧ (SqL K H p (ys.map V.str) ∨ SqT K H p (ys.map V.str)) ∧ (ys.map (·.length)).sum + ys.length * a.length ≤ 16777216 ∧ Q (.str (Txt.join a ys)) H
theorem castM1 {X : Cx} {K : PySem.W.Frag} {e : Expr} {to te : TE} (h : PE X e (tM1 (rJoin X.K) to te)) (q : X.K = K := by rfl) : PE X e (tM1 (rJoin K) to te) := q ▸ h
section
variable {K : PySem.W.Frag} {σ : L2.St} {H : Hp} {Q : VK}
theorem r_m1 {r : V → List V → Hp → VK → Prop} {to te : TE} (h : to σ H fun x H1 => (∃ a, x = .str a) ∧ te σ H1 fun y H2 => r x [y] H2 Q) : tM1 r to te σ H Q := h
theorem r_sx {z : Str} {B : Prop} (h : B) : (∃ a, V.str z = .str a) ∧ B := ⟨⟨z, rfl⟩, h⟩
theorem r_joinS {a : Str} {p : Addr} {ys : List Str} (h : SqL K H p (ys.map V.str)) (z : (ys.map (·.length)).sum + ys.length * a.length ≤ 16777216) (q : Q (.str (Txt.join a ys)) H) : rJoin K (.str a) [.ref p] H Q := ⟨a, p, ys, rfl, rfl, .inl h, z, q⟩
end
theorem join_len : ∀ ys : List Str, (∀ y ∈ ys, y.length = 1) → (Str.join "" ys).length = ys.length
  | [], _ => rfl
  | [y], h => h y List.mem_cons_self
  | y :: z :: r, h => by
    have ih := join_len (z :: r) fun w hw => h w (List.mem_cons_of_mem _ hw)
    have e1 := h y List.mem_cons_self
    show ((y ++ "") ++ Str.join "" (z :: r)).cps.size = _
    have ap : ∀ a b : Str, (a ++ b).cps.size = a.cps.size + b.cps.size := fun a b => Array.size_append
    have ih2 : (Str.join "" (z :: r)).cps.size = (z :: r).length := ih
    have e2 : y.cps.size = 1 := e1
    rw [ap, ap, ih2, e2]
    show 1 + 0 + (r.length + 1) = r.length + 1 + 1
    omega
theorem sum_ones : ∀ ys : List Str, (∀ y ∈ ys, y.length = 1) → (ys.map (·.length)).sum = ys.length
  | [], _ => rfl
  | y :: r, h => by
    rw [List.map_cons, List.sum_cons, sum_ones r fun w hw => h w (List.mem_cons_of_mem _ hw), h y List.mem_cons_self, List.length_cons]
    omega
local macro_rules | `(tactic| walk_at "st1") => `(tactic| first
  | with_reducible refine r_m1 ?_
  | with_reducible refine r_sx ?_)
def primes14 : List Int := [2, 3, 5, 7, 11, 13, 29, 53, 97, 101, 499, 523, 991, 997]
def sp_law_prime (_ : PySem.W.Frag) : Sp := fun vs H Q _ => ∃ (s c : Addr), vs = [.ref s] ∧ St s c H ∧ ∀ p H', Kp [s, c] H H' → St s c H' → p ∈ primes14 → Q (.int p) H'
def sp_law_place (_ : PySem.W.Frag) : Sp := fun vs H Q _ => ∃ (s c : Addr), vs = [.ref s] ∧ St s c H ∧ ∀ z H', Kp [s, c] H H' → St s c H' → Str.length z ≤ 40 → Q (.str z) H'
def sp_law_text (_ : PySem.W.Frag) : Sp := fun vs H Q _ => ∃ (s c : Addr), vs = [.ref s] ∧ St s c H ∧ ∀ z H', Kp [s, c] H H' → St s c H' → Str.length z ≤ 42 → Q (.str z) H'
section
variable {P : Program} {w : World} {K : PySem.W.Frag} {mg : Str → Option Value} {base : Heap}
theorem ok_law_prime (T : Tx K mg) {f_law_draw : Addr} {fd_law_draw : FuncData} (C_law_draw : Cal P w K mg base "_law_draw" 1 ["state", "many"] (sp_law_draw K) s_law_draw f_law_draw fd_law_draw) {f : Addr} {fd : FuncData} (F : Here K mg "_law_prime" s_law_prime ["state"] f fd) : Cal P w K mg base "_law_prime" 2 ["state"] (sp_law_prime K) s_law_prime f fd := by
  refine F.cal sc_law_prime (fun vs H Q E h => ?_) (fun cdv A outer s H vs Q E hr h => ?_)
  · obtain ⟨s, c, rfl, _⟩ := h
    rfl
  · obtain ⟨s, c, rfl, hst, q⟩ := h
    refine ⟨_, (pss_cons (ps_set (i := 1) sc_law_prime.nd rfl (by first | exact .inl rfl | exact .inr rfl) (pe_lst (pa_cons pe_int (pa_cons pe_int (pa_cons pe_int (pa_cons pe_int (pa_cons pe_int (pa_cons pe_int (pa_cons pe_int (pa_cons pe_int (pa_cons pe_int (pa_cons pe_int (pa_cons pe_int (pa_cons pe_int (pa_cons pe_int (pa_cons pe_int pa_nil))))))))))))))))
      (pss_one (ps_ret (pe_ix (ix_listK (K := K)) (pv 1) (pe_call C_law_draw.ok (hr.mono (by decide)) (by rfl) C_law_draw.at_ C_law_draw.kp C_law_draw.b .nil pass0 (pa_cons (pv 0) (pa_cons pe_int pa_nil))) (fun _ _ => rfl))))), ?_⟩
    walk_at "st"
    intro l hl
    have ol := hst.out hl
    walk_at "st"
    refine ⟨s, c, 14, rfl, by walk_at "stt", by omega, fun d H1 k1 st1 hd => ?_⟩
    obtain ⟨v, ev, hv⟩ := atI_in (xs := [V.int 2, V.int 3, V.int 5, V.int 7, V.int 11, V.int 13, V.int 29, V.int 53, V.int 97, V.int 101, V.int 499, V.int 523, V.int 991, V.int 997]) hd.1 (by simpa using hd.2)
    walk_at "st"
    obtain ⟨p, rfl, hp⟩ : ∃ p, v = .int p ∧ p ∈ primes14 := by
      obtain ⟨p, hp, e⟩ := List.mem_map.mp (show v ∈ primes14.map V.int from hv)
      exact ⟨p, e.symm, hp⟩
    exact q p H1 (by walk_at "kp") st1 hp
theorem ok_law_place (T : Tx K mg) {f_law_draw : Addr} {fd_law_draw : FuncData} (C_law_draw : Cal P w K mg base "_law_draw" 1 ["state", "many"] (sp_law_draw K) s_law_draw f_law_draw fd_law_draw) {f : Addr} {fd : FuncData} (F : Here K mg "_law_place" s_law_place ["state"] f fd) : Cal P w K mg base "_law_place" 2 ["state"] (sp_law_place K) s_law_place f fd := by
  refine F.cal sc_law_place (fun vs H Q E h => ?_) (fun cdv A outer s H vs Q E hr h => ?_)
  · obtain ⟨s, c, rfl, _⟩ := h
    rfl
  · obtain ⟨s, c, rfl, hst, q⟩ := h
    refine ⟨_, (pss_cons (ps_set (i := 1) sc_law_place.nd rfl (by first | exact .inl rfl | exact .inr rfl) pe_str)
      (pss_cons (ps_set (i := 2) sc_law_place.nd rfl (by first | exact .inl rfl | exact .inr rfl) (pe_ix (ix_listK (K := K)) (pe_lst (pa_cons pe_int (pa_cons pe_int (pa_cons pe_int (pa_cons pe_int (pa_cons pe_int (pa_cons pe_int pa_nil))))))) (pe_call C_law_draw.ok (hr.mono (by decide)) (by rfl) C_law_draw.at_ C_law_draw.kp C_law_draw.b .nil pass0 (pa_cons (pv 0) (pa_cons pe_int pa_nil))) (fun _ _ => rfl)))
      (pss_cons (ps_set (i := 3) sc_law_place.nd rfl (by first | exact .inl rfl | exact .inr rfl) (pe_ix ix_str pe_str (pe_call C_law_draw.ok (hr.mono (by decide)) (by rfl) C_law_draw.at_ C_law_draw.kp C_law_draw.b .nil pass0 (pa_cons (pv 0) (pa_cons pe_int pa_nil))) (fun _ _ => rfl)))
      (pss_cons (ps_while PassesOwn.never (pt_cmpR op_lt (pe_callB cr_lenS (by rfl) T.m_len (by decide +kernel) (pa_cons (pv 3) pa_nil)) (pv 2) (nomark _)) (pss_one (ps_set (i := 3) sc_law_place.nd rfl (by first | exact .inl rfl | exact .inr rfl) (pe_op op_addS (pv 3) (pe_ix ix_str (pv 1) (pe_call C_law_draw.ok (hr.mono (by decide)) (by rfl) C_law_draw.at_ C_law_draw.kp C_law_draw.b .nil pass0 (pa_cons (pv 0) (pa_cons pe_int pa_nil))) (fun _ _ => rfl))))))
      (pss_one (ps_ret (pv 3))))))), ?_⟩
    walk_at "st"
    intro l hl
    have ol := hst.out hl
    walk_at "st"
    refine ⟨s, c, 6, rfl, by walk_at "stt", by omega, fun d H1 k1 st1 hd => ?_⟩
    obtain ⟨v, ev, hv⟩ := atI_in (xs := [V.int 1, V.int 1, V.int 2, V.int 3, V.int 6, V.int 40]) hd.1 (by simpa using hd.2)
    walk_at "st"
    obtain ⟨sz, rfl, hsz⟩ : ∃ p, v = .int p ∧ (1 ≤ p ∧ p ≤ 40) := by
      simp at hv
      rcases hv with h | h | h | h | h <;> exact ⟨_, h, by omega⟩
    refine ⟨s, c, 8, rfl, st1, by omega, fun d2 H2 k2 st2 hd2 => ?_⟩
    obtain ⟨c2, ec2, _⟩ := atI_in (xs := (Str.ofString "abcxyzqm").cps.toList) hd2.1 (by show d2 < 8; exact hd2.2)
    have k02 : Kp [s, c] H H2 := by walk_at "kp"
    walk_at "st"
    refine ⟨fun m σ' H' => ∃ (z : Str), σ' = [some (.ref s), some (.str "abcxyz0189.mnopqrstuvwdefghijkl234567"), some (.int sz), some (.str z)] ∧ Kp [s, c] H H' ∧ St s c H' ∧ z.length ≤ 40 ∧ 1 ≤ z.length ∧ m = 41 - z.length, ⟨40, _, rfl, k02, st2, by show 1 ≤ 40; decide, by show 1 ≤ 1; decide, rfl⟩, fun m σ' H' w => ?_⟩
    obtain ⟨z, rfl, k3, st3, hz, hz1, rfl⟩ := w
    walk_at "st"
    refine r_ite (fun h => ?_) (fun h => ?_)
    · refine ⟨fun σ' H' => ∃ m', m' < 41 - z.length ∧ ∃ (z : Str), σ' = [some (.ref s), some (.str "abcxyz0189.mnopqrstuvwdefghijkl234567"), some (.int sz), some (.str z)] ∧ Kp [s, c] H H' ∧ St s c H' ∧ z.length ≤ 40 ∧ 1 ≤ z.length ∧ m' = 41 - z.length, fun _ _ h => h, ?_⟩
      walk_at "st"
      refine ⟨s, c, 37, rfl, st3, by omega, fun d4 H4 k4 st4 hd4 => ?_⟩
      obtain ⟨c4, ec4, _⟩ := atI_in (xs := (Str.ofString "abcxyz0189.mnopqrstuvwdefghijkl234567").cps.toList) hd4.1 (by show d4 < 37; exact hd4.2)
      have k04 : Kp [s, c] H H4 := by walk_at "kp"
      have l1 : z.length + (⟨#[c4]⟩ : Str).length ≤ 50 := by show z.length + 1 ≤ 50; omega
      walk_at "st"
      have el : (z ++ (⟨#[c4]⟩ : Str)).length = z.length + 1 := by
        show (z.cps ++ #[c4]).size = _
        rw [Array.size_append]; rfl
      exact ⟨_, by rw [el]; omega, _, rfl, k04, st4, by rw [el]; omega, by rw [el]; omega, rfl⟩
    · walk_at "st"
      exact q z _ k3 st3 hz
theorem ok_law_text (T : Tx K mg) {f_law_draw : Addr} {fd_law_draw : FuncData} (C_law_draw : Cal P w K mg base "_law_draw" 1 ["state", "many"] (sp_law_draw K) s_law_draw f_law_draw fd_law_draw) {f : Addr} {fd : FuncData} (F : Here K mg "_law_text" s_law_text ["state"] f fd) : Cal P w K mg base "_law_text" 2 ["state"] (sp_law_text K) s_law_text f fd := by
  refine F.cal sc_law_text (fun vs H Q E h => ?_) (fun cdv A outer s H vs Q E hr h => ?_)
  · obtain ⟨s, c, rfl, _⟩ := h
    rfl
  · obtain ⟨s, c, rfl, hst, q⟩ := h
    refine ⟨_, (pss_cons (ps_set (i := 1) sc_law_text.nd rfl (by first | exact .inl rfl | exact .inr rfl) (pe_ix (ix_listK (K := K)) (pe_lst (pa_cons pe_str (pa_cons pe_str (pa_cons pe_str (pa_cons pe_str pa_nil))))) (pe_call C_law_draw.ok (hr.mono (by decide)) (by rfl) C_law_draw.at_ C_law_draw.kp C_law_draw.b .nil pass0 (pa_cons (pv 0) (pa_cons pe_int pa_nil))) (fun _ _ => rfl)))
      (pss_cons (ps_set (i := 2) sc_law_text.nd rfl (by first | exact .inl rfl | exact .inr rfl) (pe_ix (ix_listK (K := K)) (pe_lst (pa_cons pe_int (pa_cons pe_int (pa_cons pe_int (pa_cons pe_int (pa_cons pe_int (pa_cons pe_int (pa_cons pe_int (pa_cons pe_int (pa_cons pe_int (pa_cons pe_int pa_nil))))))))))) (pe_call C_law_draw.ok (hr.mono (by decide)) (by rfl) C_law_draw.at_ C_law_draw.kp C_law_draw.b .nil pass0 (pa_cons (pv 0) (pa_cons pe_int pa_nil))) (fun _ _ => rfl)))
      (pss_one (ps_ret (castM1 (pe_join pe_str (pe_lc rfl sc_law_text.nd (pi_range1 (by rfl) T.m_range (pa_cons (pv 2) pa_nil)) (blkOk_by (own := [("k", 3)]) (N := ["state", "signs", "size", "k"]) (sc := (defScope s_law_text)) (by decide +kernel)) (fun _ _ _ _ _ => (pg_name (i := 3) sc_law_text.nd rfl (by first | exact .inl rfl | exact .inr rfl))) (fun _ _ _ _ _ => pts_nil) (fun _ _ _ _ _ => (pe_ix ix_str (pv 1) (pe_call C_law_draw.ok (hr.mono (by decide)) (by rfl) C_law_draw.at_ C_law_draw.kp C_law_draw.b .nil pass0 (pa_cons (pv 0) (pa_cons (pe_callB cr_lenS (by rfl) T.m_len (by decide +kernel) (pa_cons (pv 1) pa_nil)) pa_nil))) (fun _ _ => rfl)))))))))), ?_⟩
    walk_at "st"
    intro l hl
    have ol := hst.out hl
    walk_at "st"
    refine ⟨s, c, 4, rfl, by walk_at "stt", by omega, fun d H1 k1 st1 hd => ?_⟩
    obtain ⟨v, ev, hv⟩ := atI_in (xs := [V.str "abcxyz", V.str "abz09.", V.str "abzA_ -0.", V.str "az~+"]) hd.1 (by simpa using hd.2)
    walk_at "st"
    obtain ⟨sg, rfl, hsg⟩ : ∃ p : Str, v = .str p ∧ (1 ≤ p.length ∧ p.length ≤ 40) := by
      simp at hv
      rcases hv with h | h | h | h <;> exact ⟨_, h, by decide, by decide⟩
    intro l2 hl2
    have ol2 := st1.out hl2
    walk_at "st"
    refine ⟨s, c, 10, rfl, by walk_at "stt", by omega, fun d2 H2 k2 st2 hd2 => ?_⟩
    obtain ⟨v2, ev2, hv2⟩ := atI_in (xs := [V.int 0, V.int 1, V.int 2, V.int 7, V.int 8, V.int 9, V.int 39, V.int 40, V.int 41, V.int 42]) hd2.1 (by simpa using hd2.2)
    walk_at "st"
    obtain ⟨sz, rfl, hsz⟩ : ∃ p, v2 = .int p ∧ (0 ≤ p ∧ p ≤ 42) := by
      simp at hv2
      rcases hv2 with h | h | h | h | h | h | h | h | h | h <;> exact ⟨_, h, by omega⟩
    have k02 : Kp [s, c] H H2 := by walk_at "kp"
    walk_at "st"
    intro D hD
    have oD := st2.out hD
    have szl : (1000000 : Nat) ≤ sizeLine := by decide
    have hD0 : H D = none := k02.free hD oD
    refine lc_by (walk_range (lo := 0) (n := sz.toNat)) (fun i H' => Kp [s, c] H H' ∧ St s c H' ∧ ∃ zs : List Str, H' D = some (.lst (zs.map V.str)) ∧ zs.length = i ∧ ∀ z ∈ zs, z.length = 1) ⟨by walk_at "kp", by walk_at "stt", [], upd_same, rfl, by simp⟩ (fun _ _ _ _ => trivial) (fun i x H3 H3' hi p y => ?_) (fun H' p => ?_)
    · obtain ⟨k3, st3, zs, eD, el, hzs⟩ := p
      obtain ⟨rfl, rfl⟩ := y
      have hs1 : sg.length ≤ 1000 := by omega
      refine ⟨rfl, ?_⟩
      walk_at "st"
      refine ⟨s, c, _, rfl, st3, by omega, fun d4 H4 k4 st4 hd4 => ?_⟩
      obtain ⟨c4, ec4, _⟩ := atI_in (xs := sg.cps.toList) hd4.1 (by rw [Array.length_toList]; exact hd4.2)
      have eD4 : H4 D = some (.lst (zs.map V.str)) := by walk_at "hl"
      have k04 : Kp [s, c] H H4 := by walk_at "kp"
      walk_at "st"
      refine ⟨_, eD4, by rw [List.length_map]; omega, k04.own hD0, by walk_at "stt", zs ++ [⟨#[c4]⟩], by rw [upd_same, List.map_append]; rfl, by simp [el], fun z hz => ?_⟩
      rcases List.mem_append.mp hz with h | h
      · exact hzs z h
      · rw [List.mem_singleton.mp h]; rfl
    · obtain ⟨k3, st3, zs, eD, el, hzs⟩ := p
      refine r_joinS (SqL.of eD) (by rw [sum_ones zs hzs]; show zs.length + zs.length * 0 ≤ _; omega) ?_
      refine q _ _ k3 st3 ?_
      have : (Txt.join "" zs).length = zs.length := by rw [TL.join_eq]; exact join_len zs hzs
      rw [this]; omega
end
local macro_rules | `(tactic| walk_at "ssz") => `(tactic| first | decide | exact str_small (by assumption) | (have : (1000000 : Nat) ≤ sizeLine := (by decide); omega))
local macro_rules | `(tactic| walk_at "st1") => `(tactic| first
  | with_reducible refine' r_nt ?_ | with_reducible refine' r_nf ?_
  | ((with_reducible refine r_lenS ?e1 ?_); (case e1 => walk_at "ssz"))
  | with_reducible refine r_inS ?_
  | with_reducible refine r_ninS ?_
  | ((with_reducible refine r_addS ?e1 ?_); (case e1 => walk_at "ssz"))
  | ((with_reducible refine' r_ixS ?e1 ?e2 ?_); (case e1 => walk_at "ssz"); (case e2 => first | assumption | rfl))
  | with_reducible refine r_istr ?_
  | with_reducible refine r_is ?_
  | with_reducible refine r_un ?_
  | with_reducible refine r_u ?_)
theorem r_dnew {σ : L2.St} {H : Hp} {Q : VK} (h : ∀ p, H p = none → Q (.ref p) (upd H p (.dK []))) : tDNewK σ H Q := h
theorem r_disp1 {tk tv : TE} {σ : L2.St} {H : Hp} {Q : VK} (h : ∀ p, H p = none → tk σ (upd H p (.dK [])) fun x H1 => tv σ H1 fun y H2 => H2 p = some (.dK []) ∧ ∃ kvs : List (Key × V), [(x, y)] = kvs.map (fun kv => (kV kv.1, kv.2)) ∧ kvs.length ≤ 15 ∧ Q (.ref p) (upd H2 p (.dK (mergeK [] kvs)))) : tDisp [(tk, tv)] σ H Q := h
theorem RepAll.all {S : List Addr} {H : Hp} {us : List V} {p : O → Prop} (h : ∀ u ∈ us, ∃ o, Rep S H u o ∧ p o) : ∃ os, RepAll S H us os ∧ ∀ o ∈ os, p o := by
  induction us with
  | nil => exact ⟨[], .nil, by simp⟩
  | cons u us ih =>
    obtain ⟨o, r, po⟩ := h u List.mem_cons_self
    obtain ⟨os, rs, ps⟩ := ih fun v hv => h v (List.mem_cons_of_mem _ hv)
    exact ⟨o :: os, .cons r rs, fun x hx => by
      rcases List.mem_cons.mp hx with rfl | hx
      · exact po
      · exact ps x hx⟩
local macro_rules | `(tactic| walk_at "st1") => `(tactic| first
  | with_reducible refine r_dnew ?_
  | with_reducible refine r_disp1 ?_)
def sp_law_things (_ : PySem.W.Frag) : Sp := fun vs H Q _ => ∃ (s c : Addr) (b : Int), vs = [.ref s, .int b] ∧ St s c H ∧ (2 ≤ b ∧ b ≤ 997) ∧
  ∀ (l : Addr) (us : List V) (os : List O) (H' : Hp), Kp [s, c] H H' → St s c H' → H' l = some (.lst us) → l ∉ [s, c] → RepAll [s, c] H' us os → (∀ o ∈ os, smallS o) → us.length ≤ 40 → Q (.ref l) H'
section
variable {P : Program} {w : World} {K : PySem.W.Frag} {mg : Str → Option Value} {base : Heap}
theorem ok_law_things (T : Tx K mg) {f_law_draw : Addr} {fd_law_draw : FuncData} (C_law_draw : Cal P w K mg base "_law_draw" 1 ["state", "many"] (sp_law_draw K) s_law_draw f_law_draw fd_law_draw) {f_law_text : Addr} {fd_law_text : FuncData} (C_law_text : Cal P w K mg base "_law_text" 2 ["state"] (sp_law_text K) s_law_text f_law_text fd_law_text) {f_law_place : Addr} {fd_law_place : FuncData} (C_law_place : Cal P w K mg base "_law_place" 2 ["state"] (sp_law_place K) s_law_place f_law_place fd_law_place) {f : Addr} {fd : FuncData} (F : Here K mg "_law_things" s_law_things ["state", "q"] f fd) : Cal P w K mg base "_law_things" 3 ["state", "q"] (sp_law_things K) s_law_things f fd := by
  refine F.cal sc_law_things (fun vs H Q E h => ?_) (fun cdv A outer s H vs Q E hr h => ?_)
  · obtain ⟨s, c, b, rfl, _⟩ := h
    rfl
  · obtain ⟨s, c, b, rfl, hst, hb, q⟩ := h
    refine ⟨_, (pss_cons (ps_set (i := 2) sc_law_things.nd rfl (by first | exact .inl rfl | exact .inr rfl) (pe_lst (pa_cons pe_non (pa_cons pe_bl (pa_cons pe_bl (pa_cons pe_str (pa_cons pe_str (pa_cons pe_str (pa_cons (pe_tup (pa_cons pe_int pa_nil)) (pa_cons (pe_lst (pa_cons pe_int pa_nil)) (pa_cons pe_dnewK (pa_cons (pe_disp (pps_cons pe_int pe_int pps_nil) (by rfl) (by rfl) (fun z => by cases z) (by decide)) (pa_cons (pe_tup pa_nil) (pa_cons (pe_lst pa_nil) (pa_cons (pe_tup (pa_cons pe_str pa_nil)) (pa_cons (pe_lst (pa_cons pe_str pa_nil)) (pa_cons pe_int (pa_cons pe_int (pa_cons (pv 1) (pa_cons (pe_op op_sub (pv 1) pe_int) (pa_cons (pe_op op_add (pv 1) pe_int) (pa_cons (pe_un un_neg pe_int) pa_nil))))))))))))))))))))))
      (pss_cons (ps_set (i := 3) sc_law_things.nd rfl (by first | exact .inl rfl | exact .inr rfl) (pe_lst (pa_cons (pe_call C_law_draw.ok (hr.mono (by decide)) (by rfl) C_law_draw.at_ C_law_draw.kp C_law_draw.b .nil pass0 (pa_cons (pv 0) (pa_cons pe_int pa_nil))) (pa_cons (pe_op op_sub pe_int (pe_call C_law_draw.ok (hr.mono (by decide)) (by rfl) C_law_draw.at_ C_law_draw.kp C_law_draw.b .nil pass0 (pa_cons (pv 0) (pa_cons pe_int pa_nil)))) (pa_cons (pe_op op_sub (pe_op op_pow pe_int pe_int) (pe_call C_law_draw.ok (hr.mono (by decide)) (by rfl) C_law_draw.at_ C_law_draw.kp C_law_draw.b .nil pass0 (pa_cons (pv 0) (pa_cons pe_int pa_nil)))) (pa_cons (pe_un un_neg (pe_call C_law_draw.ok (hr.mono (by decide)) (by rfl) C_law_draw.at_ C_law_draw.kp C_law_draw.b .nil pass0 (pa_cons (pv 0) (pa_cons pe_int pa_nil)))) pa_nil))))))
      (pss_one (ps_ret (pe_op op_cat (pe_op op_cat (pv 2) (pv 3)) (pe_lst (pa_cons (pe_call C_law_text.ok (hr.mono (by decide)) (by rfl) C_law_text.at_ C_law_text.kp C_law_text.b .nil pass0 (pa_cons (pv 0) pa_nil)) (pa_cons (pe_call C_law_place.ok (hr.mono (by decide)) (by rfl) C_law_place.at_ C_law_place.kp C_law_place.b .nil pass0 (pa_cons (pv 0) pa_nil)) (pa_cons (pe_op op_addS (pe_call C_law_place.ok (hr.mono (by decide)) (by rfl) C_law_place.at_ C_law_place.kp C_law_place.b .nil pass0 (pa_cons (pv 0) pa_nil)) pe_str) (pa_cons (pe_call C_law_draw.ok (hr.mono (by decide)) (by rfl) C_law_draw.at_ C_law_draw.kp C_law_draw.b .nil pass0 (pa_cons (pv 0) (pa_cons (pv 1) pa_nil))) pa_nil)))))))))), ?_⟩
    walk_at "st"
    intro p1 hp1
    have st1 := hst.new (x := .tup [.int 7]) hp1
    have o1 := hst.out hp1
    walk_at "st"
    intro p2 hp2
    have st2 := st1.new (x := .lst [.int 7]) hp2
    have o2 := st1.out hp2
    walk_at "st"
    intro p3 hp3
    have st3 := st2.new (x := .dK []) hp3
    have o3 := st2.out hp3
    walk_at "st"
    intro p4 hp4
    have o4 := st3.out hp4
    walk_at "st"
    refine ⟨upd_same, [(.inl 7, .int 7)], rfl, by decide, ?_⟩
    have n43 : p4 ≠ p3 := fun z => by rw [z, upd_same] at hp4; cases hp4
    generalize hH4 : upd (upd (upd (upd (upd H p1 (.tup [.int 7])) p2 (.lst [.int 7])) p3 (.dK [])) p4 (.dK [])) p4 (.dK (mergeK [] [(Sum.inl 7, V.int 7)])) = H4
    have k4 : Kp [s, c] H H4 := by
      have h4 : H p4 = none := by
        have a1 : Same H (upd (upd (upd H p1 (.tup [.int 7])) p2 (.lst [.int 7])) p3 (.dK [])) := ((Same.upd_new hp1).trans (Same.upd_new hp2)).trans (Same.upd_new hp3)
        exact a1.free hp4
      rw [← hH4]
      exact Kp.own (by walk_at "kp") h4
    have st4 : St s c H4 := by rw [← hH4]; exact (St.set (St.new st3 hp4) o4)
    have e1 : H4 p1 = some (.tup [.int 7]) := by
      have a : (upd (upd (upd H p1 (.tup [.int 7])) p2 (.lst [.int 7])) p3 (.dK [])) p1 = some (.tup [.int 7]) := by walk_at "hl"
      rw [← hH4]; exact hl_set (ne_of_none a hp4) (hl_new a hp4)
    have e2 : H4 p2 = some (.lst [.int 7]) := by
      have a : (upd (upd (upd H p1 (.tup [.int 7])) p2 (.lst [.int 7])) p3 (.dK [])) p2 = some (.lst [.int 7]) := by walk_at "hl"
      rw [← hH4]; exact hl_set (ne_of_none a hp4) (hl_new a hp4)
    have e3 : H4 p3 = some (.dK []) := by rw [← hH4]; exact hl_set n43.symm (hl_set n43.symm upd_same)
    have e4 : H4 p4 = some (.dK (mergeK [] [(Sum.inl 7, V.int 7)])) := by rw [← hH4]; exact upd_same
    clear hH4 hp1 hp2 hp3 hp4 st1 st2 st3
    walk_at "st"
    intro p5 hp5
    have st5 := st4.new (x := .tup []) hp5
    have o5 := st4.out hp5
    walk_at "st"
    intro p6 hp6
    have st6 := st5.new (x := .lst []) hp6
    have o6 := st5.out hp6
    walk_at "st"
    intro p7 hp7
    have st7 := st6.new (x := .tup [.str "a"]) hp7
    have o7 := st6.out hp7
    walk_at "st"
    intro p8 hp8
    have st8 := st7.new (x := .lst [.str "a"]) hp8
    have o8 := st7.out hp8
    walk_at "st"
    intro p9 hp9
    have o9 := st8.out hp9
    have st9 := st8.new (x := .lst [V.non, V.bl true, V.bl false, V.str "", V.str "7", V.str "a", V.ref p1, V.ref p2, V.ref p3, V.ref p4, V.ref p5, V.ref p6, V.ref p7, V.ref p8, V.int 0, V.int 1, V.int b, V.int (b - 1), V.int (b + 1), V.int (-1)]) hp9
    generalize hH9 : upd (upd (upd (upd (upd H4 p5 (.tup [])) p6 (.lst [])) p7 (.tup [.str "a"])) p8 (.lst [.str "a"])) p9 (.lst [V.non, V.bl true, V.bl false, V.str "", V.str "7", V.str "a", V.ref p1, V.ref p2, V.ref p3, V.ref p4, V.ref p5, V.ref p6, V.ref p7, V.ref p8, V.int 0, V.int 1, V.int b, V.int (b - 1), V.int (b + 1), V.int (-1)]) = H9 at *
    have k9 : Kp [s, c] H H9 := by rw [← hH9]; walk_at "kp"
    have f1 : H9 p1 = some (.tup [.int 7]) := by rw [← hH9]; walk_at "hl"
    have f2 : H9 p2 = some (.lst [.int 7]) := by rw [← hH9]; walk_at "hl"
    have f3 : H9 p3 = some (.dK []) := by rw [← hH9]; walk_at "hl"
    have f4 : H9 p4 = some (.dK (mergeK [] [(Sum.inl 7, V.int 7)])) := by rw [← hH9]; walk_at "hl"
    have f5 : H9 p5 = some (.tup []) := by rw [← hH9]; walk_at "hl"
    have f6 : H9 p6 = some (.lst []) := by rw [← hH9]; walk_at "hl"
    have f7 : H9 p7 = some (.tup [.str "a"]) := by rw [← hH9]; walk_at "hl"
    have f8 : H9 p8 = some (.lst [.str "a"]) := by rw [← hH9]; walk_at "hl"
    have f9 : H9 p9 = some (.lst [V.non, V.bl true, V.bl false, V.str "", V.str "7", V.str "a", V.ref p1, V.ref p2, V.ref p3, V.ref p4, V.ref p5, V.ref p6, V.ref p7, V.ref p8, V.int 0, V.int 1, V.int b, V.int (b - 1), V.int (b + 1), V.int (-1)]) := by rw [← hH9]; exact upd_same
    have a9 : ∀ u ∈ [V.non, V.bl true, V.bl false, V.str "", V.str "7", V.str "a", V.ref p1, V.ref p2, V.ref p3, V.ref p4, V.ref p5, V.ref p6, V.ref p7, V.ref p8, V.int 0, V.int 1, V.int b, V.int (b - 1), V.int (b + 1), V.int (-1)], ∃ o, Rep [s, c] H9 u o ∧ smallS o := fun u hu => by
      simp at hu
      rcases hu with h | h | h | h | h | h | h | h | h | h | h | h | h | h | h | h | h | h | h | h <;> subst h
      · exact ⟨_, .non, trivial⟩
      · exact ⟨_, .bl _, trivial⟩
      · exact ⟨_, .bl _, trivial⟩
      · exact ⟨_, .str _, by show (0 : Nat) ≤ _; omega⟩
      · exact ⟨_, .str _, by show (1 : Nat) ≤ _; omega⟩
      · exact ⟨_, .str _, by show (1 : Nat) ≤ _; omega⟩
      · exact ⟨_, .tup f1 o1 (.cons (.int 7) .nil), trivial⟩
      · exact ⟨_, .lst f2 o2 (.cons (.int 7) .nil), trivial⟩
      · exact ⟨_, .dct f3 o3, trivial⟩
      · exact ⟨_, .dct f4 o4, trivial⟩
      · exact ⟨_, .tup f5 o5 .nil, trivial⟩
      · exact ⟨_, .lst f6 o6 .nil, trivial⟩
      · exact ⟨_, .tup f7 o7 (.cons (.str _) .nil), trivial⟩
      · exact ⟨_, .lst f8 o8 (.cons (.str _) .nil), trivial⟩
      all_goals exact ⟨_, .int _, trivial⟩
    obtain ⟨os1, r1, so1⟩ := RepAll.all a9
    clear a9 hH9 f1 f2 f3 f4 f5 f6 f7 f8 e1 e2 e3 e4 k4 st4 st5 st6 st7 st8 hp5 hp6 hp7 hp8 hp9
    walk_at "st"
    refine ⟨s, c, 1200, rfl, st9, by omega, fun d1 G1 k1 t1 hd1 => ?_⟩
    walk_at "st"
    refine ⟨s, c, 9, rfl, t1, by omega, fun d2 G2 k2 t2 hd2 => ?_⟩
    have pw : CPow 10 9 := ⟨by decide, by decide, by decide⟩
    walk_at "st"
    refine ⟨s, c, 99, rfl, t2, by omega, fun d3 G3 k3 t3 hd3 => ?_⟩
    walk_at "st"
    refine ⟨s, c, 99, rfl, t3, by omega, fun d4 G4 k4 t4 hd4 => ?_⟩
    walk_at "st"
    intro p10 hp10
    have o10 := t4.out hp10
    have t5 := t4.new (x := .lst [V.int d1, V.int (997 - d2), V.int (10 ^ Int.toNat 9 - d3), V.int (-d4)]) hp10
    have szl : (1000000 : Nat) ≤ sizeLine := by decide
    walk_at "st"
    have f10 : (upd G4 p10 (.lst [V.int d1, V.int (997 - d2), V.int (10 ^ Int.toNat 9 - d3), V.int (-d4)])) p9 = some (.lst [V.non, V.bl true, V.bl false, V.str "", V.str "7", V.str "a", V.ref p1, V.ref p2, V.ref p3, V.ref p4, V.ref p5, V.ref p6, V.ref p7, V.ref p8, V.int 0, V.int 1, V.int b, V.int (b - 1), V.int (b + 1), V.int (-1)]) := by walk_at "hl"
    refine r_cat f10 upd_same (by show 24 ≤ sizeLine; omega) (fun p11 hp11 => ?_)
    have o11 := t5.out hp11
    have t6 := t5.new (x := .lst ([V.non, V.bl true, V.bl false, V.str "", V.str "7", V.str "a", V.ref p1, V.ref p2, V.ref p3, V.ref p4, V.ref p5, V.ref p6, V.ref p7, V.ref p8, V.int 0, V.int 1, V.int b, V.int (b - 1), V.int (b + 1), V.int (-1)] ++ [V.int d1, V.int (997 - d2), V.int (10 ^ Int.toNat 9 - d3), V.int (-d4)])) hp11
    walk_at "st"
    refine ⟨s, c, rfl, t6, fun z1 G5 k5 t7 hz1 => ?_⟩
    walk_at "st"
    refine ⟨s, c, rfl, t7, fun z2 G6 k6 t8 hz2 => ?_⟩
    walk_at "st"
    refine ⟨s, c, rfl, t8, fun z3 G7 k7 t9 hz3 => ?_⟩
    have l3 : z3.length + (Str.ofString "-").length ≤ 50 := by show z3.length + 1 ≤ 50; omega
    walk_at "st"
    refine ⟨s, c, b, rfl, t9, by omega, fun d5 G8 k8 t10 hd5 => ?_⟩
    walk_at "st"
    intro p12 hp12
    have o12 := t10.out hp12
    have t11 := t10.new (x := .lst [V.str z1, V.str z2, V.str (z3 ++ "-"), V.int d5]) hp12
    have f11 : (upd G8 p12 (.lst [V.str z1, V.str z2, V.str (z3 ++ "-"), V.int d5])) p11 = some (.lst ([V.non, V.bl true, V.bl false, V.str "", V.str "7", V.str "a", V.ref p1, V.ref p2, V.ref p3, V.ref p4, V.ref p5, V.ref p6, V.ref p7, V.ref p8, V.int 0, V.int 1, V.int b, V.int (b - 1), V.int (b + 1), V.int (-1)] ++ [V.int d1, V.int (997 - d2), V.int (10 ^ Int.toNat 9 - d3), V.int (-d4)])) := by walk_at "hl"
    refine r_cat f11 upd_same (by show 28 ≤ sizeLine; omega) (fun p13 hp13 => ?_)
    have o13 := t11.out hp13
    have e3 : (z3 ++ (Str.ofString "-")).length ≤ 1000 := by
      have : (z3 ++ (Str.ofString "-")).cps.size = z3.cps.size + (Str.ofString "-").cps.size := Array.size_append
      have h2 : (Str.ofString "-").cps.size = 1 := by decide
      have h3 : z3.cps.size ≤ 40 := hz3
      show (z3 ++ (Str.ofString "-")).cps.size ≤ 1000
      omega
    refine q p13 _ (os1 ++ [O.int d1, O.int (997 - d2), O.int (10 ^ Int.toNat 9 - d3), O.int (-d4)] ++ [O.str z1, O.str z2, O.str (z3 ++ "-"), O.int d5]) _ (by walk_at "kp") (by walk_at "stt") upd_same o13 ?_ ?_ (by show 28 ≤ 40; omega)
    · refine RepAll.append (RepAll.append (r1.to (by walk_at "lf")) ?_) ?_
      · exact .cons (.int _) (.cons (.int _) (.cons (.int _) (.cons (.int _) .nil)))
      · exact .cons (.str _) (.cons (.str _) (.cons (.str _) (.cons (.int _) .nil)))
    · intro o ho
      simp only [List.mem_append, List.mem_cons, List.not_mem_nil, or_false] at ho
      rcases ho with (h | h | h | h | h) | h | h | h | h
      · exact so1 o h
      · rw [h]; trivial
      · rw [h]; trivial
      · rw [h]; trivial
      · rw [h]; trivial
      · rw [h]; exact Nat.le_trans hz1 (by omega)
      · rw [h]; exact Nat.le_trans hz2 (by omega)
      · rw [h]; exact e3
      · rw [h]; trivial
end
local macro_rules | `(tactic| walk_at "ssz") => `(tactic| first | decide | exact str_small (by assumption) | (have : (1000000 : Nat) ≤ sizeLine := (by decide); omega))
local macro_rules | `(tactic| walk_at "st1") => `(tactic| first
  | with_reducible refine' r_nt ?_ | with_reducible refine' r_nf ?_
  | ((with_reducible refine r_lenS ?e1 ?_); (case e1 => walk_at "ssz"))
  | with_reducible refine r_inS ?_
  | with_reducible refine r_ninS ?_
  | ((with_reducible refine r_addS ?e1 ?_); (case e1 => walk_at "ssz"))
  | ((with_reducible refine' r_ixS ?e1 ?e2 ?_); (case e1 => walk_at "ssz"); (case e2 => first | assumption | rfl))
  | with_reducible refine r_istr ?_
  | with_reducible refine r_is ?_
  | with_reducible refine r_un ?_
  | with_reducible refine r_u ?_)
/-! ### repr of a list of data, where nothing is being shown -/
def rRepr (K : PySem.W.Frag) : List V → Hp → VK → Prop := fun xs H Q => ∃ (a : Addr) (d : PyData), xs = [.ref a] ∧ Dp K H (.ref a) d ∧ d.showable = true ∧ d.hasDict = false ∧ d.depth ≤ 40 ∧ d.shown.length ≤ sizeLine ∧ Q (.str d.shown) H
theorem cr_repr {X : Cx} (hg : X.A.guards = some []) (hu : X.A.units + 64 < cLine) : CallR X (.builtin "repr") (rRepr X.K) := by
  intro pins s σ H xs us Q I r h
  obtain ⟨a, d, rfl, hd, sh, nd, dep, sz, q⟩ := h
  rw [Vals.ref1 r]
  obtain ⟨as, rr⟩ := Dp.reads I d _ _ hd (show L2.RelV (.ref a) (Value.ref a) from rfl)
  exact repr_of_reads' rr sh (fun z => by rw [nd] at z; cases z) hg (by omega) (fun _ _ e => e) (fun h' u tk kp => ⟨.str _, H, I.kept kp, ⟨_, rfl⟩, q⟩) sz
theorem cr_reprK {X : Cx} {K : PySem.W.Frag} (hg : X.A.guards = some []) (hu : X.A.units + 64 < cLine) (q : X.K = K := by rfl) : CallR X (.builtin "repr") (rRepr K) := q ▸ cr_repr hg hu
def show2 (b1 b2 : Bool) : Str := PyData.shown (.list [.bool b1, .bool b2])
def show4 (b1 b2 b3 b4 : Bool) : Str := PyData.shown (.list [.bool b1, .bool b2, .bool b3, .bool b4])
theorem show2_len (b1 b2 : Bool) : (show2 b1 b2).length ≤ sizeLine := by cases b1 <;> cases b2 <;> decide +kernel
theorem show4_len (b1 b2 b3 b4 : Bool) : (show4 b1 b2 b3 b4).length ≤ sizeLine := by cases b1 <;> cases b2 <;> cases b3 <;> cases b4 <;> decide +kernel
section
variable {K : PySem.W.Frag} {H : Hp} {Q : VK}
theorem r_repr2 {a : Addr} {b1 b2 : Bool} (h : SqL K H a [.bl b1, .bl b2]) (q : Q (.str (show2 b1 b2)) H) : rRepr K [.ref a] H Q :=
  ⟨a, _, rfl, .lst h (.cons (.bl b1) (.cons (.bl b2) .nil)), rfl, rfl, Nat.le_of_ble_eq_true rfl, show2_len b1 b2, q⟩
theorem r_repr4 {a : Addr} {b1 b2 b3 b4 : Bool} (h : SqL K H a [.bl b1, .bl b2, .bl b3, .bl b4]) (q : Q (.str (show4 b1 b2 b3 b4)) H) : rRepr K [.ref a] H Q :=
  ⟨a, _, rfl, .lst h (.cons (.bl b1) (.cons (.bl b2) (.cons (.bl b3) (.cons (.bl b4) .nil)))), rfl, rfl, Nat.le_of_ble_eq_true rfl, show4_len b1 b2 b3 b4, q⟩
end
theorem named8 (o : O) : namedO 8 "" o = nameO o := by
  cases o with
  | str x =>
    by_cases h1 : 1 ≤ x.length
    · obtain ⟨c, _, hc⟩ := first_at h1
      have e1 : onlyIn x ("abcdefghijklmnopqrstuvwxyz" ++ "") = onlyIn x "abcdefghijklmnopqrstuvwxyz" := by
        have : (Str.ofString "abcdefghijklmnopqrstuvwxyz" ++ Str.ofString "") = Str.ofString "abcdefghijklmnopqrstuvwxyz" := by decide
        rw [this]
      have e2 : (firstIn x "abcdefghijklmnopqrstuvwxyz" && onlyIn x "abcdefghijklmnopqrstuvwxyz") = onlyIn x "abcdefghijklmnopqrstuvwxyz" := by
        cases e : cs x with
        | nil => have := cs_len x; rw [e] at this; simp at this; omega
        | cons c r =>
          unfold firstIn onlyIn
          rw [e]
          simp only [List.all_cons]
          cases decide (c ∈ cs (Str.ofString "abcdefghijklmnopqrstuvwxyz")) <;> simp
      show (decide (1 ≤ x.length) && (decide ((x.length : Int) ≤ 8) && (firstIn x "abcdefghijklmnopqrstuvwxyz" && onlyIn x ("abcdefghijklmnopqrstuvwxyz" ++ "")))) = (decide (1 ≤ x.length) && (decide (x.length ≤ 8) && onlyIn x "abcdefghijklmnopqrstuvwxyz"))
      rw [e1, e2, show decide ((x.length : Int) ≤ 8) = decide (x.length ≤ 8) by apply decide_eq_decide.mpr; omega]
    · simp [namedO, nameO, h1]
  | _ => rfl
theorem named40 (o : O) : namedO 40 "0123456789." o = placeO o := by
  cases o with
  | str x =>
    have e1 : (Str.ofString "abcdefghijklmnopqrstuvwxyz" ++ Str.ofString "0123456789.") = Str.ofString "abcdefghijklmnopqrstuvwxyz0123456789." := by decide
    show (decide (1 ≤ x.length) && (decide ((x.length : Int) ≤ 40) && (firstIn x "abcdefghijklmnopqrstuvwxyz" && onlyIn x ("abcdefghijklmnopqrstuvwxyz" ++ "0123456789.")))) = _
    rw [e1, show decide ((x.length : Int) ≤ 40) = decide (x.length ≤ 40) by apply decide_eq_decide.mpr; omega]
    rfl
  | _ => rfl
theorem gcds : primes14.all (fun q => (List.range q.toNat).all fun n => n == 0 || Nat.gcd q.toNat n == 1) = true := by decide +kernel
theorem gcd_of {q n : Int} (hq : q ∈ primes14) (h : 1 ≤ n ∧ n < q) : Nat.gcd q.toNat n.toNat = 1 := by
  have h1 := List.all_eq_true.mp (List.all_eq_true.mp gcds q hq) n.toNat (List.mem_range.mpr (by omega))
  simp at h1
  rcases h1 with z | z
  · omega
  · exact z
theorem inv_one {b b' n q : Int} (h : 1 ≤ b ∧ b < q) (h' : 1 ≤ b' ∧ b' < q) (e : b * n % q = 1) (e' : b' * n % q = 1) (hq : 2 ≤ q) : b = b' := by
  have k1 : b * (b' * n) % q = b % q := by rw [Int.mul_emod, e', Int.mul_one, Int.emod_emod]
  have k2 : b * (b' * n) % q = b' % q := by rw [Int.mul_left_comm, Int.mul_emod, e, Int.mul_one, Int.emod_emod]
  rw [Int.emod_eq_of_lt (by omega) h.2] at k1
  rw [Int.emod_eq_of_lt (by omega) h'.2] at k2
  omega
theorem prime14_in {q : Int} (h : q ∈ primes14) : 2 ≤ q ∧ q ≤ 997 := by
  simp [primes14] at h
  omega
local macro_rules | `(tactic| walk_at "st1") => `(tactic| first
  | with_reducible refine r_par ?_
  | with_reducible refine r_parx ?_)
theorem and_num {S : List Addr} {σ : L2.St} {H : Hp} {Q : VK} {o : O} {z : V} {q : Int} {i j : Nat} (hz : σ[i]? = some (some z)) (hq : σ[j]? = some (some (.int q))) (r : Rep S H z o) (h : Q (.bl (numO q o)) H) :
    ∃ c, V.bl (wholeO o) = .bl c ∧ if c = true then tChain (rI0 fun i j => V.bl (decide (i ≤ j))) (rI0 fun i j => V.bl (decide (i < j))) (tC (.int 0)) (tVar i) (tVar j) σ H Q else Q (.bl false) H := by
  refine ⟨_, rfl, ?_⟩
  cases r with
  | int n =>
    refine r_iteB (fun _ => ?_) (fun z => by cases z)
    refine r_chain (r_c (r_var hz (r_i0 (r_bl (r_ite (fun h1 => ?_) (fun h1 => ?_))))))
    · refine r_var hq (r_i0 ?_)
      simpa [numO, h1] using h
    · simpa [numO, h1] using h
  | _ => exact r_iteB (fun z => by cases z) (fun _ => h)
def sp_law (K : PySem.W.Frag) : Sp := fun vs H Q _ => ∃ (a : Addr) (ns : List Int), vs = [.ref a] ∧ SqL K H a (ns.map .int) ∧ ns.length ≤ 63 ∧ ∀ H', Q (.bl true) H'
section
variable {P : Program} {w : World} {K : PySem.W.Frag} {mg : Str → Option Value} {base : Heap}
theorem ok_law (T : Tx K mg) {f_law_begun : Addr} {fd_law_begun : FuncData} (C_law_begun : Cal P w K mg base "_law_begun" 1 ["script"] (sp_law_begun K) s_law_begun f_law_begun fd_law_begun) {f_law_prime : Addr} {fd_law_prime : FuncData} (C_law_prime : Cal P w K mg base "_law_prime" 2 ["state"] (sp_law_prime K) s_law_prime f_law_prime fd_law_prime) {f_law_things : Addr} {fd_law_things : FuncData} (C_law_things : Cal P w K mg base "_law_things" 3 ["state", "q"] (sp_law_things K) s_law_things f_law_things fd_law_things) {f_inverse : Addr} {fd_inverse : FuncData} (C_inverse : Cal P w K mg base "inverse" 1 ["n", "p"] (sp_inverse K) s_inverse f_inverse fd_inverse) {f_law_primed : Addr} {fd_law_primed : FuncData} (C_law_primed : Cal P w K mg base "_law_primed" 2 ["what"] (sp_law_primed K) s_law_primed f_law_primed fd_law_primed) {f_is_prime : Addr} {fd_is_prime : FuncData} (C_is_prime : Cal P w K mg base "is_prime" 2 ["thing"] (sp_is_prime K) s_is_prime f_is_prime fd_is_prime) {f_is_number : Addr} {fd_is_number : FuncData} (C_is_number : Cal P w K mg base "is_number" 2 ["thing", "p"] (sp_is_number K) s_is_number f_is_number fd_is_number) {f_is_name : Addr} {fd_is_name : FuncData} (C_is_name : Cal P w K mg base "is_name" 2 ["thing"] (sp_is_name K) s_is_name f_is_name fd_is_name) {f_is_place : Addr} {fd_is_place : FuncData} (C_is_place : Cal P w K mg base "is_place" 2 ["thing"] (sp_is_place K) s_is_place f_is_place fd_is_place) {f_law_draw : Addr} {fd_law_draw : FuncData} (C_law_draw : Cal P w K mg base "_law_draw" 1 ["state", "many"] (sp_law_draw K) s_law_draw f_law_draw fd_law_draw) {f_law_whole : Addr} {fd_law_whole : FuncData} (C_law_whole : Cal P w K mg base "_law_whole" 1 ["what"] (sp_law_whole K) s_law_whole f_law_whole fd_law_whole) {f_law_named : Addr} {fd_law_named : FuncData} (C_law_named : Cal P w K mg base "_law_named" 1 ["what", "most", "more"] (sp_law_named K) s_law_named f_law_named fd_law_named) {f : Addr} {fd : FuncData} (F : Here K mg "law" s_law ["script"] f fd) : FnG P w K mg base 4 f fd ["script"] (sp_law K) := by
  refine fnG_of F.fn sc_law (fun vs H Q E h => ?_) (fun cdv A outer s H vs Q E hga hr h => ?_)
  · obtain ⟨a, ns, rfl, _⟩ := h
    rfl
  · obtain ⟨a, ns, rfl, hS, hlen, q⟩ := h
    refine ⟨_, (pss_cons (ps_set (i := 1) sc_law.nd rfl (by first | exact .inl rfl | exact .inr rfl) (pe_call C_law_begun.ok (hr.mono (by decide)) (by rfl) C_law_begun.at_ C_law_begun.kp C_law_begun.b .nil pass0 (pa_cons (pv 0) pa_nil)))
      (pss_cons (ps_for PassesOwn.never rfl (pi_range1 (by rfl) T.m_range (pa_cons pe_int pa_nil)) (pg_name (i := 2) sc_law.nd rfl (by first | exact .inl rfl | exact .inr rfl)) (pss_cons (ps_set (i := 3) sc_law.nd rfl (by first | exact .inl rfl | exact .inr rfl) (pe_call C_law_prime.ok (hr.mono (by decide)) (by rfl) C_law_prime.at_ C_law_prime.kp C_law_prime.b .nil pass0 (pa_cons (pv 1) pa_nil)))
      (pss_cons (ps_for PassesOwn.never rfl (pi_listK (K := K) (pe_call C_law_things.ok (hr.mono (by decide)) (by rfl) C_law_things.at_ C_law_things.kp C_law_things.b .nil pass0 (pa_cons (pv 1) (pa_cons (pv 3) pa_nil)))) (pg_name (i := 4) sc_law.nd rfl (by first | exact .inl rfl | exact .inr rfl)) (pss_cons (ps_set (i := 5) sc_law.nd rfl (by first | exact .inl rfl | exact .inr rfl) (pe_lst (pa_cons (pe_call C_law_primed.ok (hr.mono (by decide)) (by rfl) C_law_primed.at_ C_law_primed.kp C_law_primed.b .nil pass0 (pa_cons (pv 4) pa_nil)) (pa_cons (pe_and (pe_call C_law_whole.ok (hr.mono (by decide)) (by rfl) C_law_whole.at_ C_law_whole.kp C_law_whole.b .nil pass0 (pa_cons (pv 4) pa_nil)) (pe_one (pe_chain op_le op_lt pe_int (pv 4) (pv 3)))) pa_nil))))
      (pss_cons (ps_set (i := 5) sc_law.nd rfl (by first | exact .inl rfl | exact .inr rfl) (pe_op op_cat (pv 5) (pe_lst (pa_cons (pe_call C_law_named.ok (hr.mono (by decide)) (by rfl) C_law_named.at_ C_law_named.kp C_law_named.b .nil pass0 (pa_cons (pv 4) (pa_cons pe_int (pa_cons pe_str pa_nil)))) (pa_cons (pe_call C_law_named.ok (hr.mono (by decide)) (by rfl) C_law_named.at_ C_law_named.kp C_law_named.b .nil pass0 (pa_cons (pv 4) (pa_cons pe_int (pa_cons pe_str pa_nil)))) pa_nil)))))
      (pss_cons (ps_set (i := 6) sc_law.nd rfl (by first | exact .inl rfl | exact .inr rfl) (pe_lst (pa_cons (pe_call C_is_prime.ok (hr.mono (by decide)) (by rfl) C_is_prime.at_ C_is_prime.kp C_is_prime.b .nil pass0 (pa_cons (pv 4) pa_nil)) (pa_cons (pe_call C_is_number.ok (hr.mono (by decide)) (by rfl) C_is_number.at_ C_is_number.kp C_is_number.b .nil pass0 (pa_cons (pv 4) (pa_cons (pv 3) pa_nil))) (pa_cons (pe_call C_is_name.ok (hr.mono (by decide)) (by rfl) C_is_name.at_ C_is_name.kp C_is_name.b .nil pass0 (pa_cons (pv 4) pa_nil)) (pa_cons (pe_call C_is_place.ok (hr.mono (by decide)) (by rfl) C_is_place.at_ C_is_place.kp C_is_place.b .nil pass0 (pa_cons (pv 4) pa_nil)) pa_nil))))))
      (pss_cons (ps_if (pt_cmpR op_ne (pe_callB (cr_reprK (K := K) hga (hu_of64 hr)) (by rfl) T.m_repr (by decide +kernel) (pa_cons (pe_lst (pa_cons (pe_callK0 C_is_name.ok (hr.mono (by decide)) (by rfl) C_is_name.at_ C_is_name.kp (kb_perm (us0 := 0) (ws0 := 1) (is := [0]) (by simp) (fun us ws h1 h2 => kb_is_name_0 C_is_name.fn us ws h1 h2)) pass0 (pk_cons (pv 4) pk_nil)) (pa_cons (pe_callK0 C_is_place.ok (hr.mono (by decide)) (by rfl) C_is_place.at_ C_is_place.kp (kb_perm (us0 := 0) (ws0 := 1) (is := [0]) (by simp) (fun us ws h1 h2 => kb_is_place_0 C_is_place.fn us ws h1 h2)) pass0 (pk_cons (pv 4) pk_nil)) pa_nil))) pa_nil)) (pe_callB (cr_reprK (K := K) hga (hu_of64 hr)) (by rfl) T.m_repr (by decide +kernel) (pa_cons (pe_slice (sl_listK (K := K)) (pv 5) (po_some pe_int) po_none) pa_nil)) (nomark _)) (pss_one (ps_ret pe_bl)) pss_nil)
      (pss_one (ps_if (PW.pt (pw_or (pt_cmpR op_ne (pe_callB (cr_reprK (K := K) hga (hu_of64 hr)) (by rfl) T.m_repr (by decide +kernel) (pa_cons (pv 6) pa_nil)) (pe_callB (cr_reprK (K := K) hga (hu_of64 hr)) (by rfl) T.m_repr (by decide +kernel) (pa_cons (pv 5) pa_nil)) (nomark _)) (pw_or1 (pt_cmpR op_ne (pe_callB (cr_reprK (K := K) hga (hu_of64 hr)) (by rfl) T.m_repr (by decide +kernel) (pa_cons (pe_lst (pa_cons (pe_callK0 C_is_prime.ok (hr.mono (by decide)) (by rfl) C_is_prime.at_ C_is_prime.kp (kb_perm (us0 := 0) (ws0 := 1) (is := [0]) (by simp) (fun us ws h1 h2 => kb_is_prime_0 C_is_prime.fn us ws h1 h2)) pass0 (pk_cons (pv 4) pk_nil)) (pa_cons (pe_callK0 C_is_number.ok (hr.mono (by decide)) (by rfl) C_is_number.at_ C_is_number.kp (kb_perm (us0 := 0) (ws0 := 2) (is := [0, 1]) (by simp) (fun us ws h1 h2 => kb_is_number_0_1 C_is_number.fn us ws h1 h2)) pass0 (pk_cons (pv 4) (pk_cons (pv 3) pk_nil))) pa_nil))) pa_nil)) (pe_callB (cr_reprK (K := K) hga (hu_of64 hr)) (by rfl) T.m_repr (by decide +kernel) (pa_cons (pe_slice (sl_listK (K := K)) (pv 5) po_none (po_some pe_int)) pa_nil)) (nomark _))))) (pss_one (ps_ret pe_bl)) pss_nil)))))))
      (pss_one (ps_for PassesOwn.never rfl (pi_listK (K := K) (pe_lst (pa_cons pe_int (pa_cons (pe_op op_sub (pv 3) pe_int) (pa_cons (pe_op op_add pe_int (pe_call C_law_draw.ok (hr.mono (by decide)) (by rfl) C_law_draw.at_ C_law_draw.kp C_law_draw.b .nil pass0 (pa_cons (pv 1) (pa_cons (pe_op op_sub (pv 3) pe_int) pa_nil)))) pa_nil))))) (pg_name (i := 7) sc_law.nd rfl (by first | exact .inl rfl | exact .inr rfl)) (pss_cons (ps_set (i := 8) sc_law.nd rfl (by first | exact .inl rfl | exact .inr rfl) (pe_call C_inverse.ok (hr.mono (by decide)) (by rfl) C_inverse.at_ C_inverse.kp C_inverse.b .nil pass0 (pa_cons (pv 7) (pa_cons (pv 3) pa_nil))))
      (pss_one (ps_if (PW.pt (pw_or (pt_not (pt_val (pe_call C_law_whole.ok (hr.mono (by decide)) (by rfl) C_law_whole.at_ C_law_whole.kp C_law_whole.b .nil pass0 (pa_cons (pv 8) pa_nil)))) (pw_or (pt_not (pt_chain op_le op_lt pe_int (pv 8) (pv 3))) (pw_or (pt_cmpR op_ne (pe_op op_mod (pe_op op_mul (pv 8) (pv 7)) (pv 3)) pe_int (nomark _)) (pw_or1 (pt_cmpR op_ne (pe_callK0 C_inverse.ok (hr.mono (by decide)) (by rfl) C_inverse.at_ C_inverse.kp (kb_perm (us0 := 0) (ws0 := 2) (is := [1, 0]) (by simp) (fun us ws h1 h2 => kb_inverse_1_0 C_inverse.fn us ws h1 h2)) pass0 (pk_cons (pv 3) (pk_cons (pv 7) pk_nil))) (pv 8) (nomark _))))))) (pss_one (ps_ret pe_bl)) pss_nil))))))))
      (pss_one (ps_ret (pe_cmpR op_eq (pe_glob (v := .int 97) (by rfl) (T.c_PRIME).choose_spec ⟨_, rfl⟩) pe_int (nomark _)))))), ?_⟩
    walk_at "st"
    refine ⟨a, ns, rfl, hS, hlen, fun s c H1 s1 st1 => ?_⟩
    walk_at "st"
    refine lp_by (walk_range (lo := 0) (n := Int.toNat 3)) (fun i σ' H' => ∃ x2 x3 x4 x5 x6 x7 x8, σ' = [some (.ref a), some (.ref s), x2, x3, x4, x5, x6, x7, x8] ∧ St s c H') ⟨_, _, _, _, _, _, _, rfl, st1⟩ (fun _ _ _ _ _ => trivial) (fun i x σ' H2 H2' hi p y => ?_) (fun σ' H2 p => ?_)
    · obtain ⟨x2, x3, x4, x5, x6, x7, x8, rfl, st2⟩ := p
      obtain ⟨rfl, rfl⟩ := y
      walk_at "st"
      refine ⟨s, c, rfl, st2, fun qq H3 k3 st3 hq => ?_⟩
      have hq2 := prime14_in hq
      walk_at "st"
      refine ⟨s, c, qq, rfl, st3, hq2, fun l us os H4 k4 st4 el ol r4 so hus => ?_⟩
      walk_at "st"
      have eus := r4.length
      refine lp_by (walk_list (a := l) (xs := us)) (fun _ σ' H' => ∃ x4 x5 x6 x7 x8, σ' = [some (.ref a), some (.ref s), some (.int (0 + (i : Int))), some (.int qq), x4, x5, x6, x7, x8] ∧ St s c H' ∧ H' l = some (.lst us) ∧ RepAll [s, c] H' us os) ⟨_, _, _, _, _, rfl, st4, el, r4⟩ (fun _ _ _ _ p => SqL.of (by obtain ⟨_, _, _, _, _, _, _, e, _⟩ := p; exact e)) (fun j z σ' H5 H5' hj p y => ?_) (fun σ' H5 p => ?_)
      · obtain ⟨x4, x5, x6, x7, x8, rfl, st5, el5, r5⟩ := p
        obtain ⟨rfl, ez⟩ := y
        obtain ⟨o, eo, ro⟩ := r5.get ez
        have soo := so o (List.mem_of_getElem? eo)
        walk_at "st"
        refine ⟨[s, c], z, o, rfl, ro, fun G1 m1 => ?_⟩
        walk_at "st"
        refine ⟨[s, c], z, o, rfl, ro.to (Lft.same m1), ?_⟩
        refine and_num rfl rfl (ro.to (Lft.same m1)) ?_
        walk_at "st"
        intro p1 hp1
        walk_at "st"
        have ro1 : Rep [s, c] (upd G1 p1 (.lst [V.bl (primeO o), V.bl (numO qq o)])) z o := ro.to ((Lft.same m1).trans (Lft.new hp1))
        refine ⟨[s, c], z, o, 8, "", rfl, ro1, soo, by decide, fun G2 m2 => ?_⟩
        walk_at "st"
        refine ⟨[s, c], z, o, 40, "0123456789.", rfl, ro1.to (Lft.same m2), soo, by decide, fun G3 m3 => ?_⟩
        rw [named8, named40]
        walk_at "st"
        intro p2 hp2
        have szl : (1000000 : Nat) ≤ sizeLine := by decide
        have f1 : (upd G3 p2 (.lst [V.bl (nameO o), V.bl (placeO o)])) p1 = some (.lst [V.bl (primeO o), V.bl (numO qq o)]) := by walk_at "hl"
        refine r_cat f1 upd_same (by show 4 ≤ sizeLine; omega) (fun p3 hp3 => ?_)
        generalize hG4 : upd (upd G3 p2 (.lst [V.bl (nameO o), V.bl (placeO o)])) p3 (.lst ([V.bl (primeO o), V.bl (numO qq o)] ++ [V.bl (nameO o), V.bl (placeO o)])) = G4
        have m4 : Same H5' G4 := by
          rw [← hG4]
          walk_at "sm"
        have f3 : G4 p3 = some (.lst [V.bl (primeO o), V.bl (numO qq o), V.bl (nameO o), V.bl (placeO o)]) := by rw [← hG4]; exact upd_same
        clear hG4 f1 hp1 hp2 hp3 ro1 m2 m3 m1
        walk_at "st"
        refine ⟨[s, c], z, o, rfl, ro.to (Lft.same m4), fun G5 m5 => ?_⟩
        walk_at "st"
        refine ⟨[s, c], z, o, qq, rfl, ro.to ((Lft.same m4).trans (Lft.same m5)), ?_⟩
        walk_at "st"
        refine ⟨[s, c], z, o, rfl, ro.to ((Lft.same m4).trans (Lft.same m5)), soo, fun G6 m6 => ?_⟩
        walk_at "st"
        refine ⟨[s, c], z, o, rfl, ro.to (((Lft.same m4).trans (Lft.same m5)).trans (Lft.same m6)), soo, fun G7 m7 => ?_⟩
        walk_at "st"
        intro p4 hp4
        have m47 : Same G4 G7 := (m5.trans m6).trans m7
        generalize hG8 : upd G7 p4 (.lst [V.bl (primeO o), V.bl (numO qq o), V.bl (nameO o), V.bl (placeO o)]) = G8
        have m48 : Same G4 G8 := by rw [← hG8]; exact m47.trans (Same.upd_new hp4)
        have f4 : G8 p4 = some (.lst [V.bl (primeO o), V.bl (numO qq o), V.bl (nameO o), V.bl (placeO o)]) := by rw [← hG8]; exact upd_same
        have f38 : G8 p3 = some (.lst [V.bl (primeO o), V.bl (numO qq o), V.bl (nameO o), V.bl (placeO o)]) := m48 _ _ f3
        have m8 : Same H5' G8 := m4.trans m48
        clear hG8 hp4 m47 m48 m5 m6 m7 m4 f3
        walk_at "st"
        walk_at "if"
        refine ⟨[s, c], z, o, rfl, ro.to (Lft.same m8), soo, fun G9 m9 => ?_⟩
        walk_at "st"
        refine ⟨[s, c], z, o, rfl, ro.to ((Lft.same m8).trans (Lft.same m9)), soo, fun G10 m10 => ?_⟩
        walk_at "st"
        intro p5 hp5
        walk_at "st"
        refine r_repr2 (SqL.of upd_same) ?_
        have f39 : G10 p3 = some (.lst [V.bl (primeO o), V.bl (numO qq o), V.bl (nameO o), V.bl (placeO o)]) := m10 _ _ (m9 _ _ f38)
        have f4a : G10 p4 = some (.lst [V.bl (primeO o), V.bl (numO qq o), V.bl (nameO o), V.bl (placeO o)]) := m10 _ _ (m9 _ _ f4)
        walk_at "st"
        intro p6 hp6
        have c2 : cutV [V.bl (primeO o), V.bl (numO qq o), V.bl (nameO o), V.bl (placeO o)] (some 2) none = [V.bl (nameO o), V.bl (placeO o)] := rfl
        walk_at "st"
        refine r_repr2 (SqL.of (by rw [← c2]; exact upd_same)) ?_
        walk_at "st"
        refine r_iteB (fun h => by simp at h) (fun _ => ?_)
        have m10' : Same H5' G10 := (m8.trans m9).trans m10
        generalize hG11 : upd (upd G10 p5 (.lst [V.bl (nameO o), V.bl (placeO o)])) p6 (.lst (cutV [V.bl (primeO o), V.bl (numO qq o), V.bl (nameO o), V.bl (placeO o)] (some 2) none)) = G11
        have m1011 : Same G10 G11 := by rw [← hG11]; walk_at "sm"
        have m11 : Same H5' G11 := m10'.trans m1011
        have f3b : G11 p3 = some (.lst [V.bl (primeO o), V.bl (numO qq o), V.bl (nameO o), V.bl (placeO o)]) := m1011 _ _ f39
        have f4b : G11 p4 = some (.lst [V.bl (primeO o), V.bl (numO qq o), V.bl (nameO o), V.bl (placeO o)]) := m1011 _ _ f4a
        clear hG11 m1011 f39 f4a hp5 hp6 m9 m10 m10' f38 f4 m8
        walk_at "st"
        walk_at "if"
        refine r_repr4 (SqL.of f4b) ?_
        walk_at "st"
        refine r_repr4 (SqL.of f3b) ?_
        walk_at "st"
        refine r_iteB (fun h => by simp at h) (fun _ => ?_)
        walk_at "st"
        refine ⟨[s, c], z, o, rfl, ro.to (Lft.same m11), fun G12 m12 => ?_⟩
        walk_at "st"
        refine ⟨[s, c], z, o, qq, rfl, ro.to ((Lft.same m11).trans (Lft.same m12)), ?_⟩
        walk_at "st"
        intro p7 hp7
        walk_at "st"
        refine r_repr2 (SqL.of upd_same) ?_
        have f3c : (upd G12 p7 (.lst [V.bl (primeO o), V.bl (numO qq o)])) p3 = some (.lst [V.bl (primeO o), V.bl (numO qq o), V.bl (nameO o), V.bl (placeO o)]) := hl_new (m12 _ _ f3b) hp7
        walk_at "st"
        intro p8 hp8
        have c3 : cutV [V.bl (primeO o), V.bl (numO qq o), V.bl (nameO o), V.bl (placeO o)] none (some 2) = [V.bl (primeO o), V.bl (numO qq o)] := rfl
        walk_at "st"
        refine r_repr2 (SqL.of (by rw [← c3]; exact upd_same)) ?_
        walk_at "st"
        refine r_iteB (fun h => by simp at h) (fun _ => ?_)
        walk_at "st"
        have m13 : Same H5' (upd (upd G12 p7 (.lst [V.bl (primeO o), V.bl (numO qq o)])) p8 (.lst (cutV [V.bl (primeO o), V.bl (numO qq o), V.bl (nameO o), V.bl (placeO o)] none (some 2)))) := ((m11.trans m12).trans (Same.upd_new hp7)).trans (Same.upd_new hp8)
        exact ⟨_, _, _, _, _, rfl, st5.same m13, m13 _ _ el5, r5.to (Lft.same m13)⟩
      · obtain ⟨x4, x5, x6, x7, x8, rfl, st5, el5, r5⟩ := p
        walk_at "st"
        refine ⟨s, c, qq - 1, rfl, st5, by omega, fun d6 H6 k6 st6 hd6 => ?_⟩
        walk_at "st"
        intro l2 hl2
        generalize hH7 : upd H6 l2 (.lst [V.int 1, V.int (qq - 1), V.int (1 + d6)]) = H7
        have f2 : H7 l2 = some (.lst [V.int 1, V.int (qq - 1), V.int (1 + d6)]) := by rw [← hH7]; exact upd_same
        have st7 : St s c H7 := by rw [← hH7]; exact st6.new hl2
        clear hH7
        walk_at "st"
        refine lp_by (walk_list (a := l2) (xs := [V.int 1, V.int (qq - 1), V.int (1 + d6)])) (fun _ σ' H' => ∃ x7 x8, σ' = [some (.ref a), some (.ref s), some (.int (0 + (i : Int))), some (.int qq), x4, x5, x6, x7, x8] ∧ St s c H' ∧ H' l2 = some (.lst [V.int 1, V.int (qq - 1), V.int (1 + d6)])) ⟨_, _, rfl, st7, f2⟩ (fun _ _ _ _ p => SqL.of (by obtain ⟨_, _, _, _, e⟩ := p; exact e)) (fun j z σ' H8 H8' hj p y => ?_) (fun σ' H8 p => ?_)
        · obtain ⟨y7, y8, rfl, st8, f8⟩ := p
          obtain ⟨rfl, ez⟩ := y
          obtain ⟨n, rfl, hn⟩ : ∃ n, z = .int n ∧ (1 ≤ n ∧ n < qq) := by
            have hz := List.mem_of_getElem? ez
            simp at hz
            rcases hz with h | h | h <;> exact ⟨_, h, by omega⟩
          walk_at "st"
          refine ⟨n, qq, rfl, by omega, gcd_of hq hn, fun b H9 m9 hb eb => ?_⟩
          walk_at "st"
          simp only []
          refine r_join (fun σ' H' => σ' = [some (.ref a), some (.ref s), some (.int (0 + (i : Int))), some (.int qq), x4, x5, x6, some (.int n), some (.int b)] ∧ St s c H' ∧ H' l2 = some (.lst [V.int 1, V.int (qq - 1), V.int (1 + d6)])) (fun σ' H' g => ?_) (fun N hN => ?_)
          · obtain ⟨rfl, g1, g2⟩ := g
            exact ⟨_, _, rfl, g1, g2⟩
          · walk_at "if"
            refine ⟨[], _, .int b, rfl, .int b, ?_⟩
            refine r_bl ?_
            walk_at "st"
            rw [show wholeO (.int b) = true from rfl]
            walk_at "st"
            rw [decide_eq_true hb.1]
            walk_at "st"
            rw [decide_eq_true hb.2]
            walk_at "st"
            rw [eb]
            refine r_iteB (fun h => by simp at h) (fun _ => ?_)
            walk_at "st"
            refine ⟨n, qq, rfl, by omega, gcd_of hq hn, fun b2 H10 m10 hb2 eb2 => ?_⟩
            obtain rfl := inv_one hb hb2 eb eb2 hq2.1
            walk_at "st"
            refine r_iteB (fun h => by simp at h) (fun _ => ?_)
            walk_at "st"
            have mm : Same H8' H10 := m9.trans m10
            exact hN _ _ ⟨rfl, st8.same mm, mm _ _ f8⟩
        · obtain ⟨y7, y8, rfl, st8, f8⟩ := p
          exact ⟨_, _, _, _, _, _, _, rfl, st8⟩
    · obtain ⟨x2, x3, x4, x5, x6, x7, x8, rfl, st2⟩ := p
      walk_at "st"
      exact q _
end
/-! ### what the top has written; the law -/
theorem all_mk {l : PySem.W.OpenLaw} {w : World} {K : PySem.W.Frag} {h : Heap} {mg : Str → Option Value} {fa : Addr} (X : K.In h) (G : h.Ns mainGlobals mg) (hfa : mg "law" = some (.ref fa))
    {od1 an1 : Option Addr} {sl1 : Array (Option Value)} {oc1 kV1 dc1 pm1 cd1 ct1 : Value} {f1 : Addr}
    {od2 an2 : Option Addr} {sl2 : Array (Option Value)} {oc2 kV2 dc2 pm2 cd2 ct2 : Value} {f2 : Addr}
    {od3 an3 : Option Addr} {sl3 : Array (Option Value)} {oc3 kV3 dc3 pm3 cd3 ct3 : Value} {f3 : Addr}
    {od4 an4 : Option Addr} {sl4 : Array (Option Value)} {oc4 kV4 dc4 pm4 cd4 ct4 : Value} {f4 : Addr}
    {od5 an5 : Option Addr} {sl5 : Array (Option Value)} {oc5 kV5 dc5 pm5 cd5 ct5 : Value} {f5 : Addr}
    {od6 an6 : Option Addr} {sl6 : Array (Option Value)} {oc6 kV6 dc6 pm6 cd6 ct6 : Value} {f6 : Addr}
    {od7 an7 : Option Addr} {sl7 : Array (Option Value)} {oc7 kV7 dc7 pm7 cd7 ct7 : Value} {f7 : Addr}
    {od8 an8 : Option Addr} {sl8 : Array (Option Value)} {oc8 kV8 dc8 pm8 cd8 ct8 : Value} {f8 : Addr}
    {od9 an9 : Option Addr} {sl9 : Array (Option Value)} {oc9 kV9 dc9 pm9 cd9 ct9 : Value} {f9 : Addr}
    {od10 an10 : Option Addr} {sl10 : Array (Option Value)} {oc10 kV10 dc10 pm10 cd10 ct10 : Value} {f10 : Addr}
    {od11 an11 : Option Addr} {sl11 : Array (Option Value)} {oc11 kV11 dc11 pm11 cd11 ct11 : Value} {f11 : Addr}
    {od12 an12 : Option Addr} {sl12 : Array (Option Value)} {oc12 kV12 dc12 pm12 cd12 ct12 : Value} {f12 : Addr}
    {od13 an13 : Option Addr} {sl13 : Array (Option Value)} {oc13 kV13 dc13 pm13 cd13 ct13 : Value} {f13 : Addr}
    {od14 an14 : Option Addr} {sl14 : Array (Option Value)} {oc14 kV14 dc14 pm14 cd14 ct14 : Value} {f14 : Addr}
    {od15 an15 : Option Addr} {sl15 : Array (Option Value)} {oc15 kV15 dc15 pm15 cd15 ct15 : Value} {f15 : Addr}
    {od16 an16 : Option Addr} {sl16 : Array (Option Value)} {oc16 kV16 dc16 pm16 cd16 ct16 : Value} {f16 : Addr}
    {od17 an17 : Option Addr} {sl17 : Array (Option Value)} {oc17 kV17 dc17 pm17 cd17 ct17 : Value} {f17 : Addr}
    (a1 : PySem.W.nsIn K mainGlobals "is_whole" = some (some (.ref f1))) (l1 : K.lookup f1 = some ⟨oc1, od1, .func (PySem.W.fnOf "is_whole" "is_whole" (defArgs s_is_whole) (defBody s_is_whole) (defScope s_is_whole) .none kV1 dc1 pm1 an1 cd1 ct1), sl1⟩) (c1 : PySem.W.codeIn K cd1 "is_whole" = true) (k1 : PySem.W.keepIn K (.ref f1) = true)
    (a2 : PySem.W.nsIn K mainGlobals "is_prime" = some (some (.ref f2))) (l2 : K.lookup f2 = some ⟨oc2, od2, .func (PySem.W.fnOf "is_prime" "is_prime" (defArgs s_is_prime) (defBody s_is_prime) (defScope s_is_prime) .none kV2 dc2 pm2 an2 cd2 ct2), sl2⟩) (c2 : PySem.W.codeIn K cd2 "is_prime" = true) (k2 : PySem.W.keepIn K (.ref f2) = true)
    (a3 : PySem.W.nsIn K mainGlobals "is_number" = some (some (.ref f3))) (l3 : K.lookup f3 = some ⟨oc3, od3, .func (PySem.W.fnOf "is_number" "is_number" (defArgs s_is_number) (defBody s_is_number) (defScope s_is_number) .none kV3 dc3 pm3 an3 cd3 ct3), sl3⟩) (c3 : PySem.W.codeIn K cd3 "is_number" = true) (k3 : PySem.W.keepIn K (.ref f3) = true)
    (a4 : PySem.W.nsIn K mainGlobals "is_name" = some (some (.ref f4))) (l4 : K.lookup f4 = some ⟨oc4, od4, .func (PySem.W.fnOf "is_name" "is_name" (defArgs s_is_name) (defBody s_is_name) (defScope s_is_name) .none kV4 dc4 pm4 an4 cd4 ct4), sl4⟩) (c4 : PySem.W.codeIn K cd4 "is_name" = true) (k4 : PySem.W.keepIn K (.ref f4) = true)
    (a5 : PySem.W.nsIn K mainGlobals "is_place" = some (some (.ref f5))) (l5 : K.lookup f5 = some ⟨oc5, od5, .func (PySem.W.fnOf "is_place" "is_place" (defArgs s_is_place) (defBody s_is_place) (defScope s_is_place) .none kV5 dc5 pm5 an5 cd5 ct5), sl5⟩) (c5 : PySem.W.codeIn K cd5 "is_place" = true) (k5 : PySem.W.keepIn K (.ref f5) = true)
    (a6 : PySem.W.nsIn K mainGlobals "has_only" = some (some (.ref f6))) (l6 : K.lookup f6 = some ⟨oc6, od6, .func (PySem.W.fnOf "has_only" "has_only" (defArgs s_has_only) (defBody s_has_only) (defScope s_has_only) .none kV6 dc6 pm6 an6 cd6 ct6), sl6⟩) (c6 : PySem.W.codeIn K cd6 "has_only" = true) (k6 : PySem.W.keepIn K (.ref f6) = true)
    (a7 : PySem.W.nsIn K mainGlobals "inverse" = some (some (.ref f7))) (l7 : K.lookup f7 = some ⟨oc7, od7, .func (PySem.W.fnOf "inverse" "inverse" (defArgs s_inverse) (defBody s_inverse) (defScope s_inverse) .none kV7 dc7 pm7 an7 cd7 ct7), sl7⟩) (c7 : PySem.W.codeIn K cd7 "inverse" = true) (k7 : PySem.W.keepIn K (.ref f7) = true)
    (a8 : PySem.W.nsIn K mainGlobals "_law_begun" = some (some (.ref f8))) (l8 : K.lookup f8 = some ⟨oc8, od8, .func (PySem.W.fnOf "_law_begun" "_law_begun" (defArgs s_law_begun) (defBody s_law_begun) (defScope s_law_begun) .none kV8 dc8 pm8 an8 cd8 ct8), sl8⟩) (c8 : PySem.W.codeIn K cd8 "_law_begun" = true) (k8 : PySem.W.keepIn K (.ref f8) = true)
    (a9 : PySem.W.nsIn K mainGlobals "_law_draw" = some (some (.ref f9))) (l9 : K.lookup f9 = some ⟨oc9, od9, .func (PySem.W.fnOf "_law_draw" "_law_draw" (defArgs s_law_draw) (defBody s_law_draw) (defScope s_law_draw) .none kV9 dc9 pm9 an9 cd9 ct9), sl9⟩) (c9 : PySem.W.codeIn K cd9 "_law_draw" = true) (k9 : PySem.W.keepIn K (.ref f9) = true)
    (a10 : PySem.W.nsIn K mainGlobals "_law_prime" = some (some (.ref f10))) (l10 : K.lookup f10 = some ⟨oc10, od10, .func (PySem.W.fnOf "_law_prime" "_law_prime" (defArgs s_law_prime) (defBody s_law_prime) (defScope s_law_prime) .none kV10 dc10 pm10 an10 cd10 ct10), sl10⟩) (c10 : PySem.W.codeIn K cd10 "_law_prime" = true) (k10 : PySem.W.keepIn K (.ref f10) = true)
    (a11 : PySem.W.nsIn K mainGlobals "_law_place" = some (some (.ref f11))) (l11 : K.lookup f11 = some ⟨oc11, od11, .func (PySem.W.fnOf "_law_place" "_law_place" (defArgs s_law_place) (defBody s_law_place) (defScope s_law_place) .none kV11 dc11 pm11 an11 cd11 ct11), sl11⟩) (c11 : PySem.W.codeIn K cd11 "_law_place" = true) (k11 : PySem.W.keepIn K (.ref f11) = true)
    (a12 : PySem.W.nsIn K mainGlobals "_law_text" = some (some (.ref f12))) (l12 : K.lookup f12 = some ⟨oc12, od12, .func (PySem.W.fnOf "_law_text" "_law_text" (defArgs s_law_text) (defBody s_law_text) (defScope s_law_text) .none kV12 dc12 pm12 an12 cd12 ct12), sl12⟩) (c12 : PySem.W.codeIn K cd12 "_law_text" = true) (k12 : PySem.W.keepIn K (.ref f12) = true)
    (a13 : PySem.W.nsIn K mainGlobals "_law_whole" = some (some (.ref f13))) (l13 : K.lookup f13 = some ⟨oc13, od13, .func (PySem.W.fnOf "_law_whole" "_law_whole" (defArgs s_law_whole) (defBody s_law_whole) (defScope s_law_whole) .none kV13 dc13 pm13 an13 cd13 ct13), sl13⟩) (c13 : PySem.W.codeIn K cd13 "_law_whole" = true) (k13 : PySem.W.keepIn K (.ref f13) = true)
    (a14 : PySem.W.nsIn K mainGlobals "_law_primed" = some (some (.ref f14))) (l14 : K.lookup f14 = some ⟨oc14, od14, .func (PySem.W.fnOf "_law_primed" "_law_primed" (defArgs s_law_primed) (defBody s_law_primed) (defScope s_law_primed) .none kV14 dc14 pm14 an14 cd14 ct14), sl14⟩) (c14 : PySem.W.codeIn K cd14 "_law_primed" = true) (k14 : PySem.W.keepIn K (.ref f14) = true)
    (a15 : PySem.W.nsIn K mainGlobals "_law_named" = some (some (.ref f15))) (l15 : K.lookup f15 = some ⟨oc15, od15, .func (PySem.W.fnOf "_law_named" "_law_named" (defArgs s_law_named) (defBody s_law_named) (defScope s_law_named) .none kV15 dc15 pm15 an15 cd15 ct15), sl15⟩) (c15 : PySem.W.codeIn K cd15 "_law_named" = true) (k15 : PySem.W.keepIn K (.ref f15) = true)
    (a16 : PySem.W.nsIn K mainGlobals "_law_things" = some (some (.ref f16))) (l16 : K.lookup f16 = some ⟨oc16, od16, .func (PySem.W.fnOf "_law_things" "_law_things" (defArgs s_law_things) (defBody s_law_things) (defScope s_law_things) .none kV16 dc16 pm16 an16 cd16 ct16), sl16⟩) (c16 : PySem.W.codeIn K cd16 "_law_things" = true) (k16 : PySem.W.keepIn K (.ref f16) = true)
    (a17 : PySem.W.nsIn K mainGlobals "law" = some (some (.ref f17))) (l17 : K.lookup f17 = some ⟨oc17, od17, .func (PySem.W.fnOf "law" "law" (defArgs s_law) (defBody s_law) (defScope s_law) .none kV17 dc17 pm17 an17 cd17 ct17), sl17⟩) (c17 : PySem.W.codeIn K cd17 "law" = true) (k17 : PySem.W.keepIn K (.ref f17) = true)
    (z_abs : PySem.W.nsIn K mainGlobals "abs" = some none)
    (z_all : PySem.W.nsIn K mainGlobals "all" = some none)
    (z_bool : PySem.W.nsIn K mainGlobals "bool" = some none)
    (z_int : PySem.W.nsIn K mainGlobals "int" = some none)
    (z_isinstance : PySem.W.nsIn K mainGlobals "isinstance" = some none)
    (z_len : PySem.W.nsIn K mainGlobals "len" = some none)
    (z_range : PySem.W.nsIn K mainGlobals "range" = some none)
    (z_repr : PySem.W.nsIn K mainGlobals "repr" = some none)
    (z_str : PySem.W.nsIn K mainGlobals "str" = some none)
    {t_FIGURES : Tok} (y_FIGURES : PySem.W.nsIn K mainGlobals "FIGURES" = some (some (.str "0123456789" t_FIGURES)))
    {t_HIGHEST_PRIME : Tok} (y_HIGHEST_PRIME : PySem.W.nsIn K mainGlobals "HIGHEST_PRIME" = some (some (.int 997 t_HIGHEST_PRIME)))
    {t_LETTERS : Tok} (y_LETTERS : PySem.W.nsIn K mainGlobals "LETTERS" = some (some (.str "abcdefghijklmnopqrstuvwxyz" t_LETTERS)))
    {t_LONGEST_NAME : Tok} (y_LONGEST_NAME : PySem.W.nsIn K mainGlobals "LONGEST_NAME" = some (some (.int 8 t_LONGEST_NAME)))
    {t_LONGEST_PLACE : Tok} (y_LONGEST_PLACE : PySem.W.nsIn K mainGlobals "LONGEST_PLACE" = some (some (.int 40 t_LONGEST_PLACE)))
    {t_PRIME : Tok} (y_PRIME : PySem.W.nsIn K mainGlobals "PRIME" = some (some (.int 97 t_PRIME))) :
    ∃ fd : FuncData, (∀ (s : Shared) (v : Value), BindsTo s fd ⟨[v], []⟩ [("script", v)]) ∧ ∀ base : Heap, K.In base → base.Ns mainGlobals mg → FnG l.prog w K mg base 4 fa fd ["script"] (sp_law K) := by
  have e := hfa.symm.trans (PySem.W.mg_of X G a17)
  cases e
  have G1 := fun_mk (st := s_is_whole) l1 c1 k1
  have F1 : Here K mg "is_whole" s_is_whole ["thing"] f1 _ := ⟨G1, PySem.W.mg_of X G a1, G1.binds (ps := ["thing"]) fun _ _ _ _ _ _ us hl => match us, hl with | [_], _ => rfl⟩
  have G2 := fun_mk (st := s_is_prime) l2 c2 k2
  have F2 : Here K mg "is_prime" s_is_prime ["thing"] f2 _ := ⟨G2, PySem.W.mg_of X G a2, G2.binds (ps := ["thing"]) fun _ _ _ _ _ _ us hl => match us, hl with | [_], _ => rfl⟩
  have G3 := fun_mk (st := s_is_number) l3 c3 k3
  have F3 : Here K mg "is_number" s_is_number ["thing", "p"] f3 _ := ⟨G3, PySem.W.mg_of X G a3, G3.binds (ps := ["thing", "p"]) fun _ _ _ _ _ _ us hl => match us, hl with | [_, _], _ => rfl⟩
  have G4 := fun_mk (st := s_is_name) l4 c4 k4
  have F4 : Here K mg "is_name" s_is_name ["thing"] f4 _ := ⟨G4, PySem.W.mg_of X G a4, G4.binds (ps := ["thing"]) fun _ _ _ _ _ _ us hl => match us, hl with | [_], _ => rfl⟩
  have G5 := fun_mk (st := s_is_place) l5 c5 k5
  have F5 : Here K mg "is_place" s_is_place ["thing"] f5 _ := ⟨G5, PySem.W.mg_of X G a5, G5.binds (ps := ["thing"]) fun _ _ _ _ _ _ us hl => match us, hl with | [_], _ => rfl⟩
  have G6 := fun_mk (st := s_has_only) l6 c6 k6
  have F6 : Here K mg "has_only" s_has_only ["text", "signs"] f6 _ := ⟨G6, PySem.W.mg_of X G a6, G6.binds (ps := ["text", "signs"]) fun _ _ _ _ _ _ us hl => match us, hl with | [_, _], _ => rfl⟩
  have G7 := fun_mk (st := s_inverse) l7 c7 k7
  have F7 : Here K mg "inverse" s_inverse ["n", "p"] f7 _ := ⟨G7, PySem.W.mg_of X G a7, G7.binds (ps := ["n", "p"]) fun _ _ _ _ _ _ us hl => match us, hl with | [_, _], _ => rfl⟩
  have G8 := fun_mk (st := s_law_begun) l8 c8 k8
  have F8 : Here K mg "_law_begun" s_law_begun ["script"] f8 _ := ⟨G8, PySem.W.mg_of X G a8, G8.binds (ps := ["script"]) fun _ _ _ _ _ _ us hl => match us, hl with | [_], _ => rfl⟩
  have G9 := fun_mk (st := s_law_draw) l9 c9 k9
  have F9 : Here K mg "_law_draw" s_law_draw ["state", "many"] f9 _ := ⟨G9, PySem.W.mg_of X G a9, G9.binds (ps := ["state", "many"]) fun _ _ _ _ _ _ us hl => match us, hl with | [_, _], _ => rfl⟩
  have G10 := fun_mk (st := s_law_prime) l10 c10 k10
  have F10 : Here K mg "_law_prime" s_law_prime ["state"] f10 _ := ⟨G10, PySem.W.mg_of X G a10, G10.binds (ps := ["state"]) fun _ _ _ _ _ _ us hl => match us, hl with | [_], _ => rfl⟩
  have G11 := fun_mk (st := s_law_place) l11 c11 k11
  have F11 : Here K mg "_law_place" s_law_place ["state"] f11 _ := ⟨G11, PySem.W.mg_of X G a11, G11.binds (ps := ["state"]) fun _ _ _ _ _ _ us hl => match us, hl with | [_], _ => rfl⟩
  have G12 := fun_mk (st := s_law_text) l12 c12 k12
  have F12 : Here K mg "_law_text" s_law_text ["state"] f12 _ := ⟨G12, PySem.W.mg_of X G a12, G12.binds (ps := ["state"]) fun _ _ _ _ _ _ us hl => match us, hl with | [_], _ => rfl⟩
  have G13 := fun_mk (st := s_law_whole) l13 c13 k13
  have F13 : Here K mg "_law_whole" s_law_whole ["what"] f13 _ := ⟨G13, PySem.W.mg_of X G a13, G13.binds (ps := ["what"]) fun _ _ _ _ _ _ us hl => match us, hl with | [_], _ => rfl⟩
  have G14 := fun_mk (st := s_law_primed) l14 c14 k14
  have F14 : Here K mg "_law_primed" s_law_primed ["what"] f14 _ := ⟨G14, PySem.W.mg_of X G a14, G14.binds (ps := ["what"]) fun _ _ _ _ _ _ us hl => match us, hl with | [_], _ => rfl⟩
  have G15 := fun_mk (st := s_law_named) l15 c15 k15
  have F15 : Here K mg "_law_named" s_law_named ["what", "most", "more"] f15 _ := ⟨G15, PySem.W.mg_of X G a15, G15.binds (ps := ["what", "most", "more"]) fun _ _ _ _ _ _ us hl => match us, hl with | [_, _, _], _ => rfl⟩
  have G16 := fun_mk (st := s_law_things) l16 c16 k16
  have F16 : Here K mg "_law_things" s_law_things ["state", "q"] f16 _ := ⟨G16, PySem.W.mg_of X G a16, G16.binds (ps := ["state", "q"]) fun _ _ _ _ _ _ us hl => match us, hl with | [_, _], _ => rfl⟩
  have G17 := fun_mk (st := s_law) l17 c17 k17
  have F17 : Here K mg "law" s_law ["script"] fa _ := ⟨G17, PySem.W.mg_of X G a17, G17.binds (ps := ["script"]) fun _ _ _ _ _ _ us hl => match us, hl with | [_], _ => rfl⟩
  have T : Tx K mg := ⟨⟨_, PySem.W.mg_of X G y_FIGURES⟩, ⟨_, PySem.W.mg_of X G y_HIGHEST_PRIME⟩, ⟨_, PySem.W.mg_of X G y_LETTERS⟩, ⟨_, PySem.W.mg_of X G y_LONGEST_NAME⟩, ⟨_, PySem.W.mg_of X G y_LONGEST_PLACE⟩, ⟨_, PySem.W.mg_of X G y_PRIME⟩, PySem.W.mg_none_of X G z_abs, PySem.W.mg_none_of X G z_all, PySem.W.mg_none_of X G z_bool, PySem.W.mg_none_of X G z_int, PySem.W.mg_none_of X G z_isinstance, PySem.W.mg_none_of X G z_len, PySem.W.mg_none_of X G z_range, PySem.W.mg_none_of X G z_repr, PySem.W.mg_none_of X G z_str⟩
  refine ⟨PySem.W.fnOf "law" "law" (defArgs s_law) (defBody s_law) (defScope s_law) .none kV17 dc17 pm17 an17 cd17 ct17, fun s v => .of_eq rfl, fun base _ _ => ?_⟩
  have C_law_begun := ok_law_begun (P := l.prog) (w := w) (base := base) T  F8
  have C_law_draw := ok_law_draw (P := l.prog) (w := w) (base := base) T  F9
  have C_law_prime := ok_law_prime (P := l.prog) (w := w) (base := base) T C_law_draw F10
  have C_law_text := ok_law_text (P := l.prog) (w := w) (base := base) T C_law_draw F12
  have C_law_place := ok_law_place (P := l.prog) (w := w) (base := base) T C_law_draw F11
  have C_law_things := ok_law_things (P := l.prog) (w := w) (base := base) T C_law_draw C_law_text C_law_place F16
  have C_inverse := ok_inverse (P := l.prog) (w := w) (base := base) T  F7
  have C_law_whole := ok_law_whole (P := l.prog) (w := w) (base := base) T  F13
  have C_law_primed := ok_law_primed (P := l.prog) (w := w) (base := base) T C_law_whole F14
  have C_is_whole := ok_is_whole (P := l.prog) (w := w) (base := base) T  F1
  have C_is_prime := ok_is_prime (P := l.prog) (w := w) (base := base) T C_is_whole F2
  have C_is_number := ok_is_number (P := l.prog) (w := w) (base := base) T C_is_whole F3
  have C_has_only := ok_has_only (P := l.prog) (w := w) (base := base) T  F6
  have C_is_name := ok_is_name (P := l.prog) (w := w) (base := base) T C_has_only F4
  have C_is_place := ok_is_place (P := l.prog) (w := w) (base := base) T C_has_only F5
  have C_law_named := ok_law_named (P := l.prog) (w := w) (base := base) T  F15
  have C_law := ok_law (P := l.prog) (w := w) (base := base) T C_law_begun C_law_prime C_law_things C_inverse C_law_primed C_is_prime C_is_number C_is_name C_is_place C_law_draw C_law_whole C_law_named F17
  exact C_law
end Z
open PySem PySem.W PyProof.Rows
set_option maxHeartbeats 0 in
theorem PySem.Challenge.cw_onetrace_k01_primes_numbers_names_holds : PySem.Challenge.rw_onetrace_k01_primes_numbers_names.Holds := by
  w_on; o_law; k_head; (case hw => w_witness2)
  k_fill
  refine Z.walkG_of (l := PySem.Challenge.rw_onetrace_k01_primes_numbers_names) (n := 63) (k := 4) (x := "script") (sp := fun w => Z.sp_law _) rfl (by decide) rfl ⟨rfl, by decide, by decide⟩ (fun w h Y => PySem.W.kIn_of Y) ?F (fun _ _ a ns hl _ hS => ⟨a, ns, rfl, hS, hl, fun _ => rfl⟩)
  case F =>
    intro w mg fa h KX G hmg
    refine' Z.all_mk KX G hmg ?a1 ?l1 ?c1 ?k1 ?a2 ?l2 ?c2 ?k2 ?a3 ?l3 ?c3 ?k3 ?a4 ?l4 ?c4 ?k4 ?a5 ?l5 ?c5 ?k5 ?a6 ?l6 ?c6 ?k6 ?a7 ?l7 ?c7 ?k7 ?a8 ?l8 ?c8 ?k8 ?a9 ?l9 ?c9 ?k9 ?a10 ?l10 ?c10 ?k10 ?a11 ?l11 ?c11 ?k11 ?a12 ?l12 ?c12 ?k12 ?a13 ?l13 ?c13 ?k13 ?a14 ?l14 ?c14 ?k14 ?a15 ?l15 ?c15 ?k15 ?a16 ?l16 ?c16 ?k16 ?a17 ?l17 ?c17 ?k17 ?z_abs ?z_all ?z_bool ?z_int ?z_isinstance ?z_len ?z_range ?z_repr ?z_str ?y_FIGURES ?y_HIGHEST_PRIME ?y_LETTERS ?y_LONGEST_NAME ?y_LONGEST_PLACE ?y_PRIME
    (case a1 => k_is)
    (case l1 => k_is)
    (case c1 => k_is)
    (case k1 => k_is)
    (case a2 => k_is)
    (case l2 => k_is)
    (case c2 => k_is)
    (case k2 => k_is)
    (case a3 => k_is)
    (case l3 => k_is)
    (case c3 => k_is)
    (case k3 => k_is)
    (case a4 => k_is)
    (case l4 => k_is)
    (case c4 => k_is)
    (case k4 => k_is)
    (case a5 => k_is)
    (case l5 => k_is)
    (case c5 => k_is)
    (case k5 => k_is)
    (case a6 => k_is)
    (case l6 => k_is)
    (case c6 => k_is)
    (case k6 => k_is)
    (case a7 => k_is)
    (case l7 => k_is)
    (case c7 => k_is)
    (case k7 => k_is)
    (case a8 => k_is)
    (case l8 => k_is)
    (case c8 => k_is)
    (case k8 => k_is)
    (case a9 => k_is)
    (case l9 => k_is)
    (case c9 => k_is)
    (case k9 => k_is)
    (case a10 => k_is)
    (case l10 => k_is)
    (case c10 => k_is)
    (case k10 => k_is)
    (case a11 => k_is)
    (case l11 => k_is)
    (case c11 => k_is)
    (case k11 => k_is)
    (case a12 => k_is)
    (case l12 => k_is)
    (case c12 => k_is)
    (case k12 => k_is)
    (case a13 => k_is)
    (case l13 => k_is)
    (case c13 => k_is)
    (case k13 => k_is)
    (case a14 => k_is)
    (case l14 => k_is)
    (case c14 => k_is)
    (case k14 => k_is)
    (case a15 => k_is)
    (case l15 => k_is)
    (case c15 => k_is)
    (case k15 => k_is)
    (case a16 => k_is)
    (case l16 => k_is)
    (case c16 => k_is)
    (case k16 => k_is)
    (case a17 => k_is)
    (case l17 => k_is)
    (case c17 => k_is)
    (case k17 => k_is)
    (case z_abs => k_is)
    (case z_all => k_is)
    (case z_bool => k_is)
    (case z_int => k_is)
    (case z_isinstance => k_is)
    (case z_len => k_is)
    (case z_range => k_is)
    (case z_repr => k_is)
    (case z_str => k_is)
    (case y_FIGURES => k_is)
    (case y_HIGHEST_PRIME => k_is)
    (case y_LETTERS => k_is)
    (case y_LONGEST_NAME => k_is)
    (case y_LONGEST_PLACE => k_is)
    (case y_PRIME => k_is)
