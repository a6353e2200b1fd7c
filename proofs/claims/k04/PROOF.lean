import PyProof.Rows.All
import Wide.All
import OpenK.AllK
import Wide.FinOn
import HandS.ForMost
import HandS.Wide
import HandS.Zip
import HandS.Walk
import HandS.IsInst
import HandS.TupAny
import HandS.Style
import HandS.SortOrd
import HandS.Remove
import KE.DataFind
import KE.GoesEnum
import HandS.TupMul
import HandS.More
import HandS.Small
import HandS.DictComp
import KE.KRevSl
import PyProof.StrOps2
import PyProof.NeKinds
import HandS.Codes
import HandS.Text
import HandS.FStr
import HandS.StrMore
import KE.KDictZip
import PySem.Challenge.RW_onetrace_k04_whole_texts_of_forms
set_option Elab.async false
set_option linter.all false
set_option maxRecDepth 100000
set_option maxHeartbeats 4000000
namespace Z
open PySem PySem.Spec PyProof.Rows L2 RZ
/-- a def that is called: where it stands, what it promises -/
structure Cal (P : Program) (w : World) (K : PySem.W.Frag) (mg : Str → Option Value) (base : Heap) (x : Str) (k : Nat) (ps : List Str) (sp : Sp) (st : Stmt) (f : Addr) (fd : FuncData) : Prop where
  ok : FnOk P w K mg base CX0 k f fd ps sp
  at_ : mg x = some (.ref f)
  kp : PySem.W.keepIn K (.ref f) = true
  b : Binds K fd ps []
  fn : Fun K x x st f fd
/-- a def as it stands behind the top -/
structure Here (K : PySem.W.Frag) (mg : Str → Option Value) (x : Str) (st : Stmt) (ps : List Str) (f : Addr) (fd : FuncData) : Prop where
  fn : Fun K x x st f fd
  at_ : mg x = some (.ref f)
  b : Binds K fd ps []
section
variable {P : Program} {w : World} {K : PySem.W.Frag} {mg : Str → Option Value} {base : Heap}
theorem Here.cal {x : Str} {st : Stmt} {ps N : List Str} {f : Addr} {fd : FuncData} {k : Nat} {sp : Sp} (F : Here K mg x st ps f fd) (S : FnScope N ps (defScope st)) (len : ∀ vs H Q E, sp vs H Q E → vs.length = ps.length)
    (hbody : ∀ (cdv : Value) (A : Around) (outer : List Env) (s : Shared) (H : Hp) (vs : List V) (Q : VK) (E : XK), Room k (A.deeper (envOfC x (defScope st) s.heap.objs.size f cdv)) → sp vs H Q E →
      ∃ t, PSs (cxOf CX0 P w K mg base N x (defScope st) f cdv A outer s H E).nox (defBody st) t ∧ t { nx := fun _ H' => Q .non H', rt := Q } (L2.start N vs) H) : Cal P w K mg base x (k + 1) ps sp st f fd :=
  ⟨F.fn.ok S len hbody, F.at_, F.fn.kp, F.b, F.fn⟩
end
/-! readings, rule by rule -/
def rLen (K : PySem.W.Frag) : List V → Hp → VK → Prop := fun xs H Q => ∃ p ys, xs = [.ref p] ∧ (SqL K H p ys ∨ SqT K H p ys) ∧ Q (.int ys.length) H
theorem cr_len {X : Cx} : CallR X (.builtin "len") (rLen X.K) := call_len_seq
theorem r_app0 {l : Addr} {xs : List V} {y : V} {H : Hp} {Q : VK} (h : H l = some (.lst xs)) (z : xs.length < sizeLine) (q : Q .non (upd H l (.lst (xs ++ [y])))) : rAppend (.ref l) [y] H Q := ⟨l, xs, y, rfl, rfl, h, z, q⟩
theorem r_ty {K : PySem.W.Frag} {l : Addr} {xs : List V} {H : Hp} {A : Prop} (h : H l = some (.lst xs)) (q : A) : tyV K "list" (.ref l) H ∧ A := ⟨.inl ⟨rfl, _, .inl (.inl h)⟩, q⟩
theorem r_all {K : PySem.W.Frag} {a : Addr} {bs : List Bool} {H : Hp} {Q : VK} (h : SqL K H a (bs.map V.bl)) (q : Q (.bl (bs.all id)) H) : rAll K [.ref a] H Q := ⟨a, bs, rfl, h, q⟩
theorem r_sum {K : PySem.W.Frag} {a : Addr} {ns : List Int} {H : Hp} {Q : VK} (h : SqL K H a (ns.map V.int)) (q : Q (.int ns.sum) H) : rSum K [.ref a] H Q := ⟨a, ns, rfl, h, q⟩
theorem r_isi {K : PySem.W.Frag} {x c : V} {t u : Value} {b : Bool} {H : Hp} {Q : VK} (h1 : ClsV c u) (h2 : TyX K H x t) (h3 : PySem.W.kitOne K t u = some b) (q : Q (.bl b) H) : rIsi K [x, c] H Q := ⟨x, c, t, u, b, rfl, h1, h2, h3, q⟩
def rAbs : List V → Hp → VK → Prop := fun xs H Q => ∃ i, xs = [.int i] ∧ Q (.int (if i < 0 then -i else i)) H
theorem cr_abs {X : Cx} : CallR X (.builtin "abs") rAbs := call_abs
def rListOf (K : PySem.W.Frag) : List V → Hp → VK → Prop := fun xs H Q => ∃ p ys, xs = [.ref p] ∧ (SqL K H p ys ∨ SqT K H p ys) ∧ ∀ l, H l = none → Q (.ref l) (upd H l (.lst ys))
theorem cr_listOf {X : Cx} : CallR X (.type "list") (rListOf X.K) := call_list_of
def rTupOf (K : PySem.W.Frag) : List V → Hp → VK → Prop := fun xs H Q => ∃ p ys, xs = [.ref p] ∧ ((SqL K H p ys ∧ ∀ l, H l = none → Q (.ref l) (upd H l (.tup ys))) ∨ (SqT K H p ys ∧ Q (.ref p) H))
theorem cr_tupOf {X : Cx} : CallR X (.type "tuple") (rTupOf X.K) := call_tuple_of
section
variable {K : PySem.W.Frag} {D : Ends} {σ : L2.St} {H : Hp} {Q : VK}
theorem r_seq {t u : TS} (h : t { D with nx := u D } σ H) : tSeq t u D σ H := h
theorem r_asg {te : TE} {g : TG} (h : te σ H fun x H1 => g x σ H1 D.nx) : tAsg te g D σ H := h
theorem r_gname {i : Nat} {v : V} {N : L2.St → Hp → Prop} (h : N (σ.set i (some v)) H) : gName i v σ H N := h
theorem r_var {i : Nat} {v : V} (e : σ[i]? = some (some v)) (h : Q v H) : tVar i σ H Q := ⟨v, e, h⟩
theorem r_c {v : V} (h : Q v H) : tC v σ H Q := h
theorem r_op {r : R2} {ta tb : TE} (h : ta σ H fun x H1 => tb σ H1 fun y H2 => r x y H2 Q) : tOp r ta tb σ H Q := h
theorem r_i0 {g : Int → Int → V} {i j : Int} (h : Q (g i j) H) : rI0 g (.int i) (.int j) H Q := ⟨i, j, rfl, rfl, h⟩
theorem r_i {C : Int → Int → Prop} {g : Int → Int → V} {i j : Int} (c : C i j) (h : Q (g i j) H) : rI C g (.int i) (.int j) H Q := ⟨i, j, rfl, rfl, c, h⟩
theorem r_ixl {p : Addr} {xs : List V} {i : Int} {v : V} (h : SqL K H p xs) (e : atI xs i = some v) (q : Q v H) : rIxL K (.ref p) (.int i) H Q := ⟨p, xs, i, v, rfl, rfl, h, e, q⟩
theorem r_ixt {p : Addr} {xs : List V} {i : Int} {v : V} (h : SqT K H p xs) (e : atI xs i = some v) (q : Q v H) : rIxT K (.ref p) (.int i) H Q := ⟨p, xs, i, v, rfl, rfl, h, e, q⟩
theorem r_cb {r : List V → Hp → VK → Prop} {t : TA} (h : t σ H fun vs H1 => r vs H1 Q) : tCB r t σ H Q := h
theorem r_cons {ta : TE} {tr : TA} {R : List V → Hp → Prop} (h : ta σ H fun x H1 => tr σ H1 fun xs H2 => R (x :: xs) H2) : tCons ta tr σ H R := h
theorem r_nil {R : List V → Hp → Prop} (h : R [] H) : tNil σ H R := h
theorem r_len {p : Addr} {ys : List V} (h : SqL K H p ys) (q : Q (.int ys.length) H) : rLen K [.ref p] H Q := ⟨p, ys, rfl, .inl h, q⟩
theorem r_lent {p : Addr} {ys : List V} (h : SqT K H p ys) (q : Q (.int ys.length) H) : rLen K [.ref p] H Q := ⟨p, ys, rfl, .inr h, q⟩
theorem r_abs {i : Int} (q : Q (.int (if i < 0 then -i else i)) H) : rAbs [.int i] H Q := ⟨i, rfl, q⟩
theorem r_listl {p : Addr} {ys : List V} (h : SqL K H p ys) (q : ∀ l, H l = none → Q (.ref l) (upd H l (.lst ys))) : rListOf K [.ref p] H Q := ⟨p, ys, rfl, .inl h, q⟩
theorem r_listt {p : Addr} {ys : List V} (h : SqT K H p ys) (q : ∀ l, H l = none → Q (.ref l) (upd H l (.lst ys))) : rListOf K [.ref p] H Q := ⟨p, ys, rfl, .inr h, q⟩
theorem r_tupl {p : Addr} {ys : List V} (h : SqL K H p ys) (q : ∀ l, H l = none → Q (.ref l) (upd H l (.tup ys))) : rTupOf K [.ref p] H Q := ⟨p, ys, rfl, .inl ⟨h, q⟩⟩
theorem r_tupt {p : Addr} {ys : List V} (h : SqT K H p ys) (q : Q (.ref p) H) : rTupOf K [.ref p] H Q := ⟨p, ys, rfl, .inr ⟨h, q⟩⟩
theorem r_if {c : TT} {t u : TS} (h : c σ H fun b H1 => if b = true then t D σ H1 else u D σ H1) : tIfS c t u D σ H := h
theorem r_ife {c : TT} {t u : TE} (h : c σ H fun b H1 => if b = true then t σ H1 Q else u σ H1 Q) : tIf c t u σ H Q := h
theorem r_test {te : TE} {R : Bool → Hp → Prop} (h : te σ H fun x H' => ∃ k, x = .bl k ∧ R k H') : tTest te σ H R := h
theorem r_bl {b : Bool} {R : Bool → Prop} (h : R b) : ∃ k, V.bl b = .bl k ∧ R k := ⟨b, rfl, h⟩
theorem r_ite {p : Prop} {inst : Decidable p} {A B : Prop} (h1 : p → A) (h2 : ¬p → B) : if decide p = true then A else B := by
  by_cases h : p
  · rw [if_pos (decide_eq_true h)]; exact h1 h
  · rw [if_neg (by simpa using h)]; exact h2 h
theorem r_tand {t u : TT} {R : Bool → Hp → Prop} (h : t σ H fun c H1 => if c = true then u σ H1 R else R false H1) : tAnd t u σ H R := h
theorem r_tor {t u : TT} {R : Bool → Hp → Prop} (h : t σ H fun c H1 => if c = true then R true H1 else u σ H1 R) : tOr t u σ H R := h
theorem r_tnot {t : TT} {R : Bool → Hp → Prop} (h : t σ H fun c H1 => R (!c) H1) : tNot t σ H R := h
theorem r_andv {ta tb : TE} (h : ta σ H fun x H1 => ∃ c, x = .bl c ∧ if c = true then tb σ H1 Q else Q (.bl false) H1) : tAndV ta tb σ H Q := h
theorem r_orv {ta tb : TE} (h : ta σ H fun x H1 => ∃ c, x = .bl c ∧ if c = true then Q (.bl true) H1 else tb σ H1 Q) : tOrV ta tb σ H Q := h
theorem r_notv {ta : TE} (h : ta σ H fun x H1 => ∃ c, x = .bl c ∧ Q (.bl (!c)) H1) : tNotV ta σ H Q := h
theorem r_chain {r r' : R2} {ta tb tc : TE} (h : ta σ H fun x H1 => tb σ H1 fun y H2 => r x y H2 fun z H3 => ∃ k, z = .bl k ∧ (if k = true then tc σ H3 fun w' H4 => r' y w' H4 Q else Q (.bl false) H3)) : tChain r r' ta tb tc σ H Q := h
theorem r_t {A B : Prop} (h : A) : if true = true then A else B := by rw [if_pos rfl]; exact h
theorem r_f {A B : Prop} (h : B) : if false = true then A else B := by rw [if_neg (by decide)]; exact h
theorem r_nt {A B : Prop} (h : B) : if (!true) = true then A else B := by rw [if_neg (by decide)]; exact h
theorem r_nf {A B : Prop} (h : A) : if (!false) = true then A else B := by rw [if_pos (by decide)]; exact h
theorem r_bm {T : String} {r : V → List V → Hp → VK → Prop} {to : TE} {t : TA} (h : to σ H fun x H1 => tyV K T x H1 ∧ t σ H1 fun xs H2 => r x xs H2 Q) : tBM K T r to t σ H Q := h
theorem r_sl {r : V → Option Int → Option Int → Hp → VK → Prop} {te : TE} {tl th : TO} (h : te σ H fun x H1 => tl σ H1 fun l H2 => th σ H2 fun u H3 => r x l u H3 Q) : tSl r te tl th σ H Q := h
theorem r_sll {a : Addr} {xs : List V} {lo hi : Option Int} (h : SqL K H a xs) (q : ∀ p, H p = none → Q (.ref p) (upd H p (.lst (cutV xs lo hi)))) : rSlL K (.ref a) lo hi H Q := ⟨a, xs, rfl, h, q⟩
theorem r_nopart {R : Option Int → Hp → Prop} (h : R none H) : tNoPart σ H R := h
theorem r_part {te : TE} {R : Option Int → Hp → Prop} (h : te σ H fun x H1 => ∃ i, x = .int i ∧ R (some i) H1) : tPart te σ H R := h
theorem r_parti {i : Int} {R : Int → Prop} (h : R i) : ∃ j, V.int i = .int j ∧ R j := ⟨i, rfl, h⟩
theorem r_yes {R : Bool → Hp → Prop} (h : R true H) : tYes σ H R := h
theorem r_sz {xs : List V} {B : Prop} (e : Nat.ble xs.length 1000 = true) (h : B) : xs.length ≤ sizeLine ∧ B := ⟨Nat.le_trans (Nat.le_of_ble_eq_true e) (by decide), h⟩
theorem r_iteB {b : Bool} {A B : Prop} (h1 : b = true → A) (h2 : b = false → B) : if b = true then A else B := by
  cases b with
  | true => rw [if_pos rfl]; exact h1 rfl
  | false => rw [if_neg (by decide)]; exact h2 rfl
theorem r_tb {t : TE} {R : Bool → Hp → Prop} (h : t σ H fun x H1 => ∃ c, x = .bl c ∧ R c H1) : tB t σ H R := h
theorem r_un {r : V → Hp → VK → Prop} {ta : TE} (h : ta σ H fun x H1 => r x H1 Q) : tUn r ta σ H Q := h
theorem r_u {g : Int → V} {i : Int} (h : Q (g i) H) : rU g (.int i) H Q := ⟨i, rfl, h⟩
theorem r_ret {te : TE} (h : te σ H D.rt) : tRet te D σ H := h
theorem r_gsub {to ti : TE} {t : TSet} {v : V} {N : L2.St → Hp → Prop} (h : to σ H fun o H1 => ti σ H1 fun i H2 => t o i v H2 fun H3 => N σ H3) : gSub to ti t v σ H N := h
theorem r_setl {p : Addr} {xs : List V} {k : Int} {j : Nat} {v : V} {R : Hp → Prop} (h : H p = some (.lst xs)) (e : ixN xs.length k = some j) (q : R (upd H p (.lst (xs.set j v)))) : rSetL (.ref p) (.int k) v H R := ⟨p, xs, k, j, rfl, rfl, h, e, q⟩
theorem r_next (h : D.nx σ H) : tNext D σ H := h
theorem r_call {sp : Sp} {dvs : List V} {E : XK} {t : TA} (h : t σ H fun vs H1 => sp (vs ++ dvs) H1 Q E) : tCall sp dvs E t σ H Q := h
theorem r_lst {t : TA} (h : t σ H fun xs H1 => xs.length ≤ sizeLine ∧ ∀ p, H1 p = none → Q (.ref p) (upd H1 p (.lst xs))) : tLst t σ H Q := h
theorem r_tup {t : TA} (h : t σ H fun xs H1 => xs.length ≤ sizeLine ∧ ∀ p, H1 p = none → Q (.ref p) (upd H1 p (.tup xs))) : tTup t σ H Q := h
theorem r_drop {te : TE} (h : te σ H fun _ H1 => D.nx σ H1) : tDrop te D σ H := h
theorem r_eq {x y : V} (s : scal x y = true) (q : Q (.bl (decide (x = y))) H) : rEq x y H Q := ⟨s, q⟩
theorem r_ne {x y : V} (s : scal x y = true) (q : Q (.bl (!decide (x = y))) H) : rNe x y H Q := ⟨s, q⟩
theorem hl_new {H : Hp} {a b : Addr} {o u : HO} (h : H a = some o) (n : H b = none) : upd H b u a = some o := (upd_ne (ne_of_none h n)).trans h
theorem hl_set {H : Hp} {a b : Addr} {o u : HO} (n : a ≠ b) (h : H a = some o) : upd H b u a = some o := (upd_ne n).trans h
end

/-! ### what stands at an address, over the heaps -/
def Kp (S : List Addr) (H H' : Hp) : Prop := ∀ b o, H b = some o → b ∉ S → H' b = some o
theorem Kp.refl {S : List Addr} {H : Hp} : Kp S H H := fun _ _ h _ => h
theorem Kp.trans {S : List Addr} {H H1 H2 : Hp} (a : Kp S H H1) (b : Kp S H1 H2) : Kp S H H2 := fun x o h n => b x o (a x o h n) n
theorem Kp.new {S : List Addr} {H : Hp} {p : Addr} {x : HO} (n : H p = none) : Kp S H (upd H p x) := fun b o h _ => hl_new h n
theorem Kp.set {S : List Addr} {H : Hp} {p : Addr} {x : HO} (m : p ∈ S) : Kp S H (upd H p x) := fun b o h n => hl_set (fun e => n (e ▸ m)) h
/-- a thing made since H is changed -/
theorem Kp.own {S : List Addr} {H H1 : Hp} {p : Addr} {x : HO} (k : Kp S H H1) (n : H p = none) : Kp S H (upd H1 p x) := fun b o h m => hl_set (ne_of_none h n) (k b o h m)
theorem Kp.sub {S S' : List Addr} {H H' : Hp} (k : Kp S H H') (m : ∀ a ∈ S, a ∈ S') : Kp S' H H' := fun b o h n => k b o h fun z => n (m b z)
theorem Kp.ofSame {S : List Addr} {H H' : Hp} (k : Same H H') : Kp S H H' := fun b o h _ => k b o h
theorem Kp.nil {H H' : Hp} (k : Kp [] H H') : Same H H' := fun b o h => k b o h (by simp)
theorem Kp.free {S : List Addr} {H H' : Hp} (k : Kp S H H') {p : Addr} (n : H' p = none) (m : p ∉ S) : H p = none := by
  cases q : H p with
  | none => rfl
  | some o => rw [k p o q m] at n; cases n
theorem Same.upd_new {H : Hp} {p : Addr} {x : HO} (n : H p = none) : Same H (upd H p x) := fun b o h => hl_new h n
theorem hl_kp {S : List Addr} {H H' : Hp} {a : Addr} {o : HO} (k : Kp S H H') (n : a ∉ S) (h : H a = some o) : H' a = some o := k _ _ h n
theorem hl_same {H H' : Hp} {a : Addr} {o : HO} (k : Same H H') (h : H a = some o) : H' a = some o := k _ _ h
/-- every object outside S stands, outside S' -/
def Lft (S : List Addr) (H : Hp) (S' : List Addr) (H' : Hp) : Prop := ∀ a o, H a = some o → a ∉ S → H' a = some o ∧ a ∉ S'
theorem Lft.refl {S : List Addr} {H : Hp} : Lft S H S H := fun _ _ h n => ⟨h, n⟩
theorem Lft.trans {S S1 S2 : List Addr} {H H1 H2 : Hp} (a : Lft S H S1 H1) (b : Lft S1 H1 S2 H2) : Lft S H S2 H2 := fun x o h n => b x o (a x o h n).1 (a x o h n).2
theorem Lft.new {S : List Addr} {H : Hp} {p : Addr} {x : HO} (n : H p = none) : Lft S H S (upd H p x) := fun _ _ h m => ⟨hl_new h n, m⟩
theorem Lft.set {S : List Addr} {H : Hp} {p : Addr} {x : HO} (m : p ∈ S) : Lft S H S (upd H p x) := fun _ _ h n => ⟨hl_set (fun e => n (e ▸ m)) h, n⟩
theorem Lft.kp {S S1 : List Addr} {H H1 : Hp} (k : Kp S H H1) (m : ∀ a ∈ S, a ∈ S1) : Lft S1 H S1 H1 := fun b o h n => ⟨k b o h fun z => n (m b z), n⟩
theorem Lft.same {S : List Addr} {H H1 : Hp} (k : Same H H1) : Lft S H S H1 := fun b o h n => ⟨k b o h, n⟩
theorem Lft.own {S : List Addr} {H : Hp} {p : Addr} {x : HO} (n : H p = none) : Lft S H (p :: S) (upd H p x) := fun a _ h m => ⟨hl_new h n, fun z => by
  rcases List.mem_cons.mp z with e | e
  · exact ne_of_none h n e
  · exact m e⟩
theorem Lft.sub {S S' : List Addr} {H : Hp} (m : ∀ a ∈ S', a ∈ S) : Lft S H S' H := fun a _ h n => ⟨h, fun z => n (m a z)⟩
/-- plain data -/
inductive O where
  | non | bl (b : Bool) | int (i : Int) | str (x : Str) | tup (os : List O) | lst (os : List O) | dct
mutual
inductive Rep (S : List Addr) (H : Hp) : V → O → Prop
  | non : Rep S H .non .non
  | bl (b : Bool) : Rep S H (.bl b) (.bl b)
  | int (i : Int) : Rep S H (.int i) (.int i)
  | str (x : Str) : Rep S H (.str x) (.str x)
  | tup {a : Addr} {xs : List V} {os : List O} : H a = some (.tup xs) → a ∉ S → RepAll S H xs os → Rep S H (.ref a) (.tup os)
  | lst {a : Addr} {xs : List V} {os : List O} : H a = some (.lst xs) → a ∉ S → RepAll S H xs os → Rep S H (.ref a) (.lst os)
  | dct {a : Addr} {kvs : List (Key × V)} : H a = some (.dK kvs) → a ∉ S → Rep S H (.ref a) .dct
inductive RepAll (S : List Addr) (H : Hp) : List V → List O → Prop
  | nil : RepAll S H [] []
  | cons {v : V} {vs : List V} {o : O} {os : List O} : Rep S H v o → RepAll S H vs os → RepAll S H (v :: vs) (o :: os)
end
mutual
theorem Rep.to {S S' : List Addr} {H H' : Hp} (k : Lft S H S' H') : ∀ {v : V} {o : O}, Rep S H v o → Rep S' H' v o
  | _, _, .non => .non
  | _, _, .bl b => .bl b
  | _, _, .int i => .int i
  | _, _, .str x => .str x
  | _, _, .tup h n r => .tup (k _ _ h n).1 (k _ _ h n).2 (RepAll.to k r)
  | _, _, .lst h n r => .lst (k _ _ h n).1 (k _ _ h n).2 (RepAll.to k r)
  | _, _, .dct h n => .dct (k _ _ h n).1 (k _ _ h n).2
theorem RepAll.to {S S' : List Addr} {H H' : Hp} (k : Lft S H S' H') : ∀ {vs : List V} {os : List O}, RepAll S H vs os → RepAll S' H' vs os
  | _, _, .nil => .nil
  | _, _, .cons r t => .cons (Rep.to k r) (RepAll.to k t)
end
section
variable {S : List Addr} {H : Hp}
theorem RepAll.length : ∀ {vs : List V} {os : List O}, RepAll S H vs os → vs.length = os.length
  | _, _, .nil => rfl
  | _, _, .cons _ t => congrArg (· + 1) (RepAll.length t)
theorem RepAll.get : ∀ {vs : List V} {os : List O} {i : Nat} {v : V}, RepAll S H vs os → vs[i]? = some v → ∃ o, os[i]? = some o ∧ Rep S H v o
  | _, _, _, _, .nil, e => by simp at e
  | _, _, 0, _, .cons r _, e => by simp at e; subst e; exact ⟨_, rfl, r⟩
  | _, _, i + 1, v, .cons _ t, e => by
    obtain ⟨o, h1, h2⟩ := RepAll.get (i := i) (v := v) t (by simpa using e)
    exact ⟨o, by simpa using h1, h2⟩
theorem RepAll.append : ∀ {vs us : List V} {os qs : List O}, RepAll S H vs os → RepAll S H us qs → RepAll S H (vs ++ us) (os ++ qs)
  | _, _, _, _, .nil, s => s
  | _, _, _, _, .cons r t, s => .cons r (RepAll.append t s)
theorem RepAll.take : ∀ {vs : List V} {os : List O} (n : Nat), RepAll S H vs os → RepAll S H (vs.take n) (os.take n)
  | _, _, 0, _ => .nil
  | _, _, _ + 1, .nil => .nil
  | _, _, n + 1, .cons r t => .cons r (RepAll.take n t)
theorem RepAll.drop : ∀ {vs : List V} {os : List O} (n : Nat), RepAll S H vs os → RepAll S H (vs.drop n) (os.drop n)
  | _, _, 0, r => r
  | _, _, _ + 1, .nil => .nil
  | _, _, n + 1, .cons _ t => RepAll.drop n t
theorem RepAll.ints : ∀ (ns : List Int), RepAll S H (ns.map V.int) (ns.map O.int)
  | [] => .nil
  | n :: ns => .cons (.int n) (RepAll.ints ns)
theorem RepAll.ints_inv : ∀ {ns : List Int} {vs : List V}, RepAll S H vs (ns.map O.int) → vs = ns.map V.int
  | [], _, .nil => rfl
  | n :: ns, _, .cons r t => by cases r; rw [RepAll.ints_inv t]; rfl
theorem Rep.tupInv {v : V} {os : List O} (r : Rep S H v (.tup os)) : ∃ a xs, v = .ref a ∧ H a = some (.tup xs) ∧ a ∉ S ∧ RepAll S H xs os := by
  cases r with
  | tup h n t => exact ⟨_, _, rfl, h, n, t⟩
end
/-! ### the drawn state -/
structure StAt (s c : Addr) (H : Hp) (cs : List Int) (j r : Int) : Prop where
  hs : H s = some (.lst [.ref c, .int j, .int r])
  hc : H c = some (.lst (cs.map .int))
  ne : cs ≠ []
  nn : ∀ x ∈ cs, 0 ≤ x
  len : cs.length ≤ 1000
  hj : 0 ≤ j
  hr : 0 ≤ r
  hr' : r < 2147483647
def St (s c : Addr) (H : Hp) : Prop := s ≠ c ∧ ∃ cs j r, StAt s c H cs j r
theorem St.out {s c p : Addr} {H : Hp} (h : St s c H) (n : H p = none) : p ∉ [s, c] := by
  obtain ⟨_, cs, j, r, h⟩ := h
  intro z
  rcases List.mem_cons.mp z with e | z
  · rw [e, h.hs] at n; cases n
  · rw [List.mem_singleton.mp z, h.hc] at n; cases n
theorem St.same {s c : Addr} {H H' : Hp} (h : St s c H) (k : Same H H') : St s c H' := by
  obtain ⟨n, cs, j, r, h⟩ := h
  exact ⟨n, cs, j, r, k _ _ h.hs, k _ _ h.hc, h.ne, h.nn, h.len, h.hj, h.hr, h.hr'⟩
theorem St.new {s c p : Addr} {H : Hp} {x : HO} (h : St s c H) (n : H p = none) : St s c (upd H p x) := h.same (Same.upd_new n)
theorem St.set {s c p : Addr} {H : Hp} {x : HO} (h : St s c H) (n : p ∉ [s, c]) : St s c (upd H p x) := by
  obtain ⟨n0, cs, j, r, h⟩ := h
  exact ⟨n0, cs, j, r, hl_set (fun e => n (by simp [e])) h.hs, hl_set (fun e => n (by simp [e])) h.hc, h.ne, h.nn, h.len, h.hj, h.hr, h.hr'⟩
/-! ### loops and comprehensions -/
section
variable {K : PySem.W.Frag} {D : Ends} {σ : L2.St} {H : Hp} {Q : VK}
def Lp (J : It) (g : TG) (tb : TS) (D : Ends) (σ : L2.St) (H1 : Hp) : Prop := ∃ W : Nat → Nat → L2.St → Hp → Prop, (∃ m, W 0 m σ H1) ∧ ∀ i m σ H, W i m σ H →
  (J.stop i H ∧ D.nx σ H) ∨ (J.go i H ∧ ∃ N : L2.St → Hp → Prop, (∀ σ' H', N σ' H' → ∃ m', m' < m ∧ W (i + 1) m' σ' H') ∧ ∀ x H', J.yld i H x H' → g x σ H' fun σ2 H2 => tb { D with nx := N, ct := N, bk := D.nx } σ2 H2)
theorem r_for {wi : TI} {g : TG} {tb : TS} (h : wi σ H fun J H1 => Lp J g tb D σ H1) : tFor wi g tb D σ H := h
def Rg1 (R : It → Hp → Prop) (vs : List V) (H : Hp) : Prop := ∃ j : Int, vs = [.int j] ∧ -(2 ^ 62) ≤ j ∧ j < 2 ^ 62 ∧ R (Itr 0 j.toNat) H
theorem r_irng1 {ta : TA} {R : It → Hp → Prop} (h : ta σ H (Rg1 R)) : iRng1 ta σ H R := h
theorem r_rg1 {R : It → Hp → Prop} {j : Int} (c : -(2 ^ 62) ≤ j ∧ j < 2 ^ 62) (h : R (Itr 0 j.toNat) H) : Rg1 R [.int j] H := ⟨j, rfl, c.1, c.2, h⟩
def Rg2 (R : It → Hp → Prop) (vs : List V) (H : Hp) : Prop := ∃ i j : Int, vs = [.int i, .int j] ∧ (-(2 ^ 62) ≤ i ∧ i < 2 ^ 62 ∧ -(2 ^ 62) ≤ j ∧ j < 2 ^ 62) ∧ R (Itr i (j - i).toNat) H
theorem r_irng2 {ta : TA} {R : It → Hp → Prop} (h : ta σ H (Rg2 R)) : iRng2 ta σ H R := h
theorem r_rg2 {R : It → Hp → Prop} {i j : Int} (c : -(2 ^ 62) ≤ i ∧ i < 2 ^ 62 ∧ -(2 ^ 62) ≤ j ∧ j < 2 ^ 62) (h : R (Itr i (j - i).toNat) H) : Rg2 R [.int i, .int j] H := ⟨i, j, rfl, c, h⟩
def IlR (K : PySem.W.Frag) (R : It → Hp → Prop) (x : V) (H : Hp) : Prop := ∃ a, x = .ref a ∧ (∃ xs, SqL K H a xs) ∧ R (Itl K a) H
theorem r_ilist {tl : TE} {R : It → Hp → Prop} (h : tl σ H (IlR K R)) : iList K tl σ H R := h
theorem r_il {R : It → Hp → Prop} {a : Addr} {xs : List V} (e : SqL K H a xs) (h : R (Itl K a) H) : IlR K R (.ref a) H := ⟨a, rfl, ⟨xs, e⟩, h⟩
def ItR (K : PySem.W.Frag) (R : It → Hp → Prop) (x : V) (H : Hp) : Prop := ∃ a, x = .ref a ∧ (∃ xs, SqT K H a xs) ∧ R (Itt K a) H
theorem r_itup {tl : TE} {R : It → Hp → Prop} (h : tl σ H (ItR K R)) : iTup K tl σ H R := h
theorem r_it {R : It → Hp → Prop} {a : Addr} {xs : List V} (e : SqT K H a xs) (h : R (Itt K a) H) : ItR K R (.ref a) H := ⟨a, rfl, ⟨xs, e⟩, h⟩
def IzR (K : PySem.W.Frag) (R : It → Hp → Prop) (vs : List V) (H1 : Hp) : Prop := ∃ a b xs ys, vs = [.ref a, .ref b] ∧ ((SqL K H1 a xs ∧ SqL K H1 b ys ∧ R (Itz K a b) H1) ∨ (SqT K H1 a xs ∧ SqT K H1 b ys ∧ R (ItzT K a b) H1))
theorem r_izip {ta : TA} {R : It → Hp → Prop} (h : ta σ H (IzR K R)) : iZipA K ta σ H R := h
theorem r_izt {R : It → Hp → Prop} {a b : Addr} {xs ys : List V} (e1 : SqT K H a xs) (e2 : SqT K H b ys) (h : R (ItzT K a b) H) : IzR K R [.ref a, .ref b] H := ⟨a, b, xs, ys, rfl, .inr ⟨e1, e2, h⟩⟩
theorem lp_by {J : It} {n : Nat} {G : Hp → Prop} {Y : Nat → Hp → V → Hp → Prop} (w : Walk J n G Y) {g : TG} {tb : TS} (Pv : Nat → L2.St → Hp → Prop) (h0 : Pv 0 σ H) (hG : ∀ i σ H, i ≤ n → Pv i σ H → G H)
    (hs : ∀ i x σ H H', i < n → Pv i σ H → Y i H x H' → g x σ H' fun σ2 H2 => tb { D with nx := Pv (i + 1), ct := Pv (i + 1), bk := D.nx } σ2 H2) (hd : ∀ σ H, Pv n σ H → D.nx σ H) : Lp J g tb D σ H := for_it w Pv h0 hG hs hd
/-- ways that meet: what holds of slots and heap where they do -/
theorem r_join {c : TT} {t u : TS} (G : L2.St → Hp → Prop) (h2 : ∀ σ' H', G σ' H' → D.nx σ' H') (h1 : ∀ N : L2.St → Hp → Prop, (∀ σ' H', G σ' H' → N σ' H') → tIfS c t u { D with nx := N } σ H) : tIfS c t u D σ H := h1 D.nx h2
theorem r_joinE {te : TE} (G : V → Hp → Prop) (h2 : ∀ v H', G v H' → Q v H') (h1 : ∀ Q' : VK, (∀ v H', G v H' → Q' v H') → te σ H Q') : te σ H Q := h1 Q h2
theorem r_joinT {te : TT} {R : Bool → Hp → Prop} (G : Bool → Hp → Prop) (h2 : ∀ v H', G v H' → R v H') (h1 : ∀ R' : Bool → Hp → Prop, (∀ v H', G v H' → R' v H') → te σ H R') : te σ H R := h1 R h2
theorem walk_zipT {a b : Addr} {xs ys : List V} {n : Nat} (hn : n = min xs.length ys.length) : Walk (ItzT K a b) n (fun H => SqT K H a xs ∧ SqT K H b ys) (YPair (fun i => xs[i]?) (fun i => ys[i]?)) where
  goes := fun i H hi h => ⟨xs, ys, xs[i]'(by omega), ys[i]'(by omega), h.1, h.2, List.getElem?_eq_getElem (by omega), List.getElem?_eq_getElem (by omega)⟩
  stops := fun H h => ⟨xs, ys, h.1, h.2, by omega⟩
  yields := fun i H x H' _ h y => by
    obtain ⟨T, x1, y1, e1, e2, e3, e4, e5⟩ := y
    exact ⟨T, x1, y1, e1, e2, e3, e4 xs h.1, e5 ys h.2⟩
/-- a comprehension's turns -/
def Lc (J : It) (g : TG) (tt : TT) (te : TE) (vs : List Nat) (σ : L2.St) (D : Addr) (Q : VK) (H1 : Hp) : Prop := ∃ W : Nat → Nat → Hp → Prop, (∃ m, W 0 m (upd H1 D (.lst []))) ∧ ∀ i m H, W i m H →
  (J.stop i H ∧ Q (.ref D) H) ∨ (J.go i H ∧ ∃ Nx : Hp → Prop, (∀ H', Nx H' → ∃ m', m' < m ∧ W (i + 1) m' H') ∧ ∀ x H', J.yld i H x H' → g x (wipe σ vs) H' fun σ2 H2 => wipe σ2 vs = wipe σ vs ∧ tt σ2 H2 fun b H3 =>
    if b = true then te σ2 H3 fun y H4 => ∃ acc, H4 D = some (.lst acc) ∧ acc.length < sizeLine ∧ Nx (upd H4 D (.lst (acc ++ [y]))) else Nx H3)
theorem r_lc {wi : TI} {g : TG} {tt : TT} {te : TE} {vs : List Nat} (h : wi σ H fun J H1 => ∀ D, H1 D = none → Lc J g tt te vs σ D Q H1) : tLc wi g tt te vs σ H Q := h
/-- what an item's part of a turn is to reach: kept with a value, or not kept -/
def LcT (g : TG) (tt : TT) (te : TE) (vs : List Nat) (σ : L2.St) (x : V) (H : Hp) (Y : V → Hp → Prop) (No : Hp → Prop) : Prop :=
  g x (wipe σ vs) H fun σ2 H2 => wipe σ2 vs = wipe σ vs ∧ tt σ2 H2 fun b H3 => if b = true then te σ2 H3 Y else No H3
/-- the list is made of the values kept: R i says what the i-th turn's part is -/
theorem lc_by {J : It} {n : Nat} {G : Hp → Prop} {Yd : Nat → Hp → V → Hp → Prop} (w : Walk J n G Yd) {g : TG} {tt : TT} {te : TE} {vs : List Nat} {D : Addr} (Pv : Nat → Hp → Prop) (h0 : Pv 0 (upd H D (.lst []))) (hG : ∀ i H, i ≤ n → Pv i H → G H)
    (hs : ∀ i x H H', i < n → Pv i H → Yd i H x H' → LcT g tt te vs σ x H' (fun y H4 => ∃ acc, H4 D = some (.lst acc) ∧ acc.length < sizeLine ∧ Pv (i + 1) (upd H4 D (.lst (acc ++ [y])))) (fun H3 => Pv (i + 1) H3)) (hd : ∀ H, Pv n H → Q (.ref D) H) : Lc J g tt te vs σ D Q H := by
  refine ⟨fun i m H => m = n - i ∧ i ≤ n ∧ Pv i H, ⟨n, by simp, Nat.zero_le _, h0⟩, ?_⟩
  rintro i m H ⟨rfl, hi, p⟩
  by_cases hlt : i < n
  · exact .inr ⟨w.goes i H hlt (hG i H hi p), Pv (i + 1), fun H' p' => ⟨n - (i + 1), by omega, rfl, hlt, p'⟩, fun x H' y => hs i x H H' hlt p (w.yields i H x H' hlt (hG i H hi p) y)⟩
  · have e : i = n := by omega
    subst e
    exact .inl ⟨w.stops H (hG _ H hi p), hd H p⟩
/-- every item is kept; its value is told by R, which new objects leave true; the source is left as it is -/
theorem lc_map {J : It} {n : Nat} {G : Hp → Prop} {Yd : Nat → Hp → V → Hp → Prop} (w : Walk J n G Yd) (hn : n ≤ 1000000) {g : TG} {tt : TT} {te : TE} {vs : List Nat} {D : Addr} (nD : H D = none) (R : Nat → V → Hp → Prop) (hR : ∀ i v H H', R i v H → Same H H' → R i v H')
    (hRD : ∀ i v H' acc acc', R i v H' → H' D = some (.lst acc) → R i v (upd H' D (.lst acc'))) (hG : ∀ H', Same H H' → G H') (hY : ∀ i H1 x H2, Yd i H1 x H2 → Same H1 H2)
    (hs : ∀ i x H1 H2 (Y : V → Hp → Prop) (No : Hp → Prop), i < n → Same H H1 → Yd i H1 x H2 → (∀ y H4, Same H2 H4 → R i y H4 → Y y H4) → LcT g tt te vs σ x H2 Y No)
    (hd : ∀ ys H', ys.length = n → Same H H' → H' D = some (.lst ys) → (∀ i y, ys[i]? = some y → R i y H') → Q (.ref D) H') : Lc J g tt te vs σ D Q H := by
  refine lc_by w (fun i H' => Same H H' ∧ ∃ ys : List V, ys.length = i ∧ H' D = some (.lst ys) ∧ ∀ j y, ys[j]? = some y → R j y H') ⟨Same.upd_new nD, [], rfl, upd_same, fun j y e => by simp at e⟩ (fun i H' _ p => hG H' p.1) (fun i x H1 H2 hi p y => ?_) (fun H' p => ?_)
  · obtain ⟨sm, ys, el, eD, hr⟩ := p
    have s2 := hY _ _ _ _ y
    refine hs i x H1 H2 _ _ hi sm y (fun v H4 q1 q2 => ?_)
    have s4 : Same H1 H4 := s2.trans q1
    have e4 : H4 D = some (.lst ys) := s4 _ _ eD
    refine ⟨ys, e4, by rw [el]; exact Nat.lt_of_lt_of_le (Nat.lt_of_lt_of_le hi hn) (by decide), fun b o e => ?_, ys ++ [v], by simp [el], upd_same, fun j y' e => ?_⟩
    · exact hl_set (ne_of_none e nD) (s4 _ _ (sm _ _ e))
    · by_cases hj : j < ys.length
      · rw [List.getElem?_append_left hj] at e
        exact hRD _ _ _ _ _ (hR _ _ _ _ (hr j y' e) s4) e4
      · rw [List.getElem?_append_right (by omega)] at e
        have hj2 : j - ys.length = 0 := by
          cases h : j - ys.length with
          | zero => rfl
          | succ m => rw [h] at e; simp at e
        rw [hj2] at e
        simp at e
        subst e
        have : j = i := by omega
        subst this
        exact hRD _ _ _ _ _ q2 e4
  · obtain ⟨sm, ys, el, eD, hr⟩ := p
    exact hd ys H' el sm eD hr
/-- items are kept or not: t tells which -/
theorem lc_filt {J : It} {n : Nat} {G : Hp → Prop} {Yd : Nat → Hp → V → Hp → Prop} (w : Walk J n G Yd) (hn : n ≤ 1000000) {g : TG} {tt : TT} {te : TE} {vs : List Nat} {D : Addr} (nD : H D = none) (t : Nat → Bool) (hG : ∀ H', Same H H' → G H') (hY : ∀ i H1 x H2, Yd i H1 x H2 → Same H1 H2)
    (hs : ∀ i x H1 H2 (Y : V → Hp → Prop) (No : Hp → Prop), i < n → Same H H1 → Yd i H1 x H2 → (t i = true → ∀ y H4, Same H2 H4 → Y y H4) → (t i = false → ∀ H4, Same H2 H4 → No H4) → LcT g tt te vs σ x H2 Y No)
    (hd : ∀ ys H', ys.isEmpty = (List.range n).all (fun i => !t i) → ys.length ≤ n → Same H H' → H' D = some (.lst ys) → Q (.ref D) H') : Lc J g tt te vs σ D Q H := by
  refine lc_by w (fun i H' => Same H H' ∧ ∃ ys : List V, ys.isEmpty = (List.range i).all (fun i => !t i) ∧ ys.length ≤ i ∧ H' D = some (.lst ys)) ⟨Same.upd_new nD, [], rfl, Nat.le_refl _, upd_same⟩ (fun i H' _ p => hG H' p.1) (fun i x H1 H2 hi p y => ?_) (fun H' p => ?_)
  · obtain ⟨sm, ys, ee, el, eD⟩ := p
    have s2 := hY _ _ _ _ y
    refine hs i x H1 H2 _ _ hi sm y (fun ht v H4 q => ?_) (fun ht H4 q => ?_)
    · have s4 : Same H1 H4 := s2.trans q
      refine ⟨ys, s4 _ _ eD, Nat.lt_of_le_of_lt el (Nat.lt_of_lt_of_le hi (Nat.le_trans hn (by decide))), fun b o e => hl_set (ne_of_none e nD) (s4 _ _ (sm _ _ e)), ys ++ [v], ?_, by simp; omega, upd_same⟩
      rw [List.range_succ, List.all_append, List.all_cons, ht]
      cases ys <;> simp
    · have s4 : Same H1 H4 := s2.trans q
      refine ⟨sm.trans s4, ys, ?_, by omega, s4 _ _ eD⟩
      rw [List.range_succ, List.all_append, List.all_cons, ht, ee]
      simp
  · obtain ⟨sm, ys, ee, el, eD⟩ := p
    exact hd ys H' ee el sm eD
theorem range_all {α : Type} (f : α → Bool) (d : α) : ∀ os : List α, (List.range os.length).all (fun i => f (os.getD i d)) = os.all f
  | [] => rfl
  | o :: os => by
    rw [List.length_cons, List.range_succ_eq_map, List.all_cons, List.all_map, List.all_cons, ← range_all f d os]
    rfl
end
/-! ### the rules with the written part told -/
section
variable {X : Cx} {K : PySem.W.Frag} {e l tg : Expr} {tl te : TE} {t ta : TA}
theorem ix_listK (q : X.K = K := by rfl) : IxR X (rIxL K) := q ▸ ix_list
theorem ix_tupK (q : X.K = K := by rfl) : IxR X (rIxT K) := q ▸ ix_tup
theorem pi_listK (h : PE X l tl) (q : X.K = K := by rfl) : PI X tg l (iList K tl) := q ▸ pi_list h
theorem pi_tupK (h : PE X l tl) (q : X.K = K := by rfl) : PI X tg l (iTup K tl) := q ▸ pi_tup h
theorem cr_lenK (q : X.K = K := by rfl) : CallR X (.builtin "len") (rLen K) := q ▸ cr_len
theorem cr_listOfK (q : X.K = K := by rfl) : CallR X (.type "list") (rListOf K) := q ▸ cr_listOf
theorem cr_tupOfK (q : X.K = K := by rfl) : CallR X (.type "tuple") (rTupOf K) := q ▸ cr_tupOf
theorem cr_allK (hc : X.calm = true) (q : X.K = K := by rfl) : CallR X (.builtin "all") (rAll K) := q ▸ cr_all hc
theorem cr_sumK (hc : X.calm = true) (q : X.K = K := by rfl) : CallR X (.builtin "sum") (rSum K) := q ▸ cr_sum hc
theorem cr_isiK (q : X.K = K := by rfl) : CallR X (.builtin "isinstance") (rIsi K) := q ▸ call_isi
theorem sl_listK (q : X.K = K := by rfl) : SlR X (rSlL K) := q ▸ sl_list
theorem sl_tupAK (q : X.K = K := by rfl) : SlR X (rSlA K) := q ▸ sl_tupA
theorem op_catAK (q : X.K = K := by rfl) : OpR X (binaryOp .Add) (rCatA K) := q ▸ op_catA
theorem castBM {e : Expr} {T : String} {r : V → List V → Hp → VK → Prop} {to : TE} (h : PE X e (tBM X.K T r to t)) (q : X.K = K := by rfl) : PE X e (tBM K T r to t) := q ▸ h
theorem castBM0 {e : Expr} {T : String} {r : V → List V → Hp → VK → Prop} {to : TE} (h : PE X e (tBM0 X.K T r to)) (q : X.K = K := by rfl) : PE X e (tBM0 K T r to) := q ▸ h
theorem castPI {iter : Expr} {wi : PySem.W.Frag → TI} (h : PI X tg iter (wi X.K)) (q : X.K = K := by rfl) : PI X tg iter (wi K) := q ▸ h
theorem castPG {n : Nat} {tg : Expr} {g : TGs} (h : PG X tg (gTup X.K n g)) (q : X.K = K := by rfl) : PG X tg (gTup K n g) := q ▸ h
end
/-! ### calls by keywords alone; keywords in any order -/
theorem pe_callK0 {X : Cx} {CX : CXT} {k : Nat} {f : Addr} {fd : FuncData} {ps ks : List Str} {sp : Sp} {E : XK} {x : Str} {p pos : Pos} {kws : List Keyword} {tk : TA} {g : List Value → List Value → List Value} {gV : List V → List V → List V}
    (F : FnOk X.prog X.w X.K X.mg X.base CX k f fd ps sp) (hr : Room k X.A) (hg : Gl X x) (hm : X.mg x = some (.ref f)) (hk : PySem.W.keepIn X.K (.ref f) = true) (hb : KBinds X.K fd ps ks g gV) (hx : Passes CX X E)
    (hkw : PK X kws tk) (hall : (backToKw pos (keywordEach kws X.env)).all (·.1.isSome) = true := by rfl) (hks : (backToKw pos (keywordEach kws X.env)).filterMap (·.1) = ks := by rfl)
    (hdb : (x == ("__debug__" : Str)) = false := by decide) (hpl : ((backTo pos (starEach [] X.env)).any (·.1) || (backToKw pos (keywordEach kws X.env)).any (·.1.isNone)) = false := by rfl) :
    PE X (.Call (.Name x p) [] kws pos) (tCallK sp gV E tNil tk) := by
  refine ⟨fun pins s σ H Q I h => wpAny_Call_Name_kw (ld_glob I hg hm ?_ hdb)⟩
  refine PySem.W.callWith_KW0 (h₀ := X.base) I.ok.mod.kin hk hall (thn (hkw.run pos pins s σ H _ I h) fun ws s2 ⟨zs, H2, I2, rz, q2⟩ => ⟨I2.kIn, ?_⟩) hpl
  rw [hks]
  exact run_fnk (us := []) F hr hb hx I2 .nil rz q2
def permV (na nb : Nat) (is : List Nat) (vs zs : List V) : List V := if vs.length = na ∧ zs.length = nb then is.map fun i => (vs ++ zs).getD i .non else []
def permU (na nb : Nat) (is : List Nat) (vs zs : List Value) : List Value := if vs.length = na ∧ zs.length = nb then is.map fun i => (vs ++ zs).getD i .none else []
theorem vals_getD : ∀ {xs : List V} {us : List Value} (i : Nat), Vals xs us → RelV (xs.getD i .non) (us.getD i .none)
  | _, _, _, .nil => rfl
  | _, _, 0, .cons r _ => r
  | _, _, i + 1, .cons _ t => by
    have := vals_getD i t
    simpa using this
theorem vals_map {xs : List V} {us : List Value} (r : Vals xs us) : ∀ is : List Nat, Vals (is.map fun i => xs.getD i .non) (is.map fun i => us.getD i .none)
  | [] => .nil
  | i :: is => .cons (vals_getD i r) (vals_map r is)
theorem kb_perm {K : PySem.W.Frag} {fd : FuncData} {ps ks : List Str} {us0 ws0 : Nat} {is : List Nat} (h0 : ps ≠ [])
    (h : ∀ (us ws : List Value), us.length = us0 → ws.length = ws0 → ∀ s : Shared, BindsTo s fd ⟨us, ks.zip ws⟩ (ps.zip (is.map fun i => (us ++ ws).getD i .none))) : KBinds K fd ps ks (permU us0 ws0 is) (permV us0 ws0 is) where
  to := fun s us ws _ hl => by
    unfold permU at hl ⊢
    by_cases c : us.length = us0 ∧ ws.length = ws0
    · rw [if_pos c]
      exact h us ws c.1 c.2 s
    · rw [if_neg c] at hl
      cases ps with
      | nil => exact absurd rfl h0
      | cons _ _ => simp at hl
  rel := fun {vs us zs ws} r1 r2 => by
    unfold permU permV
    rw [r1.length, r2.length]
    by_cases c : us.length = us0 ∧ ws.length = ws0
    · rw [if_pos c, if_pos c]
      exact vals_map (r1.append r2) is
    · rw [if_neg c, if_neg c]
      exact .nil
section
variable {K : PySem.W.Frag} {D : Ends} {σ : L2.St} {H : Hp} {Q : VK}
theorem r_callk {sp : Sp} {gV : List V → List V → List V} {E : XK} {t tk : TA} (h : t σ H fun vs H1 => tk σ H1 fun zs H2 => sp (gV vs zs) H2 Q E) : tCallK sp gV E t tk σ H Q := h
theorem r_perm {sp : Sp} {E : XK} {na nb : Nat} {is : List Nat} {vs zs : List V} (h1 : vs.length = na) (h2 : zs.length = nb) (h : sp (is.map fun i => (vs ++ zs).getD i .non) H Q E) : sp (permV na nb is vs zs) H Q E := by
  unfold permV; rw [if_pos ⟨h1, h2⟩]; exact h
end
theorem hu_of64 {A : Around} {k : Nat} (hr : Room k A) : A.units + 64 < cLine := hr.units
/-! ### against the empty list, the empty tuple -/
def rNil (K : PySem.W.Frag) (g : Bool → Bool) : R2 := fun x y H Q => ∃ a b xs, x = .ref a ∧ y = .ref b ∧ SqL K H a xs ∧ SqL K H b [] ∧ Q (.bl (g xs.isEmpty)) H
def rNilT (K : PySem.W.Frag) (g : Bool → Bool) : R2 := fun x y H Q => ∃ a b xs, x = .ref a ∧ y = .ref b ∧ SqT K H a xs ∧ SqT K H b [] ∧ Q (.bl (g xs.isEmpty)) H
theorem op_eqNil {X : Cx} (hu : X.A.units + 64 < cLine) : OpR X (compareOp .Eq) (rNil X.K id) := by
  intro pins s σ H x y v u Q I rx ry h
  obtain ⟨a, b, xs, rfl, rfl, h1, h2, q⟩ := h
  cases rx; cases ry
  obtain ⟨its, rv, p1, _⟩ := I.list h1
  obtain ⟨its2, rv2, p2, _⟩ := I.list h2
  cases rv2
  have e1 : xs.length = its.length := rv.length
  cases xs with
  | nil =>
    cases rv
    exact PySem.SeqAt.eq_listAt (e := fun _ => true) p1.isList p2.isList rfl (by omega) (fun j h => absurd h (Nat.not_lt_zero j)) ⟨.bl _, H, I, rfl, q⟩
  | cons z zs =>
    cases its with
    | nil => simp at e1
    | cons _ _ => exact PySem.SeqAt.eq_list_lengthsAt p1.isList p2.isList rfl (by omega) ⟨.bl false, H, I, rfl, q⟩
theorem op_neNil {X : Cx} (hu : X.A.units + 64 < cLine) : OpR X (compareOp .NotEq) (rNil X.K not) := by
  intro pins s σ H x y v u Q I rx ry h
  obtain ⟨a, b, xs, rfl, rfl, h1, h2, q⟩ := h
  cases rx; cases ry
  obtain ⟨its, rv, p1, _⟩ := I.list h1
  obtain ⟨its2, rv2, p2, _⟩ := I.list h2
  cases rv2
  have e1 : xs.length = its.length := rv.length
  cases xs with
  | nil =>
    cases rv
    exact PySem.SeqAt.RcNeAt.lists (e := fun _ => true) p1.isList p2.isList rfl (by omega) (fun j h => absurd h (Nat.not_lt_zero j)) _ _ _ _ ⟨.bl _, H, I, rfl, q⟩
  | cons z zs =>
    cases its with
    | nil => simp at e1
    | cons _ _ => exact PySem.SeqAt.RcNeAt.lists_lengths p1.isList p2.isList rfl (by omega) _ _ _ _ ⟨.bl true, H, I, rfl, q⟩
theorem op_eqNilT {X : Cx} (hu : X.A.units + 64 < cLine) : OpR X (compareOp .Eq) (rNilT X.K id) := by
  intro pins s σ H x y v u Q I rx ry h
  obtain ⟨a, b, xs, rfl, rfl, h1, h2, q⟩ := h
  cases rx; cases ry
  obtain ⟨its, rv, p1, _⟩ := I.tuple h1
  obtain ⟨its2, rv2, p2, _⟩ := I.tuple h2
  cases rv2
  have e1 : xs.length = its.length := rv.length
  refine PySem.SeqAt.eq_tupleAt (e := fun _ => true) (show s.heap.IsTuple a its.toArray from p1) (show s.heap.IsTuple b #[] from p2) (by omega) (fun j _ h => absurd h (Nat.not_lt_zero j)) ⟨.bl xs.isEmpty, H, I, ?_, q⟩
  cases xs with
  | nil =>
    cases rv
    rfl
  | cons z zs =>
    cases its with
    | nil => simp at e1
    | cons _ _ => rfl
theorem op_eqNilK {X : Cx} {K : PySem.W.Frag} (hu : X.A.units + 64 < cLine) (q : X.K = K := by rfl) : OpR X (compareOp .Eq) (rNil K id) := q ▸ op_eqNil hu
theorem op_neNilK {X : Cx} {K : PySem.W.Frag} (hu : X.A.units + 64 < cLine) (q : X.K = K := by rfl) : OpR X (compareOp .NotEq) (rNil K not) := q ▸ op_neNil hu
theorem op_eqNilTK {X : Cx} {K : PySem.W.Frag} (hu : X.A.units + 64 < cLine) (q : X.K = K := by rfl) : OpR X (compareOp .Eq) (rNilT K id) := q ▸ op_eqNilT hu
section
variable {K : PySem.W.Frag} {H : Hp} {Q : VK}
theorem r_nilL {g : Bool → Bool} {a b : Addr} {xs : List V} (h1 : SqL K H a xs) (h2 : SqL K H b []) (q : Q (.bl (g xs.isEmpty)) H) : rNil K g (.ref a) (.ref b) H Q := ⟨a, b, xs, rfl, rfl, h1, h2, q⟩
theorem r_nilT {g : Bool → Bool} {a b : Addr} {xs : List V} (h1 : SqT K H a xs) (h2 : SqT K H b []) (q : Q (.bl (g xs.isEmpty)) H) : rNilT K g (.ref a) (.ref b) H Q := ⟨a, b, xs, rfl, rfl, h1, h2, q⟩
end
theorem kt_NoneType_int {K : PySem.W.Frag} : PySem.W.kitOne K (.type "NoneType") (.type "int") = some false := kit_ty (by decide +kernel)
theorem kt_bool_int {K : PySem.W.Frag} : PySem.W.kitOne K (.type "bool") (.type "int") = some true := kit_ty (by decide +kernel)
theorem kt_int_int {K : PySem.W.Frag} : PySem.W.kitOne K (.type "int") (.type "int") = some true := kit_ty (by decide +kernel)
theorem kt_str_int {K : PySem.W.Frag} : PySem.W.kitOne K (.type "str") (.type "int") = some false := kit_ty (by decide +kernel)
theorem kt_tuple_int {K : PySem.W.Frag} : PySem.W.kitOne K (.type "tuple") (.type "int") = some false := kit_ty (by decide +kernel)
theorem kt_list_int {K : PySem.W.Frag} : PySem.W.kitOne K (.type "list") (.type "int") = some false := kit_ty (by decide +kernel)
theorem kt_dict_int {K : PySem.W.Frag} : PySem.W.kitOne K (.type "dict") (.type "int") = some false := kit_ty (by decide +kernel)
theorem kt_NoneType_bool {K : PySem.W.Frag} : PySem.W.kitOne K (.type "NoneType") (.type "bool") = some false := kit_ty (by decide +kernel)
theorem kt_bool_bool {K : PySem.W.Frag} : PySem.W.kitOne K (.type "bool") (.type "bool") = some true := kit_ty (by decide +kernel)
theorem kt_int_bool {K : PySem.W.Frag} : PySem.W.kitOne K (.type "int") (.type "bool") = some false := kit_ty (by decide +kernel)
theorem kt_str_bool {K : PySem.W.Frag} : PySem.W.kitOne K (.type "str") (.type "bool") = some false := kit_ty (by decide +kernel)
theorem kt_tuple_bool {K : PySem.W.Frag} : PySem.W.kitOne K (.type "tuple") (.type "bool") = some false := kit_ty (by decide +kernel)
theorem kt_list_bool {K : PySem.W.Frag} : PySem.W.kitOne K (.type "list") (.type "bool") = some false := kit_ty (by decide +kernel)
theorem kt_dict_bool {K : PySem.W.Frag} : PySem.W.kitOne K (.type "dict") (.type "bool") = some false := kit_ty (by decide +kernel)
theorem kt_NoneType_tuple {K : PySem.W.Frag} : PySem.W.kitOne K (.type "NoneType") (.type "tuple") = some false := kit_ty (by decide +kernel)
theorem kt_bool_tuple {K : PySem.W.Frag} : PySem.W.kitOne K (.type "bool") (.type "tuple") = some false := kit_ty (by decide +kernel)
theorem kt_int_tuple {K : PySem.W.Frag} : PySem.W.kitOne K (.type "int") (.type "tuple") = some false := kit_ty (by decide +kernel)
theorem kt_str_tuple {K : PySem.W.Frag} : PySem.W.kitOne K (.type "str") (.type "tuple") = some false := kit_ty (by decide +kernel)
theorem kt_tuple_tuple {K : PySem.W.Frag} : PySem.W.kitOne K (.type "tuple") (.type "tuple") = some true := kit_ty (by decide +kernel)
theorem kt_list_tuple {K : PySem.W.Frag} : PySem.W.kitOne K (.type "list") (.type "tuple") = some false := kit_ty (by decide +kernel)
theorem kt_dict_tuple {K : PySem.W.Frag} : PySem.W.kitOne K (.type "dict") (.type "tuple") = some false := kit_ty (by decide +kernel)
theorem kt_NoneType_str {K : PySem.W.Frag} : PySem.W.kitOne K (.type "NoneType") (.type "str") = some false := kit_ty (by decide +kernel)
theorem kt_bool_str {K : PySem.W.Frag} : PySem.W.kitOne K (.type "bool") (.type "str") = some false := kit_ty (by decide +kernel)
theorem kt_int_str {K : PySem.W.Frag} : PySem.W.kitOne K (.type "int") (.type "str") = some false := kit_ty (by decide +kernel)
theorem kt_str_str {K : PySem.W.Frag} : PySem.W.kitOne K (.type "str") (.type "str") = some true := kit_ty (by decide +kernel)
theorem kt_tuple_str {K : PySem.W.Frag} : PySem.W.kitOne K (.type "tuple") (.type "str") = some false := kit_ty (by decide +kernel)
theorem kt_list_str {K : PySem.W.Frag} : PySem.W.kitOne K (.type "list") (.type "str") = some false := kit_ty (by decide +kernel)
theorem kt_dict_str {K : PySem.W.Frag} : PySem.W.kitOne K (.type "dict") (.type "str") = some false := kit_ty (by decide +kernel)
theorem kt_NoneType_list {K : PySem.W.Frag} : PySem.W.kitOne K (.type "NoneType") (.type "list") = some false := kit_ty (by decide +kernel)
theorem kt_bool_list {K : PySem.W.Frag} : PySem.W.kitOne K (.type "bool") (.type "list") = some false := kit_ty (by decide +kernel)
theorem kt_int_list {K : PySem.W.Frag} : PySem.W.kitOne K (.type "int") (.type "list") = some false := kit_ty (by decide +kernel)
theorem kt_str_list {K : PySem.W.Frag} : PySem.W.kitOne K (.type "str") (.type "list") = some false := kit_ty (by decide +kernel)
theorem kt_tuple_list {K : PySem.W.Frag} : PySem.W.kitOne K (.type "tuple") (.type "list") = some false := kit_ty (by decide +kernel)
theorem kt_list_list {K : PySem.W.Frag} : PySem.W.kitOne K (.type "list") (.type "list") = some true := kit_ty (by decide +kernel)
theorem kt_dict_list {K : PySem.W.Frag} : PySem.W.kitOne K (.type "dict") (.type "list") = some false := kit_ty (by decide +kernel)
theorem kt_NoneType_dict {K : PySem.W.Frag} : PySem.W.kitOne K (.type "NoneType") (.type "dict") = some false := kit_ty (by decide +kernel)
theorem kt_bool_dict {K : PySem.W.Frag} : PySem.W.kitOne K (.type "bool") (.type "dict") = some false := kit_ty (by decide +kernel)
theorem kt_int_dict {K : PySem.W.Frag} : PySem.W.kitOne K (.type "int") (.type "dict") = some false := kit_ty (by decide +kernel)
theorem kt_str_dict {K : PySem.W.Frag} : PySem.W.kitOne K (.type "str") (.type "dict") = some false := kit_ty (by decide +kernel)
theorem kt_tuple_dict {K : PySem.W.Frag} : PySem.W.kitOne K (.type "tuple") (.type "dict") = some false := kit_ty (by decide +kernel)
theorem kt_list_dict {K : PySem.W.Frag} : PySem.W.kitOne K (.type "list") (.type "dict") = some false := kit_ty (by decide +kernel)
theorem kt_dict_dict {K : PySem.W.Frag} : PySem.W.kitOne K (.type "dict") (.type "dict") = some true := kit_ty (by decide +kernel)
local macro_rules | `(tactic| walk_at "ne") => `(tactic| first | assumption | (refine' Ne.symm ?h1; (case h1 => assumption)))
local macro_rules | `(tactic| walk_at "nin") => `(tactic| first | assumption | exact List.not_mem_nil)
local macro_rules | `(tactic| walk_at "hl") => `(tactic| first
  | assumption
  | exact upd_same
  | (refine' hl_new ?h1 ?h2; (case h2 => assumption); (case h1 => walk_at "hl"))
  | (refine' hl_set ?h2 ?h1; (case h2 => walk_at "ne"); (case h1 => walk_at "hl"))
  | (refine' hl_same ?h2 ?h1; (case h2 => assumption); (case h1 => walk_at "hl"))
  | (refine' hl_kp ?h2 ?h3 ?h1; (case h2 => assumption); (case h3 => walk_at "nin"); (case h1 => walk_at "hl")))
local macro_rules | `(tactic| walk_at "sq") => `(tactic| first | assumption | (refine' SqL.of ?h1; (case h1 => walk_at "hl")) | (refine' SqT.of ?h1; (case h1 => walk_at "hl")))
local macro_rules | `(tactic| walk_at "sc") => `(tactic| first | assumption | omega | (dsimp only; omega) | decide | exact .inl ⟨by omega, by omega⟩ | exact .inr ⟨by omega, by omega⟩ | exact ⟨by omega, by decide⟩)
local macro_rules | `(tactic| walk_at "sz") => `(tactic| first | assumption | ((try simp only [List.length_map, List.length_append, List.length_cons, List.length_nil]); have : (1000000 : Nat) ≤ sizeLine := (by decide); omega))
local macro_rules | `(tactic| walk_at "ty") => `(tactic| first | assumption | exact TyX.base (.int _) | exact TyX.base (.bl _) | exact TyX.base .non | exact TyX.base (.str _) | (refine' TyX.base (.tup ?h1); (case h1 => walk_at "hl")) | (refine' TyX.base (.lst ?h1); (case h1 => walk_at "hl")) | (refine' TyX.base (.dK ?h1); (case h1 => walk_at "hl")))
local macro_rules | `(tactic| walk_at "mem") => `(tactic| first | assumption | (simp; done) | (intro _ h; simp at h ⊢; first | exact h | exact .inr h | exact .inr (.inr h) | (rcases h with h | h <;> simp [h])))
local macro_rules | `(tactic| walk_at "stt") => `(tactic| first | assumption | (refine' St.new ?h1 ?h2; (case h2 => assumption); (case h1 => walk_at "stt")) | (refine' St.set ?h1 ?h2; (case h2 => assumption); (case h1 => walk_at "stt")) | (refine' St.same ?h1 ?h2; (case h2 => assumption); (case h1 => walk_at "stt")))
local macro_rules | `(tactic| walk_at "in") => `(tactic| first | assumption | exact List.mem_cons_self | exact List.mem_cons_of_mem _ List.mem_cons_self | exact List.mem_cons_of_mem _ (List.mem_cons_of_mem _ List.mem_cons_self))
local macro_rules | `(tactic| walk_at "kp") => `(tactic| first
  | exact Kp.refl
  | assumption
  | (refine' Kp.trans ?h1 (Kp.new ?h2); (case h2 => assumption); (case h1 => walk_at "kp"))
  | (refine' Kp.trans ?h1 (Kp.set ?h2); (case h2 => walk_at "in"); (case h1 => walk_at "kp"))
  | (refine' Kp.own ?h1 ?h2; (case h2 => assumption); (case h1 => walk_at "kp"))
  | (refine' Kp.trans ?h1 (Kp.sub ?h2 ?h3); (case h2 => assumption); (case h3 => walk_at "mem"); (case h1 => walk_at "kp"))
  | (refine' Kp.trans ?h1 (Kp.ofSame ?h2); (case h2 => assumption); (case h1 => walk_at "kp")))
local macro_rules | `(tactic| walk_at "sm") => `(tactic| first
  | exact Same.refl _
  | assumption
  | (refine' Same.trans ?h1 (Same.upd_new ?h2); (case h2 => assumption); (case h1 => walk_at "sm"))
  | (refine' Same.trans ?h1 ?h2; (case h2 => assumption); (case h1 => walk_at "sm")))
local macro_rules | `(tactic| walk_at "lf") => `(tactic| first
  | exact Lft.refl
  | (refine' Lft.trans ?h1 (Lft.new ?h2); (case h2 => assumption); (case h1 => walk_at "lf"))
  | (refine' Lft.trans ?h1 (Lft.set ?h2); (case h2 => walk_at "in"); (case h1 => walk_at "lf"))
  | (refine' Lft.trans ?h1 (Lft.kp ?h2 ?h3); (case h2 => assumption); (case h3 => walk_at "mem"); (case h1 => walk_at "lf"))
  | (refine' Lft.trans ?h1 (Lft.same ?h2); (case h2 => assumption); (case h1 => walk_at "lf"))
  | (refine' Lft.trans ?h1 (Lft.own ?h2); (case h2 => assumption); (case h1 => walk_at "lf")))
local macro_rules | `(tactic| walk_at "kt") => `(tactic| first | exact kt_NoneType_int | exact kt_bool_int | exact kt_int_int | exact kt_str_int | exact kt_tuple_int | exact kt_list_int | exact kt_dict_int | exact kt_NoneType_bool | exact kt_bool_bool | exact kt_int_bool | exact kt_str_bool | exact kt_tuple_bool | exact kt_list_bool | exact kt_dict_bool | exact kt_NoneType_tuple | exact kt_bool_tuple | exact kt_int_tuple | exact kt_str_tuple | exact kt_tuple_tuple | exact kt_list_tuple | exact kt_dict_tuple | exact kt_NoneType_str | exact kt_bool_str | exact kt_int_str | exact kt_str_str | exact kt_tuple_str | exact kt_list_str | exact kt_dict_str | exact kt_NoneType_list | exact kt_bool_list | exact kt_int_list | exact kt_str_list | exact kt_tuple_list | exact kt_list_list | exact kt_dict_list | exact kt_NoneType_dict | exact kt_bool_dict | exact kt_int_dict | exact kt_str_dict | exact kt_tuple_dict | exact kt_list_dict | exact kt_dict_dict)
local macro_rules | `(tactic| walk_at "st1") => `(tactic| first
  | with_reducible refine r_seq ?_
  | with_reducible refine r_for ?_
  | with_reducible refine r_irng1 ?_
  | ((with_reducible refine r_rg1 ?e1 ?_); (case e1 => omega))
  | with_reducible refine r_irng2 ?_
  | ((with_reducible refine r_rg2 ?e1 ?_); (case e1 => omega))
  | with_reducible refine r_ilist ?_
  | ((with_reducible refine' r_il ?e1 ?_); (case e1 => walk_at "sq"))
  | with_reducible refine r_itup ?_
  | ((with_reducible refine' r_it ?e1 ?_); (case e1 => walk_at "sq"))
  | with_reducible refine r_izip ?_
  | ((with_reducible refine' r_izt ?e1 ?e2 ?_); (case e1 => walk_at "sq"); (case e2 => walk_at "sq"))
  | with_reducible refine r_lc ?_
  | with_reducible refine r_tand ?_
  | with_reducible refine r_tor ?_
  | with_reducible refine r_tnot ?_
  | with_reducible refine r_andv ?_
  | with_reducible refine r_orv ?_
  | with_reducible refine r_notv ?_
  | with_reducible refine r_chain ?_
  | with_reducible refine' r_t ?_
  | with_reducible refine' r_f ?_
  | with_reducible refine r_bm ?_
  | with_reducible refine r_tb ?_
  | with_reducible refine r_yes ?_
  | ((with_reducible refine r_sz ?e1 ?_); (case e1 => rfl))
  | with_reducible refine r_sl ?_
  | ((with_reducible refine' r_sll ?e1 ?_); (case e1 => walk_at "sq"))
  | with_reducible refine r_nopart ?_
  | with_reducible refine r_part ?_
  | with_reducible refine r_parti ?_
  | with_reducible refine r_callk ?_
  | with_reducible refine r_perm (by rfl) (by rfl) ?_
  | ((with_reducible refine' r_nilL ?e1 ?e2 ?_); (case e1 => walk_at "sq"); (case e2 => walk_at "sq"))
  | ((with_reducible refine' r_nilT ?e1 ?e2 ?_); (case e1 => walk_at "sq"); (case e2 => walk_at "sq"))
  | ((with_reducible refine' r_app0 ?e1 ?e2 ?_); (case e1 => walk_at "hl"); (case e2 => walk_at "sz"))
  | ((with_reducible refine' r_ty ?e1 ?_); (case e1 => walk_at "hl"))
  | ((with_reducible refine' r_all ?e1 ?_); (case e1 => walk_at "sq"))
  | ((with_reducible refine' r_sum ?e1 ?_); (case e1 => walk_at "sq"))
  | ((with_reducible refine' r_isi ?e1 ?e2 ?e3 ?_); (case e1 => exact .ty _); (case e2 => walk_at "ty"); (case e3 => walk_at "kt"))
  | with_reducible refine r_asg ?_
  | with_reducible refine r_gname ?_
  | ((with_reducible refine' r_var ?e1 ?_); (case e1 => rfl))
  | with_reducible refine r_c ?_
  | with_reducible refine r_op ?_
  | with_reducible refine r_i0 ?_
  | ((with_reducible refine' r_i ?e1 ?_); (case e1 => walk_at "sc"))
  | ((with_reducible refine' r_ixl ?e1 ?e2 ?_); (case e1 => walk_at "sq"); (case e2 => first | assumption | rfl))
  | ((with_reducible refine' r_ixt ?e1 ?e2 ?_); (case e1 => walk_at "sq"); (case e2 => first | assumption | rfl))
  | with_reducible refine r_cb ?_
  | with_reducible refine r_cons ?_
  | with_reducible refine r_nil ?_
  | ((with_reducible refine' r_len ?e1 ?_); (case e1 => walk_at "sq"))
  | ((with_reducible refine' r_lent ?e1 ?_); (case e1 => walk_at "sq"))
  | with_reducible refine r_abs ?_
  | ((with_reducible refine' r_listl ?e1 ?_); (case e1 => walk_at "sq"))
  | ((with_reducible refine' r_listt ?e1 ?_); (case e1 => walk_at "sq"))
  | ((with_reducible refine' r_tupl ?e1 ?_); (case e1 => walk_at "sq"))
  | ((with_reducible refine' r_tupt ?e1 ?_); (case e1 => walk_at "sq"))
  | with_reducible refine r_ife ?_
  | with_reducible refine r_test ?_
  | with_reducible refine r_bl ?_
  | with_reducible refine r_ret ?_
  | with_reducible refine r_gsub ?_
  | ((with_reducible refine' r_setl ?e1 ?e2 ?_); (case e1 => walk_at "hl"); (case e2 => first | assumption | rfl))
  | with_reducible refine r_next ?_
  | with_reducible refine r_call ?_
  | with_reducible refine r_lst ?_
  | with_reducible refine r_tup ?_
  | with_reducible refine r_drop ?_
  | ((with_reducible refine' r_eq ?e1 ?_); (case e1 => rfl))
  | ((with_reducible refine' r_ne ?e1 ?_); (case e1 => rfl)))
local macro_rules | `(tactic| walk_at "st") => `(tactic| repeat (walk_at "st1"))
local macro_rules | `(tactic| walk_at "if") => `(tactic| ((first | refine r_if ?_ | (simp only []; refine r_if ?_)); walk_at "st"))
structure Tx (K : PySem.W.Frag) (mg : Str → Option Value) : Prop where
  c_FIGURES : ∃ t, mg "FIGURES" = some (.str "0123456789" t)
  c_LETTERS : ∃ t, mg "LETTERS" = some (.str "abcdefghijklmnopqrstuvwxyz" t)
  c_LONGEST_PLACE : ∃ t, mg "LONGEST_PLACE" = some (.int 40 t)
  m_abs : mg "abs" = none
  m_all : mg "all" = none
  m_bool : mg "bool" = none
  m_int : mg "int" = none
  m_isinstance : mg "isinstance" = none
  m_len : mg "len" = none
  m_range : mg "range" = none
  m_repr : mg "repr" = none
  m_sorted : mg "sorted" = none
  m_str : mg "str" = none
  m_tuple : mg "tuple" = none
  m_zip : mg "zip" = none
def topS (i : Nat) : Stmt := PySem.Challenge.pw_onetrace_k04_whole_texts_of_forms.main.body.getD i (.Pass ⟨0, 0, 0, 0⟩)
abbrev s_is_whole : Stmt := topS 4
theorem sc_is_whole : FnScope ["thing"] ["thing"] (defScope s_is_whole) := ⟨rfl, rfl, rfl, by decide +kernel, rfl, by decide +kernel, by decide +kernel⟩
abbrev s_is_number : Stmt := topS 5
theorem sc_is_number : FnScope ["thing", "p"] ["thing", "p"] (defScope s_is_number) := ⟨rfl, rfl, rfl, by decide +kernel, rfl, by decide +kernel, by decide +kernel⟩
abbrev s_is_place : Stmt := topS 6
theorem sc_is_place : FnScope ["thing"] ["thing"] (defScope s_is_place) := ⟨rfl, rfl, rfl, by decide +kernel, rfl, by decide +kernel, by decide +kernel⟩
abbrev s_has_only : Stmt := topS 7
theorem sc_has_only : FnScope ["text", "signs", "sign"] ["text", "signs"] (defScope s_has_only) := ⟨rfl, rfl, rfl, by decide +kernel, rfl, by decide +kernel, by decide +kernel⟩
abbrev s_read_figures : Stmt := topS 8
theorem sc_read_figures : FnScope ["text", "most"] ["text", "most"] (defScope s_read_figures) := ⟨rfl, rfl, rfl, by decide +kernel, rfl, by decide +kernel, by decide +kernel⟩
abbrev s_is_tuple : Stmt := topS 9
theorem sc_is_tuple : FnScope ["thing", "least", "most"] ["thing", "least", "most"] (defScope s_is_tuple) := ⟨rfl, rfl, rfl, by decide +kernel, rfl, by decide +kernel, by decide +kernel⟩
abbrev s_do_rise : Stmt := topS 10
theorem sc_do_rise : FnScope ["things", "one", "other"] ["things"] (defScope s_do_rise) := ⟨rfl, rfl, rfl, by decide +kernel, rfl, by decide +kernel, by decide +kernel⟩
abbrev s_is_form : Stmt := topS 12
theorem sc_is_form : FnScope ["thing", "p", "n", "terms", "term", "place", "_"] ["thing", "p"] (defScope s_is_form) := ⟨rfl, rfl, rfl, by decide +kernel, rfl, by decide +kernel, by decide +kernel⟩
abbrev s_is_term : Stmt := topS 13
theorem sc_is_term : FnScope ["thing", "p"] ["thing", "p"] (defScope s_is_term) := ⟨rfl, rfl, rfl, by decide +kernel, rfl, by decide +kernel, by decide +kernel⟩
abbrev s_form_text : Stmt := topS 14
theorem sc_form_text : FnScope ["form", "n", "terms", "first", "place", "k"] ["form"] (defScope s_form_text) := ⟨rfl, rfl, rfl, by decide +kernel, rfl, by decide +kernel, by decide +kernel⟩
abbrev s_read_form : Stmt := topS 15
theorem sc_read_form : FnScope ["text", "p", "parts", "n", "form", "part"] ["text", "p"] (defScope s_read_form) := ⟨rfl, rfl, rfl, by decide +kernel, rfl, by decide +kernel, by decide +kernel⟩
abbrev s_term_of : Stmt := topS 16
theorem sc_term_of : FnScope ["part", "p", "place", "figures"] ["part", "p"] (defScope s_term_of) := ⟨rfl, rfl, rfl, by decide +kernel, rfl, by decide +kernel, by decide +kernel⟩
abbrev s_law_begun : Stmt := topS 18
theorem sc_law_begun : FnScope ["script", "cell"] ["script"] (defScope s_law_begun) := ⟨rfl, rfl, rfl, by decide +kernel, rfl, by decide +kernel, by decide +kernel⟩
abbrev s_law_draw : Stmt := topS 19
theorem sc_law_draw : FnScope ["state", "many", "cells", "at", "cell"] ["state", "many"] (defScope s_law_draw) := ⟨rfl, rfl, rfl, by decide +kernel, rfl, by decide +kernel, by decide +kernel⟩
abbrev s_law_prime : Stmt := topS 20
theorem sc_law_prime : FnScope ["state", "some"] ["state"] (defScope s_law_prime) := ⟨rfl, rfl, rfl, by decide +kernel, rfl, by decide +kernel, by decide +kernel⟩
abbrev s_law_place : Stmt := topS 21
theorem sc_law_place : FnScope ["state", "signs", "size", "word"] ["state"] (defScope s_law_place) := ⟨rfl, rfl, rfl, by decide +kernel, rfl, by decide +kernel, by decide +kernel⟩
abbrev s_law_places : Stmt := topS 22
theorem sc_law_places : FnScope ["state", "many", "some", "k", "place"] ["state", "many"] (defScope s_law_places) := ⟨rfl, rfl, rfl, by decide +kernel, rfl, by decide +kernel, by decide +kernel⟩
abbrev s_law_form : Stmt := topS 23
theorem sc_law_form : FnScope ["state", "places", "q", "terms", "place", "times"] ["state", "places", "q"] (defScope s_law_form) := ⟨rfl, rfl, rfl, by decide +kernel, rfl, by decide +kernel, by decide +kernel⟩
abbrev s_law_written : Stmt := topS 24
theorem sc_law_written : FnScope ["lot", "pieces", "place", "many"] ["lot"] (defScope s_law_written) := ⟨rfl, rfl, rfl, by decide +kernel, rfl, by decide +kernel, by decide +kernel⟩
abbrev s_law_figures : Stmt := topS 25
theorem sc_law_figures : FnScope ["word", "many"] ["word"] (defScope s_law_figures) := ⟨rfl, rfl, rfl, by decide +kernel, rfl, by decide +kernel, by decide +kernel⟩
abbrev s_law_number : Stmt := topS 26
theorem sc_law_number : FnScope ["word", "q"] ["word", "q"] (defScope s_law_number) := ⟨rfl, rfl, rfl, by decide +kernel, rfl, by decide +kernel, by decide +kernel⟩
abbrev s_law_term : Stmt := topS 27
theorem sc_law_term : FnScope ["piece", "q", "many", "place", "times", "odd", "sign"] ["piece", "q"] (defScope s_law_term) := ⟨rfl, rfl, rfl, by decide +kernel, rfl, by decide +kernel, by decide +kernel⟩
abbrev s_law_read : Stmt := topS 28
theorem sc_law_read : FnScope ["word", "q", "pieces", "num", "terms", "piece", "term"] ["word", "q"] (defScope s_law_read) := ⟨rfl, rfl, rfl, by decide +kernel, rfl, by decide +kernel, by decide +kernel⟩
abbrev s_law_bent : Stmt := topS 29
theorem sc_law_bent : FnScope ["state", "word", "way", "at", "sign", "pieces", "one", "other"] ["state", "word"] (defScope s_law_bent) := ⟨rfl, rfl, rfl, by decide +kernel, rfl, by decide +kernel, by decide +kernel⟩
abbrev s_law : Stmt := topS 30
theorem sc_law : FnScope ["script", "state", "turn", "q", "other", "lot", "word", "texts", "k", "bent", "what", "prime", "told", "owed", "great", "longs", "one"] ["script"] (defScope s_law) := ⟨rfl, rfl, rfl, by decide +kernel, rfl, by decide +kernel, by decide +kernel⟩
theorem kb_form_text_0 {K : PySem.W.Frag} {f : Addr} {fd : FuncData} (F : Fun K "form_text" "form_text" s_form_text f fd) : ∀ (us ws : List Value), us.length = 0 → ws.length = 1 → ∀ s : Shared, BindsTo s fd ⟨us, (["form"] : List Str).zip ws⟩ ((["form"] : List Str).zip (([0] : List Nat).map fun i => (us ++ ws).getD i .none)) := by
  obtain ⟨oc, od, kV, doc, pm, an, cdv, ct, osl, rfl, lk, hcd⟩ := F.ex
  intro us ws h1 h2 s
  match us, h1, ws, h2 with
  | [], _, [w0], _ => exact .of_eq rfl
theorem kb_read_form_1_0 {K : PySem.W.Frag} {f : Addr} {fd : FuncData} (F : Fun K "read_form" "read_form" s_read_form f fd) : ∀ (us ws : List Value), us.length = 0 → ws.length = 2 → ∀ s : Shared, BindsTo s fd ⟨us, (["p", "text"] : List Str).zip ws⟩ ((["text", "p"] : List Str).zip (([1, 0] : List Nat).map fun i => (us ++ ws).getD i .none)) := by
  obtain ⟨oc, od, kV, doc, pm, an, cdv, ct, osl, rfl, lk, hcd⟩ := F.ex
  intro us ws h1 h2 s
  match us, h1, ws, h2 with
  | [], _, [w0, w1], _ => exact .of_eq rfl
/-! ### defs that run while nothing is being shown (repr): the list of guards is empty -/
structure FnG (P : Program) (w : World) (K : PySem.W.Frag) (mg : Str → Option Value) (base : Heap) (k : Nat) (f : Addr) (fd : FuncData) (ps : List Str) (sp : Sp) : Prop where
  len : ∀ vs H Q E, sp vs H Q E → vs.length = ps.length
  run : ∀ (A : Around) (outer : List Env) (s : Shared) (H : Hp) (args : Args) (us : List Value) (vs : List V) (Q : VK) (E : XK), A.guards = some [] → Room k A → Env0 P w K mg base A outer s H → BindsTo s fd args (ps.zip us) → Vals vs us → sp vs H Q E →
    codeAny (model P w) A (.call (.ref f) args) (CR CX0 outer P w H s Q E) s
section
variable {P : Program} {w : World} {K : PySem.W.Frag} {mg : Str → Option Value} {base : Heap}
theorem fnG_of {k : Nat} {x qual : Str} {st : Stmt} {f : Addr} {fd : FuncData} {N ps : List Str} {sp : Sp} (F : Fun K x qual st f fd) (S : FnScope N ps (defScope st)) (hlen : ∀ vs H Q E, sp vs H Q E → vs.length = ps.length)
    (body : ∀ (cdv : Value) (A : Around) (outer : List Env) (s : Shared) (H : Hp) (vs : List V) (Q : VK) (E : XK), A.guards = some [] → Room k (A.deeper (envOfC qual (defScope st) s.heap.objs.size f cdv)) → sp vs H Q E →
      ∃ t, PSs (cxOf CX0 P w K mg base N qual (defScope st) f cdv A outer s H E).nox (defBody st) t ∧ t { nx := fun _ H' => Q .non H', rt := Q } (L2.start N vs) H) : FnG P w K mg base (k + 1) f fd ps sp := by
  obtain ⟨oc, od, kV, doc, pm, an, cdv, ct, osl, rfl, lk, hcd⟩ := F.ex
  refine ⟨hlen, fun A outer s H args us vs Q E hga hr e0 hb r hsp => ?_⟩
  have inK : K.In s.heap := e0.mod.kin.keeps (fun b o q => (e0.bs b o q).1)
  have nl : s.heap.NoLimit := e0.mod.nolimit.keeps (fun b o q => (e0.bs b o q).1)
  have kinds : ∀ y ∈ ps.zip us, (defScope st).names.lookup y.1 = some .local ∨ ((defScope st).names.lookup y.1 = some .cell ∧ ((cellsFrom (s.heap.objs.size + 1) (defScope st).names []).lookup y.1).isSome = true) := by
    intro y hy
    have := S.par y.1 (List.of_mem_zip (a := y.1) (b := y.2) hy).1
    exact this.elim .inl (fun z => .inr ⟨z, PySem.W.cellsFrom_some _ _ _ (.inl z)⟩)
  apply codeAny_call_function hr.depth (inK _ _ lk) rfl S.co S.gen rfl (PySem.W.codeRec_of inK hcd)
  apply hb
  apply wpAny_newFunctionEnv_cells S.kind kinds
  intro env he s1 x
  subst he
  refine ⟨nl.keeps x.toInCall.keep, codeAny_func ?_⟩
  obtain ⟨t, ht, hq⟩ := body cdv A outer s H vs Q E hga (hr.deeper _) hsp
  have J0 := inv_start (CX := CX0) (E := E) S hr.hd e0 (hlen _ _ _ _ hsp) r x
  refine wpAny_mono (ht.nox.run [] s1 (L2.start N vs) H _ J0 hq) (fun fl s' hs => ?_) (fun e s' hs => hs)
  match fl, hs with
  | .ret u, ⟨v, σ', H', J, rv, q⟩ => exact ⟨v, H', J.os, J.bare, J.base, J.hok, rv, q⟩
  | .next, ⟨σ', H', J, q⟩ => exact ⟨V.non, H', J.os, J.bare, J.base, J.hok, rfl, q⟩
  | .brk, ⟨_, _, _, q⟩ => exact q.elim
  | .cont, ⟨_, _, _, q⟩ => exact q.elim
end
/-! ### the law's own call, where nothing is being shown -/
section
variable {P : Program} {w : World} {K : PySem.W.Frag} {mg mb : Str → Option Value} {k : Nat} {fa a : Addr} {fd : FuncData} {x : Str} {sp : Sp} {g0 : Shared} {vs : List Value} {ns : List Int}
/-- from a heap H that tracks nothing but, at most, the script -/
theorem lawG_from (inK : K.In g0.heap) (hns : g0.heap.Ns mainGlobals mg) (hb : g0.heap.Ns builtinsNs mb) (hbb : ∀ x : Str, x ≠ "__name__" → mb x = bootBuiltins x) (nl : g0.heap.NoLimit) (hg : g0.gens = #[])
    (ha : g0.heap.get? a = some { cls := .type "list", data := .seq vs.toArray }) (hr : Room k callerA)
    (F : ∀ base : Heap, K.In base → base.Ns mainGlobals mg → FnG P w K mg base k fa fd [x] sp) (hbind : ∀ (s : Shared) (u : Value), BindsTo s fd ⟨[u], []⟩ [(x, u)])
    (hsp : ∀ H : Hp, Only H → SqL K H a (ns.map V.int) → sp [.ref a] H (fun v _ => v = .bl true) fun _ _ _ => False)
    (H : Hp) (onl : Only H) (script : SqL K H a (ns.map V.int)) (ok : HOk P w H g0.heap) (at_ : ∀ b, H b ≠ none → b = a) (off : H a ≠ none → K.lookup a = none) :
    codeAny (model P w) callerA (.call (.ref fa) ⟨[.ref a], []⟩) (fun r s' => r = .ok (.ret (.bool true)) ∧ OldK g0.heap s'.heap ∧ s'.os = g0.os ∧ AllBare s'.gens) g0 := by
  have free_dict : ∀ (b : Addr) (o : Obj) (es : Array DictEntry) (ep : Nat), g0.heap.get? b = some o → o.data = .dict es ep → H b = none := by
    intro b o es ep e d
    by_cases q : H b = none
    · exact q
    · obtain rfl := at_ b q
      rw [e] at ha
      injection ha with ha
      rw [ha] at d
      cases d
  have to_base : ∀ (b : Addr) (m : Str → Option Value), g0.heap.Ns b m → (hidT g0.heap H).Ns b m := by
    intro b m n
    obtain ⟨o, es, ep, e, d, r⟩ := n
    exact ⟨o, es, ep, hidT_get e (free_dict b o es ep e d), d, r⟩
  have baseK : K.In (hidT g0.heap H) := by
    intro b o e
    refine hidT_get (inK b o e) ?_
    by_cases q : H b = none
    · exact q
    · obtain rfl := at_ b q
      rw [off q] at e
      cases e
  obtain ⟨mc, n1, n2⟩ := nl
  have M : Mod K mg (hidT g0.heap H) := ⟨baseK, to_base _ _ hns, ⟨mb, to_base _ _ hb, hbb⟩, ⟨mc, to_base _ _ n1, n2⟩⟩
  have env : Env0 P w K mg (hidT g0.heap H) callerA [] g0 H :=
    { frames := rfl, mod := M, bs := fun b o e => of_hidT e, bsz := Nat.le_of_eq (hidT_size _ _), funs := trivial, frf := fun b z => (by cases z), hok := ok, bare := .of_eq hg }
  have run := (F _ baseK (to_base _ _ hns)).run callerA [] g0 H ⟨[.ref a], []⟩ [.ref a] [.ref a] _ _ rfl hr env (hbind g0 (.ref a)) (.cons rfl .nil) (hsp H onl script)
  refine codeAny_mono run (fun r s' z => ?_)
  match r, z with
  | .ok (.ret u), z =>
    obtain ⟨v, H', os, bare, un, ok', rv, q⟩ := z
    have q : v = .bl true := q
    subst q
    obtain rfl : u = Value.bool true := rv
    refine ⟨rfl, OldK.of_keep (fun b o e => ?_), os, bare⟩
    by_cases q : H b = none
    · exact un.keep b o e q (by intro z; cases z) (by intro z; cases z)
    · rcases onl b with z | ⟨ob, xs, z⟩
      · exact absurd z q
      · have e1 := (ok b _ z).1
        have e2 := (ok' b _ (un.frzs b ob _ z)).1
        rw [e] at e1
        injection e1 with e1
        rw [e1]
        exact e2
theorem lawG_call (inK : K.In g0.heap) (hns : g0.heap.Ns mainGlobals mg) (hb : g0.heap.Ns builtinsNs mb) (hbb : ∀ x : Str, x ≠ "__name__" → mb x = bootBuiltins x) (nl : g0.heap.NoLimit) (hg : g0.gens = #[])
    (ha : g0.heap.get? a = some { cls := .type "list", data := .seq vs.toArray }) (hi : IntsAre vs ns) (hl : ns.length ≤ sizeLine) (hr : Room k callerA)
    (F : ∀ base : Heap, K.In base → base.Ns mainGlobals mg → FnG P w K mg base k fa fd [x] sp) (hbind : ∀ (s : Shared) (u : Value), BindsTo s fd ⟨[u], []⟩ [(x, u)])
    (hsp : ∀ H : Hp, Only H → SqL K H a (ns.map V.int) → sp [.ref a] H (fun v _ => v = .bl true) fun _ _ _ => False) :
    codeAny (model P w) callerA (.call (.ref fa) ⟨[.ref a], []⟩) (fun r s' => r = .ok (.ret (.bool true)) ∧ OldK g0.heap s'.heap ∧ s'.os = g0.os ∧ AllBare s'.gens) g0 := by
  have rv : Vals (ns.map V.int) vs := vals_ints hi
  have el : vs.length = ns.length := hi.length
  by_cases hk : K.lookup a = none
  · refine lawG_from inK hns hb hbb nl hg ha hr F hbind hsp (fun b => if b = a then some (.frz { cls := .type "list", data := .seq vs.toArray } (.lst (ns.map V.int))) else none) (fun b => ?_) (.inl (.inr ⟨_, if_pos rfl⟩)) (fun b o e => ?_) (fun b z => ?_) (fun _ => hk)
    · by_cases q : b = a
      · exact .inr ⟨_, _, if_pos q⟩
      · exact .inl (if_neg q)
    · by_cases q : b = a
      · subst q
        have e := (if_pos rfl).symm.trans e
        injection e with e
        rw [← e]
        exact ⟨ha, by rw [List.length_map]; exact hl, vs, _, rv, ha⟩
      · have e := (if_neg q).symm.trans e
        cases e
    · by_cases q : b = a
      · exact q
      · exact absurd (if_neg q) z
  · obtain ⟨o, ho⟩ := Option.ne_none_iff_exists'.mp hk
    have e := inK a o ho
    rw [ha] at e
    injection e with e
    subst e
    exact lawG_from inK hns hb hbb nl hg ha hr F hbind hsp (fun _ => none) (fun _ => .inl rfl) (.inr ⟨_, vs.toArray, _, ho, rfl, rfl, rfl, by rw [List.size_toArray, el]; exact hl, by simpa using rv⟩) (fun b o e => by cases e) (fun b z => absurd rfl z) (fun z => absurd rfl z)
end
theorem walkG_of {l : PySem.W.OpenLaw} {n k : Nat} {q : Program} {loose : List Str} {XP : (Str → Option Value) → Heap → Prop} {YP : World → Heap → Prop} {d : DefRec} {K : Params → PySem.W.Frag} {sp : World → Sp} {x : Str}
    (hn : l.most = some n) (hn2 : n ≤ sizeLine) (hdf : d.params.defaults = []) (hr : Room k callerA) (hY : ∀ (w : World) (h : Heap), YP w h → (K w.params).In h)
    (F : ∀ (w : World) (mg : Str → Option Value) (fa : Addr) (h : Heap), (K w.params).In h → h.Ns mainGlobals mg → mg d.name = some (.ref fa) →
      ∃ fd : FuncData, (∀ (s : Shared) (u : Value), BindsTo s fd ⟨[u], []⟩ [(x, u)]) ∧ ∀ base : Heap, (K w.params).In base → base.Ns mainGlobals mg → FnG l.prog w (K w.params) mg base k fa fd [x] (sp w))
    (hsp : ∀ (w : World) (H : Hp) (a : Addr) (ns : List Int), ns.length ≤ n → Only H → SqL (K w.params) H a (ns.map V.int) → sp w [.ref a] H (fun v _ => v = .bl true) fun _ _ _ => False) :
    PySem.W.WalkO q loose XP YP l.row.toRowW d [] (fun f vs => PySem.call f vs) := by
  apply Att.attach_call hn hdf
  intro w s₀ s₁ mg mb fa o pm cd doc a vs ns G Y ho hd hcd hmg hobj hints hlen hg
  obtain ⟨fd, b, f⟩ := F w mg fa _ (hY w _ Y) G.T.g hmg
  exact lawG_call (hY w _ Y) G.T.g G.T.b G.T.builtins G.T.nolimit hg hobj hints (Nat.le_trans hlen hn2) hr f b (fun H o s => hsp w H a ns hlen o s)
/-! ### the law's own: draws -/
def sp_law_draw (_ : PySem.W.Frag) : Sp := fun vs H Q _ => ∃ (s c : Addr) (m : Int), vs = [.ref s, .int m] ∧ St s c H ∧ (0 < m ∧ m < 1073741824) ∧
  ∀ d H', Kp [s, c] H H' → St s c H' → 0 ≤ d ∧ d < m → Q (.int d) H'
theorem St.nil0 {s c : Addr} {H : Hp} (h : St s c H) : H s ≠ none ∧ H c ≠ none := by
  obtain ⟨_, cs, j, r, h⟩ := h
  exact ⟨by rw [h.hs]; simp, by rw [h.hc]; simp⟩
theorem ints_of_all {p : Int → Prop} : ∀ {ys : List V}, (∀ y ∈ ys, ∃ n : Int, y = .int n ∧ p n) → ∃ cs : List Int, ys = cs.map .int ∧ ∀ n ∈ cs, p n
  | [], _ => ⟨[], rfl, by simp⟩
  | y :: ys, h => by
    obtain ⟨n, rfl, hn⟩ := h y List.mem_cons_self
    obtain ⟨cs, rfl, hc⟩ := ints_of_all (ys := ys) fun z hz => h z (List.mem_cons_of_mem _ hz)
    exact ⟨n :: cs, rfl, fun m hm => by
      rcases List.mem_cons.mp hm with rfl | hm
      · exact hn
      · exact hc m hm⟩
theorem atI_in {α : Type} {xs : List α} {i : Int} (h0 : 0 ≤ i) (h1 : i < xs.length) : ∃ v, atI xs i = some v ∧ v ∈ xs := by
  obtain ⟨j, rfl⟩ : ∃ j : Nat, i = j := ⟨i.toNat, by omega⟩
  have h2 : j < xs.length := by omega
  exact ⟨xs[j], atI_nat (List.getElem?_eq_getElem h2), List.getElem_mem h2⟩
section
variable {P : Program} {w : World} {K : PySem.W.Frag} {mg : Str → Option Value} {base : Heap}
theorem ok_law_draw (T : Tx K mg)  {f : Addr} {fd : FuncData} (F : Here K mg "_law_draw" s_law_draw ["state", "many"] f fd) : Cal P w K mg base "_law_draw" 1 ["state", "many"] (sp_law_draw K) s_law_draw f fd := by
  refine F.cal sc_law_draw (fun vs H Q E h => ?_) (fun cdv A outer s H vs Q E hr h => ?_)
  · obtain ⟨s, c, m, rfl, _⟩ := h
    rfl
  · obtain ⟨s, c, m, rfl, hst, ⟨m0, m1⟩, q⟩ := h
    refine ⟨_, (pss_cons (ps_set (i := 2) sc_law_draw.nd rfl (by first | exact .inl rfl | exact .inr rfl) (pe_ix (ix_listK (K := K)) (pv 0) pe_int (fun _ _ => rfl)))
      (pss_cons (ps_set (i := 3) sc_law_draw.nd rfl (by first | exact .inl rfl | exact .inr rfl) (pe_op op_mod (pe_ix (ix_listK (K := K)) (pv 0) pe_int (fun _ _ => rfl)) (pe_callB (cr_lenK (K := K)) (by rfl) T.m_len (by decide +kernel) (pa_cons (pv 2) pa_nil))))
      (pss_cons (ps_set (i := 4) sc_law_draw.nd rfl (by first | exact .inl rfl | exact .inr rfl) (pe_ix (ix_listK (K := K)) (pv 2) (pv 3) (fun _ _ => rfl)))
      (pss_cons (ps_if (pt_cmpR op_ge (pv 4) pe_int (nomark _)) (pss_cons (ps_asg (pe_op op_fdivW (pv 4) (pv 1)) (pg_sub (pv 2) (pv 3) set_list))
      (pss_one (ps_ret (pe_op op_mod (pv 4) (pv 1))))) pss_nil)
      (pss_cons (ps_asg (pe_op op_add (pe_ix (ix_listK (K := K)) (pv 0) pe_int (fun _ _ => rfl)) pe_int) (pg_sub (pv 0) pe_int set_list))
      (pss_cons (ps_asg (pe_op op_mod (pe_op op_add (pe_op op_add (pe_op op_mul (pe_ix (ix_listK (K := K)) (pv 0) pe_int (fun _ _ => rfl)) pe_int) (pv 4)) pe_int) pe_int) (pg_sub (pv 0) pe_int set_list))
      (pss_one (ps_ret (pe_op op_mod (pe_op op_fdivW (pe_op op_mod (pe_op op_mul (pe_ix (ix_listK (K := K)) (pv 0) pe_int (fun _ _ => rfl)) (pe_ix (ix_listK (K := K)) (pv 0) pe_int (fun _ _ => rfl))) pe_int) pe_int) (pv 1)))))))))), ?_⟩
    obtain ⟨hne, cs, j, r, hs, hc, ne, nn, len, hj, hr0, hr1⟩ := hst
    have hl : 0 < (cs.map V.int).length := by rw [List.length_map]; exact List.length_pos_iff.mpr ne
    obtain ⟨i, hi, ei⟩ : ∃ i : Nat, i < cs.length ∧ j % ((cs.map V.int).length : Int) = i := by
      have h1 := Int.emod_nonneg j (show ((cs.map V.int).length : Int) ≠ 0 by omega)
      have h2 := Int.emod_lt_of_pos j (show (0 : Int) < ((cs.map V.int).length : Int) by omega)
      rw [List.length_map] at h1 h2 ⊢
      exact ⟨(j % (cs.length : Int)).toNat, by omega, by omega⟩
    have hx : atI (cs.map V.int) (j % ((cs.map V.int).length : Int)) = some (.int cs[i]) := by
      rw [ei]; exact atI_nat (by rw [List.getElem?_map, List.getElem?_eq_getElem hi]; rfl)
    have hx0 : 0 ≤ cs[i] := nn _ (List.getElem_mem hi)
    have hxi : ixN (cs.map V.int).length (j % ((cs.map V.int).length : Int)) = some i := by
      rw [ei]; unfold ixN; rw [if_pos (by omega), if_pos (by rw [List.length_map]; omega)]; rfl
    have hw : CDivW cs[i] m := wide_div (b := 30) m0 (by omega) (by decide) (by decide)
    walk_at "st"
    walk_at "if"
    refine r_ite (fun hge => ?_) (fun hlt => ?_)
    · walk_at "st"
      refine q _ _ (fun b o e hb => ?_) ⟨hne, cs.set i (cs[i] / m), j, r, ?_, ?_, ?_, ?_, ?_, hj, hr0, hr1⟩ ⟨Int.emod_nonneg _ (by omega), Int.emod_lt_of_pos _ m0⟩
      · rw [upd_ne (by intro z; exact hb (by simp [z]))]; exact e
      · walk_at "hl"
      · rw [upd_same, List.map_set]
      · intro z; exact ne (by simpa using congrArg List.length z)
      · intro x hx
        rcases List.mem_or_eq_of_mem_set hx with h | h
        · exact nn _ h
        · rw [h]; exact Int.ediv_nonneg hx0 (by omega)
      · simpa using len
    · walk_at "st"
      refine q _ _ (fun b o e hb => ?_) ⟨hne, cs, j + 1, (r * 48271 + cs[i] + 12345) % 2147483647, upd_same, ?_, ne, nn, len, by omega, Int.emod_nonneg _ (by decide), Int.emod_lt_of_pos _ (by decide)⟩ ⟨Int.emod_nonneg _ (by omega), Int.emod_lt_of_pos _ m0⟩
      · rw [upd_ne (by intro z; exact hb (by simp [z])), upd_ne (by intro z; exact hb (by simp [z]))]; exact e
      · rw [upd_ne hne.symm, upd_ne hne.symm]; exact hc
end
def rInt1 : List V → Hp → VK → Prop := fun xs H Q => (∃ i, xs = [.int i] ∧ Q (.int i) H) ∨ ∃ k, xs = [.bl k] ∧ Q (.int (if k then 1 else 0)) H
theorem cr_int1 {X : Cx} : CallR X (.type "int") rInt1 := call_int1
section
variable {K : PySem.W.Frag} {σ : L2.St} {H : Hp} {Q : VK}
theorem r_int1b {k : Bool} (h : Q (.int (if k then 1 else 0)) H) : rInt1 [.bl k] H Q := .inr ⟨k, rfl, h⟩
theorem r_int1i {k : Int} (h : Q (.int k) H) : rInt1 [.int k] H Q := .inl ⟨k, rfl, h⟩
theorem r_cat {a b : Addr} {xs ys : List V} (h : H a = some (.lst xs)) (h2 : H b = some (.lst ys)) (z : xs.length + ys.length ≤ sizeLine) (q : ∀ p, H p = none → Q (.ref p) (upd H p (.lst (xs ++ ys)))) : rCat (.ref a) (.ref b) H Q := ⟨a, b, xs, ys, rfl, rfl, h, h2, z, q⟩
theorem r_rep {a : Addr} {k : Int} {xs : List V} (h : H a = some (.lst xs)) (c : -(2 ^ 63) ≤ k ∧ k < 2 ^ 63) (z : xs.length * k.toNat ≤ sizeLine) (q : ∀ p, H p = none → Q (.ref p) (upd H p (.lst (List.replicate k.toNat xs).flatten))) : rRep (.ref a) (.int k) H Q := ⟨a, k, xs, rfl, rfl, h, c.1, c.2, z, q⟩
end
local macro_rules | `(tactic| walk_at "st1") => `(tactic| first
  | with_reducible refine r_int1b ?_
  | with_reducible refine r_int1i ?_)
def sp_law_begun (K : PySem.W.Frag) : Sp := fun vs H Q _ => ∃ (a : Addr) (ns : List Int), vs = [.ref a] ∧ SqL K H a (ns.map .int) ∧ ns.length ≤ 63 ∧
  ∀ s c H', Same H H' → St s c H' → Q (.ref s) H'
section
variable {P : Program} {w : World} {K : PySem.W.Frag} {mg : Str → Option Value} {base : Heap}
theorem ok_law_begun (T : Tx K mg)  {f : Addr} {fd : FuncData} (F : Here K mg "_law_begun" s_law_begun ["script"] f fd) : Cal P w K mg base "_law_begun" 1 ["script"] (sp_law_begun K) s_law_begun f fd := by
  refine F.cal sc_law_begun (fun vs H Q E h => ?_) (fun cdv A outer s H vs Q E hr h => ?_)
  · obtain ⟨a, ns, rfl, _⟩ := h
    rfl
  · obtain ⟨a, ns, rfl, hS, hlen, q⟩ := h
    refine ⟨_, (pss_one (ps_ret (pe_lst (pa_cons (pe_op op_cat (pe_lc rfl sc_law_begun.nd (pi_listK (K := K) (pv 0)) (blkOk_by (own := [("cell", 1)]) (N := ["script", "cell"]) (sc := (defScope s_law_begun)) (by decide +kernel)) (fun _ _ _ _ _ => (pg_name (i := 1) sc_law_begun.nd rfl (by first | exact .inl rfl | exact .inr rfl))) (fun _ _ _ _ _ => pts_nil) (fun _ _ _ _ _ => (pe_callB cr_abs (by rfl) T.m_abs (by decide +kernel) (pa_cons (pv 1) pa_nil)))) (pe_op op_rep (pe_lst (pa_cons pe_int pa_nil)) (pe_callTy cr_int1 (by rfl) T.m_int (by decide +kernel) (pa_cons (pe_cmpR op_eq (pe_callB (cr_lenK (K := K)) (by rfl) T.m_len (by decide +kernel) (pa_cons (pv 0) pa_nil)) pe_int (nomark _)) pa_nil)))) (pa_cons pe_int (pa_cons pe_int pa_nil)))))), ?_⟩
    walk_at "st"
    intro D hD
    refine lc_map (walk_list (a := a) (xs := ns.map V.int)) (by rw [List.length_map]; omega) hD (fun i y _ => ∃ n : Int, y = .int n ∧ 0 ≤ n) (fun _ _ _ _ h _ => h) (fun _ _ _ _ _ h _ => h) (fun H' k => k.seq hS) (fun i H1 x H2 y => by rw [y.1]; exact Same.refl _)
      (fun i x H1 H2 Y No hi sm y hY => ?_) (fun ys H' el sm eD hys => ?_)
    · obtain ⟨rfl, ex⟩ := y
      rw [List.getElem?_map] at ex
      cases en : ns[i]? with
      | none => rw [en] at ex; cases ex
      | some n =>
        rw [en] at ex; cases ex
        refine ⟨rfl, ?_⟩
        walk_at "st"
        refine hY _ _ (Same.refl _) ⟨_, rfl, ?_⟩
        split <;> omega
    · have hall : ∀ y ∈ ys, ∃ n : Int, y = .int n ∧ 0 ≤ n := fun y hy => by
        obtain ⟨i, e⟩ := List.getElem?_of_mem hy
        exact hys i y e
      obtain ⟨cs, rfl, hcs⟩ := ints_of_all hall
      have e2 : cs.length = ns.length := by rw [List.length_map, List.length_map] at el; exact el
      walk_at "st"
      intro l1 hl1
      have hS2 : SqL K (upd H' l1 (.lst [.int 1])) a (ns.map .int) := (sm.trans (Same.upd_new hl1)).seq hS
      walk_at "st"
      rw [List.length_map]
      have fin : ∀ (p : Addr) (H2 : Hp) (zs : List Int), Same H H2 → H2 p = some (.lst (zs.map .int)) → zs ≠ [] → (∀ z ∈ zs, 0 ≤ z) → zs.length ≤ 100 → ∀ s, H2 s = none → Q (.ref s) (upd H2 s (.lst [.ref p, .int 0, .int 1])) := fun p H2 zs s2 ep ne nn ln s hs => by
        have nps : s ≠ p := (ne_of_none ep hs).symm
        exact q s p _ (s2.trans (Same.upd_new hs)) ⟨nps, zs, 0, 1, upd_same, hl_set nps.symm ep, ne, nn, by omega, by omega, by omega, by omega⟩
      have szl : (1000000 : Nat) ≤ sizeLine := by decide
      by_cases h0 : ns.length = 0
      · have e0 : decide (V.int (ns.length : Int) = V.int 0) = true := decide_eq_true (by rw [h0]; rfl)
        rw [e0]
        refine r_rep upd_same (by decide) (by decide) (fun l2 hl2 => ?_)
        refine r_cat (by walk_at "hl") upd_same (by rw [List.length_map]; simp; omega) (fun l3 hl3 => ?_)
        walk_at "st"
        intro s hs
        refine fin l3 _ (cs ++ [1]) (by walk_at "sm") (by rw [upd_same, List.map_append]; rfl) (by simp) (fun z hz => ?_) (by simp; omega) s hs
        rcases List.mem_append.mp hz with h | h
        · exact hcs z h
        · rw [List.mem_singleton.mp h]; decide
      · have e0 : decide (V.int (ns.length : Int) = V.int 0) = false := decide_eq_false (by simp; intro z; rw [z] at h0; exact h0 rfl)
        rw [e0]
        refine r_rep upd_same (by decide) (by decide) (fun l2 hl2 => ?_)
        refine r_cat (by walk_at "hl") upd_same (by rw [List.length_map]; simp; omega) (fun l3 hl3 => ?_)
        walk_at "st"
        intro s hs
        refine fin l3 _ cs (by walk_at "sm") (by rw [upd_same]; simp) (fun z => h0 (by rw [← e2, z]; rfl)) hcs (by omega) s hs
end
/-! ### texts -/
def rLenS : List V → Hp → VK → Prop := fun xs H Q => ∃ z, xs = [.str z] ∧ z.length ≤ sizeLine ∧ Q (.int z.length) H
theorem cr_lenS {X : Cx} : CallR X (.builtin "len") rLenS := call_len_str
def rInS : R2 := fun x y H Q => ∃ (c : Nat) (z : Str), x = .str ⟨#[c]⟩ ∧ y = .str z ∧ Q (.bl (decide (c ∈ z.cps.toList))) H
theorem op_inS {X : Cx} : OpR X (compareOp .In) rInS := op_in_sign
def rNinS : R2 := fun x y H Q => ∃ (c : Nat) (z : Str), x = .str ⟨#[c]⟩ ∧ y = .str z ∧ Q (.bl (!decide (c ∈ z.cps.toList))) H
theorem op_ninS {X : Cx} : OpR X (compareOp .NotIn) rNinS := op_notIn_sign
def rAddS : R2 := fun x y H Q => ∃ i j, x = .str i ∧ y = .str j ∧ i.length + j.length ≤ sizeLine ∧ Q (.str (i ++ j)) H
theorem op_addS {X : Cx} : OpR X (binaryOp .Add) rAddS := op_add_str
section
variable {K : PySem.W.Frag} {σ : L2.St} {H : Hp} {Q : VK}
theorem r_lenS {z : Str} (h : z.length ≤ sizeLine) (q : Q (.int z.length) H) : rLenS [.str z] H Q := ⟨z, rfl, h, q⟩
theorem r_inS {c : Nat} {z : Str} (q : Q (.bl (decide (c ∈ z.cps.toList))) H) : rInS (.str ⟨#[c]⟩) (.str z) H Q := ⟨c, z, rfl, rfl, q⟩
theorem r_ninS {c : Nat} {z : Str} (q : Q (.bl (!decide (c ∈ z.cps.toList))) H) : rNinS (.str ⟨#[c]⟩) (.str z) H Q := ⟨c, z, rfl, rfl, q⟩
theorem r_addS {a b : Str} (h : a.length + b.length ≤ sizeLine) (q : Q (.str (a ++ b)) H) : rAddS (.str a) (.str b) H Q := ⟨a, b, rfl, rfl, h, q⟩
theorem r_ixS {z : Str} {i : Int} {c : Nat} (h : z.length ≤ sizeLine) (e : atI z.cps.toList i = some c) (q : Q (.str ⟨#[c]⟩) H) : rIxS (.str z) (.int i) H Q := ⟨z, i, c, rfl, rfl, h, e, q⟩
def IsR (R : It → Hp → Prop) (v : V) (H : Hp) : Prop := ∃ x, v = .str x ∧ R (Its x) H
theorem r_istr {te : TE} {R : It → Hp → Prop} (h : te σ H (IsR R)) : iStr te σ H R := h
theorem r_is {R : It → Hp → Prop} {x : Str} (h : R (Its x) H) : IsR R (.str x) H := ⟨x, rfl, h⟩
end
theorem str_small {z : Str} (h : z.length ≤ 1000) : z.length ≤ sizeLine := Nat.le_trans h (by decide)
local macro_rules | `(tactic| walk_at "ssz") => `(tactic| first | decide | exact str_small (by assumption) | (have : (1000000 : Nat) ≤ sizeLine := (by decide); omega))
local macro_rules | `(tactic| walk_at "st1") => `(tactic| first
  | with_reducible refine' r_nt ?_ | with_reducible refine' r_nf ?_
  | ((with_reducible refine r_lenS ?e1 ?_); (case e1 => walk_at "ssz"))
  | with_reducible refine r_inS ?_
  | with_reducible refine r_ninS ?_
  | ((with_reducible refine r_addS ?e1 ?_); (case e1 => walk_at "ssz"))
  | ((with_reducible refine' r_ixS ?e1 ?e2 ?_); (case e1 => walk_at "ssz"); (case e2 => first | assumption | rfl))
  | with_reducible refine r_istr ?_
  | with_reducible refine r_is ?_
  | with_reducible refine r_un ?_
  | with_reducible refine r_u ?_)
def cs (x : Str) : List Nat := x.cps.toList
def onlyIn (x z : Str) : Bool := (cs x).all (fun c => decide (c ∈ cs z))
def nameO : O → Bool
  | .str x => decide (1 ≤ x.length) && (decide (x.length ≤ 8) && onlyIn x "abcdefghijklmnopqrstuvwxyz")
  | _ => false
def firstIn (x z : Str) : Bool := match cs x with
  | [] => false
  | c :: _ => decide (c ∈ cs z)
def placeO : O → Bool
  | .str x => decide (1 ≤ x.length) && (decide (x.length ≤ 40) && (firstIn x "abcdefghijklmnopqrstuvwxyz" && onlyIn x "abcdefghijklmnopqrstuvwxyz0123456789."))
  | _ => false
def namedO (m : Int) (more : Str) : O → Bool
  | .str x => decide (1 ≤ x.length) && (decide ((x.length : Int) ≤ m) && (firstIn x "abcdefghijklmnopqrstuvwxyz" && onlyIn x ("abcdefghijklmnopqrstuvwxyz" ++ more)))
  | _ => false
def smallS : O → Prop
  | .str x => x.length ≤ 1000
  | _ => True
def sp_has_only (_ : PySem.W.Frag) : Sp := fun vs H Q _ => ∃ x z : Str, vs = [.str x, .str z] ∧ x.length ≤ 1000 ∧ ∀ H', Same H H' → Q (.bl (onlyIn x z)) H'
def sp_is_place (_ : PySem.W.Frag) : Sp := fun vs H Q _ => ∃ (S : List Addr) (v : V) (o : O), vs = [v] ∧ Rep S H v o ∧ smallS o ∧ ∀ H', Same H H' → Q (.bl (placeO o)) H'
section
variable {P : Program} {w : World} {K : PySem.W.Frag} {mg : Str → Option Value} {base : Heap}
theorem ok_has_only (T : Tx K mg)  {f : Addr} {fd : FuncData} (F : Here K mg "has_only" s_has_only ["text", "signs"] f fd) : Cal P w K mg base "has_only" 1 ["text", "signs"] (sp_has_only K) s_has_only f fd := by
  refine F.cal sc_has_only (fun vs H Q E h => ?_) (fun cdv A outer s H vs Q E hr h => ?_)
  · obtain ⟨x, z, rfl, _⟩ := h
    rfl
  · obtain ⟨x, z, rfl, hx, q⟩ := h
    refine ⟨_, (pss_one (ps_ret (pe_callB (cr_allK (K := K) rfl) (by rfl) T.m_all (by decide +kernel) (pa_cons (pe_lc rfl sc_has_only.nd (pi_str (pv 0)) (blkOk_by (own := [("sign", 2)]) (N := ["text", "signs", "sign"]) (sc := (defScope s_has_only)) (by decide +kernel)) (fun _ _ _ _ _ => (pg_name (i := 2) sc_has_only.nd rfl (by first | exact .inl rfl | exact .inr rfl))) (fun _ _ _ _ _ => pts_nil) (fun _ _ _ _ _ => (pe_cmpR op_inS (pv 2) (pv 1) (by rfl)))) pa_nil)))), ?_⟩
    walk_at "st"
    intro D hD
    have hx2 : x.cps.size ≤ 1000 := hx
    refine lc_map (walk_str (z := x)) (by omega) hD (fun i y _ => ∃ c, x.cps[i]? = some c ∧ y = .bl (decide (c ∈ cs z))) (fun _ _ _ _ h _ => h) (fun _ _ _ _ _ h _ => h) (fun _ _ => trivial) (fun i H1 x H2 y => by rw [y.1]; exact Same.refl _)
      (fun i x' H1 H2 Y No hi sm y hY => ?_) (fun ys H' el sm eD hys => ?_)
    · obtain ⟨rfl, c, ec, rfl⟩ := y
      refine ⟨rfl, ?_⟩
      walk_at "st"
      exact hY _ _ (Same.refl _) ⟨c, ec, rfl⟩
    · have eys : ys = ((cs x).map fun c => decide (c ∈ cs z)).map V.bl := by
        apply List.ext_getElem?
        intro i
        cases e2 : ys[i]? with
        | none =>
          rw [List.getElem?_eq_none_iff] at e2
          rw [List.getElem?_eq_none_iff.mpr (by simp [cs]; omega)]
        | some y =>
          obtain ⟨c, ec, rfl⟩ := hys i y e2
          have : (cs x)[i]? = some c := by unfold cs; rw [Array.getElem?_toList]; exact ec
          rw [List.getElem?_map, List.getElem?_map, this]; rfl
      subst eys
      walk_at "st"
      have := q H' sm
      rw [List.all_map]
      exact this
end
local macro_rules | `(tactic| walk_at "ssz") => `(tactic| first | decide | exact str_small (by assumption) | (have : (1000000 : Nat) ≤ sizeLine := (by decide); omega))
local macro_rules | `(tactic| walk_at "st1") => `(tactic| first
  | with_reducible refine' r_nt ?_ | with_reducible refine' r_nf ?_
  | ((with_reducible refine r_lenS ?e1 ?_); (case e1 => walk_at "ssz"))
  | with_reducible refine r_inS ?_
  | with_reducible refine r_ninS ?_
  | ((with_reducible refine r_addS ?e1 ?_); (case e1 => walk_at "ssz"))
  | ((with_reducible refine' r_ixS ?e1 ?e2 ?_); (case e1 => walk_at "ssz"); (case e2 => first | assumption | rfl))
  | with_reducible refine r_istr ?_
  | with_reducible refine r_is ?_
  | with_reducible refine r_un ?_
  | with_reducible refine r_u ?_)
theorem cs_append (x y : Str) : cs (x ++ y) = cs x ++ cs y := by
  show (x.cps ++ y.cps).toList = _
  rw [Array.toList_append]; rfl
theorem cs_len (x : Str) : (cs x).length = x.length := by
  show x.cps.toList.length = x.cps.size
  rw [Array.length_toList]
theorem first_at {x : Str} (h : 1 ≤ x.length) : ∃ c, atI x.cps.toList 0 = some c ∧ ∀ z, firstIn x z = decide (c ∈ cs z) := by
  have hl := cs_len x
  cases e : cs x with
  | nil => rw [e] at hl; simp at hl; omega
  | cons c r =>
    refine ⟨c, ?_, fun z => ?_⟩
    · have : x.cps.toList = c :: r := e
      rw [this]; exact atI_nat (j := 0) rfl
    · unfold firstIn; rw [e]
section
variable {P : Program} {w : World} {K : PySem.W.Frag} {mg : Str → Option Value} {base : Heap}
theorem ok_is_place (T : Tx K mg) {f_has_only : Addr} {fd_has_only : FuncData} (C_has_only : Cal P w K mg base "has_only" 1 ["text", "signs"] (sp_has_only K) s_has_only f_has_only fd_has_only) {f : Addr} {fd : FuncData} (F : Here K mg "is_place" s_is_place ["thing"] f fd) : Cal P w K mg base "is_place" 2 ["thing"] (sp_is_place K) s_is_place f fd := by
  refine F.cal sc_is_place (fun vs H Q E h => ?_) (fun cdv A outer s H vs Q E hr h => ?_)
  · obtain ⟨S, v, o, rfl, _⟩ := h
    rfl
  · obtain ⟨S, v, o, rfl, r, sm0, q⟩ := h
    refine ⟨_, (pss_cons (ps_if (PW.pt (pw_or (pt_not (pt_val (pe_callB (cr_isiK (K := K)) (by rfl) T.m_isinstance (by decide +kernel) (pa_cons (pv 0) (pa_cons (pe_bltn (v := .ty "str") (by rfl) T.m_str (by decide +kernel) rfl) pa_nil))))) (pw_or1 (pt_not (pt_chain op_le op_le pe_int (pe_callB cr_lenS (by rfl) T.m_len (by decide +kernel) (pa_cons (pv 0) pa_nil)) (pe_glob (v := .int 40) (by rfl) (T.c_LONGEST_PLACE).choose_spec ⟨_, rfl⟩)))))) (pss_one (ps_ret pe_bl)) pss_nil)
      (pss_one (ps_ret (pe_and (pe_cmpR op_inS (pe_ix ix_str (pv 0) pe_int (fun _ _ => rfl)) (pe_glob (v := .str "abcdefghijklmnopqrstuvwxyz") (by rfl) (T.c_LETTERS).choose_spec ⟨_, rfl⟩) (by rfl)) (pe_one (pe_call C_has_only.ok (hr.mono (by decide)) (by rfl) C_has_only.at_ C_has_only.kp C_has_only.b .nil pass0 (pa_cons (pv 0) (pa_cons (pe_op op_addS (pe_op op_addS (pe_glob (v := .str "abcdefghijklmnopqrstuvwxyz") (by rfl) (T.c_LETTERS).choose_spec ⟨_, rfl⟩) (pe_glob (v := .str "0123456789") (by rfl) (T.c_FIGURES).choose_spec ⟨_, rfl⟩)) pe_str) pa_nil)))))))), ?_⟩
    cases r with
    | str x =>
      have hx : x.length ≤ 1000 := sm0
      walk_at "st"
      refine r_join (fun σ' H' => σ' = [some (.str x)] ∧ H' = H ∧ 1 ≤ x.length ∧ x.length ≤ 40) (fun σ' H' g => ?_) (fun N hN => ?_)
      · obtain ⟨rfl, rfl, g1, g2⟩ := g
        obtain ⟨c, ec, hc⟩ := first_at g1
        walk_at "st"
        refine r_iteB (fun h2 => ?_) (fun h2 => ?_)
        · walk_at "st"
          refine ⟨x, _, rfl, hx, fun H' sm => ?_⟩
          have := q H' sm
          have e : placeO (.str x) = onlyIn x ("abcdefghijklmnopqrstuvwxyz" ++ "0123456789" ++ ".") := by
            have e1 : firstIn x "abcdefghijklmnopqrstuvwxyz" = true := by rw [hc]; exact h2
            show (decide (1 ≤ x.length) && (decide (x.length ≤ 40) && (firstIn x "abcdefghijklmnopqrstuvwxyz" && _))) = _
            rw [e1, decide_eq_true g1, decide_eq_true g2]
            rfl
          rw [e] at this
          exact this
        · have := q H' (Same.refl _)
          have e : placeO (.str x) = false := by
            have e1 : firstIn x "abcdefghijklmnopqrstuvwxyz" = false := by rw [hc]; exact h2
            show (decide (1 ≤ x.length) && (decide (x.length ≤ 40) && (firstIn x "abcdefghijklmnopqrstuvwxyz" && _))) = _
            rw [e1]; simp
          rw [e] at this
          exact this
      · have no : ¬(1 ≤ x.length ∧ x.length ≤ 40) → Q (.bl false) H := fun z => by
          have := q H (Same.refl _)
          have e : placeO (.str x) = false := by
            by_cases h1 : 1 ≤ x.length
            · have h2 : ¬ x.length ≤ 40 := fun z2 => z ⟨h1, z2⟩
              simp [placeO, h2]
            · simp [placeO, h1]
          rw [e] at this
          exact this
        walk_at "if"
        refine r_ite (fun h1 => ?_) (fun h1 => ?_)
        · walk_at "st"
          by_cases h2 : (x.length : Int) ≤ 40
          · rw [decide_eq_true h2]
            walk_at "st"
            exact hN _ _ ⟨rfl, rfl, by omega, by omega⟩
          · rw [decide_eq_false h2]
            walk_at "st"
            exact no (by omega)
        · walk_at "st"
          exact no (by omega)
    | _ => (walk_at "st"; walk_at "if"; exact q H (Same.refl _))
end
def wholeO : O → Bool
  | .int _ => true
  | _ => false
def numO (p : Int) : O → Bool
  | .int n => decide (0 ≤ n) && decide (n < p)
  | _ => false
def sp_is_whole (_ : PySem.W.Frag) : Sp := fun vs H Q _ => ∃ (S : List Addr) (v : V) (o : O), vs = [v] ∧ Rep S H v o ∧ Q (.bl (wholeO o)) H
def sp_is_number (_ : PySem.W.Frag) : Sp := fun vs H Q _ => ∃ (S : List Addr) (v : V) (o : O) (p : Int), vs = [v, .int p] ∧ Rep S H v o ∧ Q (.bl (numO p o)) H
section
variable {P : Program} {w : World} {K : PySem.W.Frag} {mg : Str → Option Value} {base : Heap}
theorem ok_is_whole (T : Tx K mg)  {f : Addr} {fd : FuncData} (F : Here K mg "is_whole" s_is_whole ["thing"] f fd) : Cal P w K mg base "is_whole" 1 ["thing"] (sp_is_whole K) s_is_whole f fd := by
  refine F.cal sc_is_whole (fun vs H Q E h => ?_) (fun cdv A outer s H vs Q E hr h => ?_)
  · obtain ⟨S, v, o, rfl, _⟩ := h
    rfl
  · obtain ⟨S, v, o, rfl, r, q⟩ := h
    refine ⟨_, (pss_one (ps_ret (pe_and (pe_callB (cr_isiK (K := K)) (by rfl) T.m_isinstance (by decide +kernel) (pa_cons (pv 0) (pa_cons (pe_bltn (v := .ty "int") (by rfl) T.m_int (by decide +kernel) rfl) pa_nil))) (pe_one (pe_not (pe_callB (cr_isiK (K := K)) (by rfl) T.m_isinstance (by decide +kernel) (pa_cons (pv 0) (pa_cons (pe_bltn (v := .ty "bool") (by rfl) T.m_bool (by decide +kernel) rfl) pa_nil)))))))), ?_⟩
    cases r <;> (walk_at "st"; exact q)
theorem ok_is_number (T : Tx K mg) {f_is_whole : Addr} {fd_is_whole : FuncData} (C_is_whole : Cal P w K mg base "is_whole" 1 ["thing"] (sp_is_whole K) s_is_whole f_is_whole fd_is_whole) {f : Addr} {fd : FuncData} (F : Here K mg "is_number" s_is_number ["thing", "p"] f fd) : Cal P w K mg base "is_number" 2 ["thing", "p"] (sp_is_number K) s_is_number f fd := by
  refine F.cal sc_is_number (fun vs H Q E h => ?_) (fun cdv A outer s H vs Q E hr h => ?_)
  · obtain ⟨S, v, o, p, rfl, _⟩ := h
    rfl
  · obtain ⟨S, v, o, p, rfl, r, q⟩ := h
    refine ⟨_, (pss_one (ps_ret (pe_and (pe_call C_is_whole.ok (hr.mono (by decide)) (by rfl) C_is_whole.at_ C_is_whole.kp C_is_whole.b .nil pass0 (pa_cons (pv 0) pa_nil)) (pe_one (pe_chain op_le op_lt pe_int (pv 0) (pv 1)))))), ?_⟩
    walk_at "st"
    refine ⟨S, v, o, rfl, r, ?_⟩
    cases r with
    | int n =>
      walk_at "st"
      refine r_iteB (fun _ => ?_) (fun z => by cases z)
      walk_at "st"
      refine r_ite (fun h1 => ?_) (fun h1 => ?_)
      · walk_at "st"
        simpa [numO, h1] using q
      · simpa [numO, h1] using q
    | _ => (walk_at "st"; exact r_iteB (fun z => by cases z) (fun _ => q))
end
/-! ### places made unlike: the tries end -/
def lettersL : List Nat := cs "abcdefghijklmnopqrstuvwxyz"
def signsL : List Nat := cs "abcdefghijklmnopqrstuvwxyz0123456789."
def preW (n : Nat) : List Nat := 113 :: cs (toString (n : Int))
def stepW (n : Nat) (p : List Nat) : List Nat := preW n ++ p.take 30
def itW (n : Nat) : Nat → List Nat → List Nat
  | 0, p => p
  | t + 1, p => stepW n (itW n t p)
def goodW (w : List Nat) : Prop := 1 ≤ w.length ∧ w.length ≤ 40 ∧ (∃ c r, w = c :: r ∧ c ∈ lettersL) ∧ ∀ c ∈ w, c ∈ signsL
theorem pre_facts : ((List.range 20).all fun n => decide (2 ≤ (preW n).length) && decide ((preW n).length ≤ 3) && (preW n).all fun c => decide (c ∈ signsL)) = true := by decide +kernel
theorem pre_fact {n : Nat} (h : n < 20) : 2 ≤ (preW n).length ∧ (preW n).length ≤ 3 ∧ ∀ c ∈ preW n, c ∈ signsL := by
  have := List.all_eq_true.mp pre_facts n (List.mem_range.mpr h)
  simp only [Bool.and_eq_true, decide_eq_true_eq, List.all_eq_true] at this
  exact ⟨this.1.1, this.1.2, this.2⟩
theorem itW_take {n : Nat} (h : n < 20) (p q : List Nat) : ∀ t, (itW n t p).take (2 * t) = (itW n t q).take (2 * t)
  | 0 => by simp
  | t + 1 => by
    have ih := itW_take h p q t
    have l2 := (pre_fact h).1
    show (preW n ++ (itW n t p).take 30).take (2 * (t + 1)) = (preW n ++ (itW n t q).take 30).take (2 * (t + 1))
    rw [List.take_append, List.take_append, List.take_take, List.take_take]
    have e : ∀ x : List Nat, x.take (min (2 * (t + 1) - (preW n).length) 30) = (x.take (2 * t)).take (min (2 * (t + 1) - (preW n).length) 30) := fun x => by
      rw [List.take_take]; congr 1; omega
    rw [e (itW n t p), e (itW n t q), ih]
theorem stepW_len {n : Nat} (h : n < 20) (p : List Nat) : (stepW n p).length = (preW n).length + min 30 p.length := by
  unfold stepW; rw [List.length_append, List.length_take]
def endW (n : Nat) : List Nat := itW n 17 []
theorem itW_17 {n : Nat} (h : n < 20) (p : List Nat) : itW n 17 p = endW n := by
  have l3 := (pre_fact h).2.1
  have e := itW_take h p [] 17
  have l : ∀ q, (itW n 17 q).length ≤ 34 := fun q => by
    show (stepW n (itW n 16 q)).length ≤ 34
    rw [stepW_len h]; omega
  rwa [List.take_of_length_le (l p), List.take_of_length_le (l [])] at e
def tailL : List Nat := [97, 46, 48, 122]
/-- how a place came to be, as far as is needed -/
inductive OkW (n : Nat) (w : List Nat) : Prop
  | drawn : w.length ∈ [1, 2, 3, 6, 40] → OkW n w
  | tried (m x : Nat) (r : List Nat) : m < n → w = preW m ++ x :: r → x ∈ lettersL → OkW n w
  | more (u : List Nat) (c : Nat) : w = u ++ [c] → c ∈ tailL → (w.length ≤ 7 ∨ w.length = 40 ∨ ∃ v d, u = v ++ [d] ∧ d ∈ tailL) → OkW n w
theorem OkW.mono {n : Nat} {w : List Nat} (h : OkW n w) : OkW (n + 1) w := by
  cases h with
  | drawn h => exact .drawn h
  | tried m x r h e k => exact .tried m x r (by omega) e k
  | more u c e h k => exact .more u c e h k
theorem end_facts : ((List.range 20).all fun n => decide (32 ≤ (endW n).length) && decide ((endW n).length ≤ 33) &&
    ((List.range n).all fun m => !(decide ((endW n).take (preW m).length = preW m) && decide ((endW n).getD (preW m).length 0 ∈ lettersL))) &&
    !(decide ((endW n).getD ((endW n).length - 1) 0 ∈ tailL) && decide ((endW n).getD ((endW n).length - 2) 0 ∈ tailL))) = true := by decide +kernel
theorem OkW.end {n : Nat} (hn : n < 20) {w : List Nat} (h : OkW n w) : w ≠ endW n := by
  have f := List.all_eq_true.mp end_facts n (List.mem_range.mpr hn)
  simp only [Bool.and_eq_true, decide_eq_true_eq] at f
  obtain ⟨⟨⟨f1, f2⟩, f3⟩, f4⟩ := f
  rintro rfl
  cases h with
  | drawn h => simp at h; omega
  | tried m x r h e k =>
    have g := List.all_eq_true.mp f3 m (List.mem_range.mpr h)
    rw [e] at g
    have e1 : (preW m ++ x :: r).take (preW m).length = preW m := by rw [List.take_append_of_le_length (Nat.le_refl _), List.take_length]
    have e2 : (preW m ++ x :: r).getD (preW m).length 0 = x := by simp [List.getD]
    rw [e1, e2, decide_eq_true rfl, decide_eq_true k] at g
    cases g
  | more u c e hc k =>
    rcases k with k | k | ⟨v, d, rfl, hd⟩
    · omega
    · omega
    · rw [e] at f4
      have e1 : (v ++ [d] ++ [c]).getD ((v ++ [d] ++ [c]).length - 1) 0 = c := by simp [List.getD]
      have e2 : (v ++ [d] ++ [c]).getD ((v ++ [d] ++ [c]).length - 2) 0 = d := by simp [List.getD]
      rw [e1, e2, decide_eq_true hc, decide_eq_true hd] at f4
      cases f4
theorem OkW.grow {n : Nat} (hn : n < 20) {w : List Nat} {c : Nat} (h : OkW n w) (hw : 1 ≤ w.length ∧ w.length ≤ 40) (hc : c ∈ tailL) : OkW n (w.take 39 ++ [c]) := by
  have hl : (w.take 39 ++ [c]).length = min 39 w.length + 1 := by rw [List.length_append, List.length_take]; rfl
  cases h with
  | drawn h =>
    refine .more _ _ rfl hc ?_
    simp at h
    omega
  | tried m x r h e k =>
    have l3 := (pre_fact (show m < 20 by omega)).2.1
    refine .tried m x (r.take (39 - (preW m).length - 1) ++ [c]) h ?_ k
    rw [e, List.take_append, List.append_assoc, List.take_of_length_le (show (preW m).length ≤ 39 by omega)]
    congr 1
    obtain ⟨j, ej⟩ : ∃ j, 39 - (preW m).length = j + 1 := ⟨39 - (preW m).length - 1, by omega⟩
    rw [ej]; rfl
  | more u d e hd k =>
    refine .more _ _ rfl hc ?_
    by_cases g : w.length = 40
    · omega
    · refine .inr (.inr ⟨u, d, ?_, hd⟩)
      rw [List.take_of_length_le (by omega)]; exact e
theorem OkW.step {n : Nat} {p : List Nat} (h : goodW p) : OkW (n + 1) (stepW n p) := by
  obtain ⟨_, _, ⟨c, r, rfl, hc⟩, _⟩ := h
  exact .tried n c (r.take 29) (Nat.lt_succ_self n) rfl hc
theorem goodW.step {n : Nat} (hn : n < 20) {p : List Nat} (h : goodW p) : goodW (stepW n p) := by
  have f := pre_fact hn
  refine ⟨by rw [stepW_len hn]; omega, by rw [stepW_len hn]; omega, ⟨113, cs (toString (n : Int)) ++ p.take 30, rfl, by decide +kernel⟩, fun c m => ?_⟩
  rcases List.mem_append.mp m with m | m
  · exact f.2.2 c m
  · exact h.2.2.2 c (List.mem_of_mem_take m)
theorem goodW.grow {p : List Nat} {c : Nat} (h : goodW p) (hc : c ∈ tailL) : goodW (p.take 39 ++ [c]) := by
  obtain ⟨h1, h2, ⟨d, r, rfl, hd⟩, h4⟩ := h
  refine ⟨by simp, by rw [List.length_append, List.length_take]; simp; omega, ⟨d, r.take 38 ++ [c], rfl, hd⟩, fun x m => ?_⟩
  rcases List.mem_append.mp m with m | m
  · exact h4 x (List.mem_of_mem_take m)
  · rw [List.mem_singleton.mp m]
    simp [tailL] at hc
    rcases hc with rfl | rfl | rfl | rfl <;> decide +kernel
theorem goodW.it {n : Nat} (hn : n < 20) {p : List Nat} (h : goodW p) : ∀ t, goodW (itW n t p)
  | 0 => h
  | t + 1 => (goodW.it hn h t).step hn
local macro_rules | `(tactic| walk_at "ssz") => `(tactic| first | decide | exact str_small (by assumption) | (have : (1000000 : Nat) ≤ sizeLine := (by decide); omega))
local macro_rules | `(tactic| walk_at "st1") => `(tactic| first
  | with_reducible refine' r_nt ?_ | with_reducible refine' r_nf ?_
  | ((with_reducible refine r_lenS ?e1 ?_); (case e1 => walk_at "ssz"))
  | with_reducible refine r_inS ?_
  | with_reducible refine r_ninS ?_
  | ((with_reducible refine r_addS ?e1 ?_); (case e1 => walk_at "ssz"))
  | ((with_reducible refine' r_ixS ?e1 ?e2 ?_); (case e1 => walk_at "ssz"); (case e2 => first | assumption | rfl))
  | with_reducible refine r_istr ?_
  | with_reducible refine r_is ?_
  | with_reducible refine r_un ?_
  | with_reducible refine r_u ?_)
theorem op_inSeqK {X : Cx} {K : PySem.W.Frag} (q : X.K = K := by rfl) : OpR X (compareOp .In) (rIn K false) := q ▸ op_in_seq
def rStrOf : List V → Hp → VK → Prop := fun xs H Q => ∃ i : Int, xs = [.int i] ∧ i.natAbs.log2 < 1920 ∧ Q (.str (toString i)) H
theorem cr_strOf {X : Cx} : CallR X (.type "str") rStrOf := call_str_int
theorem cs_inj {x y : Str} (h : cs x = cs y) : x = y := by
  cases x; cases y
  simp only [cs] at h
  congr 1
  exact Array.toList_inj.mp h
theorem inV_strs (z : Str) : ∀ zs : List Str, inV (.str z) (zs.map V.str) = decide (z ∈ zs)
  | [] => by simp [inV]
  | y :: zs => by
    have ih := inV_strs z zs
    unfold inV at ih ⊢
    rw [List.map_cons, List.any_cons, ih]
    have e : eqV (V.str y) (V.str z) = decide (z = y) := by
      show (y == z) = _
      by_cases c : z = y
      · subst c; simp
      · rw [decide_eq_false c]; exact beq_false_of_ne fun w => c w.symm
    rw [e]
    by_cases c : z = y <;> simp [c]
theorem flat_strs (zs : List Str) : (zs.map V.str).all flatV = true := by
  rw [List.all_map]; exact List.all_eq_true.mpr fun _ _ => rfl
theorem cs_cut (z : Str) (n : Nat) : cs (cutS z none (some (n : Int))) = (cs z).take n := by
  unfold cutS cs
  have e1 : HT.sIx z.length 0 none = 0 := rfl
  have e2 : HT.sIx z.length z.length (some (n : Int)) = min n z.length := by
    simp [HT.sIx]; omega
  rw [e1, e2]
  simp only [List.drop_zero, Nat.sub_zero]
  have l : z.cps.toList.length = z.length := by rw [Array.length_toList]; rfl
  by_cases h : n ≤ z.length
  · rw [Nat.min_eq_left h]
  · rw [Nat.min_eq_right (by omega), List.take_of_length_le (by omega), List.take_of_length_le (by omega)]
section
variable {K : PySem.W.Frag} {σ : L2.St} {H : Hp} {Q : VK}
theorem r_slS {z : Str} {lo hi : Option Int} (h : z.length ≤ sizeLine) (q : Q (.str (cutS z lo hi)) H) : rSlS (.str z) lo hi H Q := ⟨z, rfl, h, q⟩
theorem r_inSeq {p : Addr} {z : Str} {zs : List Str} (h : SqL K H p (zs.map V.str)) (q : Q (.bl (decide (z ∈ zs))) H) : rIn K false (.str z) (.ref p) H Q :=
  ⟨p, _, rfl, .inl h, rfl, flat_strs zs, by rw [if_neg (by decide), inV_strs]; exact q⟩
theorem r_strOf {i : Int} (h : i.natAbs.log2 < 1920) (q : Q (.str (toString i)) H) : rStrOf [.int i] H Q := ⟨i, rfl, h, q⟩
end
local macro_rules | `(tactic| walk_at "st1") => `(tactic| first
  | with_reducible refine r_par ?_
  | with_reducible refine r_parx ?_
  | ((with_reducible refine r_slS ?e1 ?_); (case e1 => walk_at "ssz"))
  | ((with_reducible refine' r_inSeq ?e1 ?_); (case e1 => walk_at "sq"))
  | ((with_reducible refine r_strOf ?e1 ?_); (case e1 => assumption)))
def primes14 : List Int := [2, 3, 5, 7, 11, 13, 29, 53, 97, 101, 499, 523, 991, 997]
def sp_law_prime (_ : PySem.W.Frag) : Sp := fun vs H Q _ => ∃ (s c : Addr), vs = [.ref s] ∧ St s c H ∧ ∀ p H', Kp [s, c] H H' → St s c H' → p ∈ primes14 → Q (.int p) H'
def sp_law_place (_ : PySem.W.Frag) : Sp := fun vs H Q _ => ∃ (s c : Addr), vs = [.ref s] ∧ St s c H ∧ ∀ z H', Kp [s, c] H H' → St s c H' → goodW (cs z) → (cs z).length ∈ [1, 2, 3, 6, 40] → Q (.str z) H'
def sp_law_places (_ : PySem.W.Frag) : Sp := fun vs H Q _ => ∃ (s c : Addr) (m : Int), vs = [.ref s, .int m] ∧ St s c H ∧ (0 ≤ m ∧ m ≤ 20) ∧
  ∀ (l : Addr) (zs : List Str) (H' : Hp), Kp [s, c] H H' → St s c H' → H l = none → H' l = some (.lst (zs.map V.str)) → (zs.length : Int) = m → zs.Nodup → (∀ z ∈ zs, goodW (cs z)) → Q (.ref l) H'
section
variable {P : Program} {w : World} {K : PySem.W.Frag} {mg : Str → Option Value} {base : Heap}
theorem ok_law_prime (T : Tx K mg) {f_law_draw : Addr} {fd_law_draw : FuncData} (C_law_draw : Cal P w K mg base "_law_draw" 1 ["state", "many"] (sp_law_draw K) s_law_draw f_law_draw fd_law_draw) {f : Addr} {fd : FuncData} (F : Here K mg "_law_prime" s_law_prime ["state"] f fd) : Cal P w K mg base "_law_prime" 2 ["state"] (sp_law_prime K) s_law_prime f fd := by
  refine F.cal sc_law_prime (fun vs H Q E h => ?_) (fun cdv A outer s H vs Q E hr h => ?_)
  · obtain ⟨s, c, rfl, _⟩ := h
    rfl
  · obtain ⟨s, c, rfl, hst, q⟩ := h
    refine ⟨_, (pss_cons (ps_set (i := 1) sc_law_prime.nd rfl (by first | exact .inl rfl | exact .inr rfl) (pe_lst (pa_cons pe_int (pa_cons pe_int (pa_cons pe_int (pa_cons pe_int (pa_cons pe_int (pa_cons pe_int (pa_cons pe_int (pa_cons pe_int (pa_cons pe_int (pa_cons pe_int (pa_cons pe_int (pa_cons pe_int (pa_cons pe_int (pa_cons pe_int pa_nil))))))))))))))))
      (pss_one (ps_ret (pe_ix (ix_listK (K := K)) (pv 1) (pe_call C_law_draw.ok (hr.mono (by decide)) (by rfl) C_law_draw.at_ C_law_draw.kp C_law_draw.b .nil pass0 (pa_cons (pv 0) (pa_cons pe_int pa_nil))) (fun _ _ => rfl))))), ?_⟩
    walk_at "st"
    intro l hl
    have ol := hst.out hl
    walk_at "st"
    refine ⟨s, c, 14, rfl, by walk_at "stt", by omega, fun d H1 k1 st1 hd => ?_⟩
    obtain ⟨v, ev, hv⟩ := atI_in (xs := [V.int 2, V.int 3, V.int 5, V.int 7, V.int 11, V.int 13, V.int 29, V.int 53, V.int 97, V.int 101, V.int 499, V.int 523, V.int 991, V.int 997]) hd.1 (by simpa using hd.2)
    walk_at "st"
    obtain ⟨p, rfl, hp⟩ : ∃ p, v = .int p ∧ p ∈ primes14 := by
      obtain ⟨p, hp, e⟩ := List.mem_map.mp (show v ∈ primes14.map V.int from hv)
      exact ⟨p, e.symm, hp⟩
    exact q p H1 (by walk_at "kp") st1 hp
theorem all_signs : (cs "abcxyz0189.mnopqrstuvwdefghijkl234567").all (fun c => decide (c ∈ signsL)) = true := by decide +kernel
theorem all_firsts : (cs "abcxyzqm").all (fun c => decide (c ∈ lettersL) && decide (c ∈ signsL)) = true := by decide +kernel
theorem ok_law_place (T : Tx K mg) {f_law_draw : Addr} {fd_law_draw : FuncData} (C_law_draw : Cal P w K mg base "_law_draw" 1 ["state", "many"] (sp_law_draw K) s_law_draw f_law_draw fd_law_draw) {f : Addr} {fd : FuncData} (F : Here K mg "_law_place" s_law_place ["state"] f fd) : Cal P w K mg base "_law_place" 2 ["state"] (sp_law_place K) s_law_place f fd := by
  refine F.cal sc_law_place (fun vs H Q E h => ?_) (fun cdv A outer s H vs Q E hr h => ?_)
  · obtain ⟨s, c, rfl, _⟩ := h
    rfl
  · obtain ⟨s, c, rfl, hst, q⟩ := h
    refine ⟨_, (pss_cons (ps_set (i := 1) sc_law_place.nd rfl (by first | exact .inl rfl | exact .inr rfl) pe_str)
      (pss_cons (ps_set (i := 2) sc_law_place.nd rfl (by first | exact .inl rfl | exact .inr rfl) (pe_ix (ix_listK (K := K)) (pe_lst (pa_cons pe_int (pa_cons pe_int (pa_cons pe_int (pa_cons pe_int (pa_cons pe_int (pa_cons pe_int pa_nil))))))) (pe_call C_law_draw.ok (hr.mono (by decide)) (by rfl) C_law_draw.at_ C_law_draw.kp C_law_draw.b .nil pass0 (pa_cons (pv 0) (pa_cons pe_int pa_nil))) (fun _ _ => rfl)))
      (pss_cons (ps_set (i := 3) sc_law_place.nd rfl (by first | exact .inl rfl | exact .inr rfl) (pe_ix ix_str pe_str (pe_call C_law_draw.ok (hr.mono (by decide)) (by rfl) C_law_draw.at_ C_law_draw.kp C_law_draw.b .nil pass0 (pa_cons (pv 0) (pa_cons pe_int pa_nil))) (fun _ _ => rfl)))
      (pss_cons (ps_while PassesOwn.never (pt_cmpR op_lt (pe_callB cr_lenS (by rfl) T.m_len (by decide +kernel) (pa_cons (pv 3) pa_nil)) (pv 2) (nomark _)) (pss_one (ps_set (i := 3) sc_law_place.nd rfl (by first | exact .inl rfl | exact .inr rfl) (pe_op op_addS (pv 3) (pe_ix ix_str (pv 1) (pe_call C_law_draw.ok (hr.mono (by decide)) (by rfl) C_law_draw.at_ C_law_draw.kp C_law_draw.b .nil pass0 (pa_cons (pv 0) (pa_cons pe_int pa_nil))) (fun _ _ => rfl))))))
      (pss_one (ps_ret (pv 3))))))), ?_⟩
    walk_at "st"
    intro l hl
    have ol := hst.out hl
    walk_at "st"
    refine ⟨s, c, 6, rfl, by walk_at "stt", by omega, fun d H1 k1 st1 hd => ?_⟩
    obtain ⟨v, ev, hv⟩ := atI_in (xs := [V.int 1, V.int 1, V.int 2, V.int 3, V.int 6, V.int 40]) hd.1 (by simpa using hd.2)
    walk_at "st"
    obtain ⟨sz, rfl, hsz⟩ : ∃ p : Nat, v = .int p ∧ p ∈ [1, 2, 3, 6, 40] := by
      simp at hv
      rcases hv with h | h | h | h | h
      · exact ⟨1, h, by decide⟩
      · exact ⟨2, h, by decide⟩
      · exact ⟨3, h, by decide⟩
      · exact ⟨6, h, by decide⟩
      · exact ⟨40, h, by decide⟩
    have hsz2 : 1 ≤ sz ∧ sz ≤ 40 := by simp at hsz; omega
    refine ⟨s, c, 8, rfl, st1, by omega, fun d2 H2 k2 st2 hd2 => ?_⟩
    obtain ⟨c2, ec2, mc2⟩ := atI_in (xs := (Str.ofString "abcxyzqm").cps.toList) hd2.1 (by show d2 < 8; exact hd2.2)
    have f2 := List.all_eq_true.mp all_firsts c2 mc2
    simp only [Bool.and_eq_true, decide_eq_true_eq] at f2
    have k02 : Kp [s, c] H H2 := by walk_at "kp"
    walk_at "st"
    refine ⟨fun m σ' H' => ∃ (z : Str), σ' = [some (.ref s), some (.str "abcxyz0189.mnopqrstuvwdefghijkl234567"), some (.int sz), some (.str z)] ∧ Kp [s, c] H H' ∧ St s c H' ∧ z.length ≤ sz ∧ goodW (cs z) ∧ m = 41 - z.length, ⟨40, _, rfl, k02, st2, by show 1 ≤ sz; omega, ⟨by show 1 ≤ 1; decide, by show 1 ≤ 40; decide, ⟨c2, [], rfl, f2.1⟩, fun x m => by rw [List.mem_singleton.mp m]; exact f2.2⟩, rfl⟩, fun m σ' H' w => ?_⟩
    obtain ⟨z, rfl, k3, st3, hz, gz, rfl⟩ := w
    have lz : z.length ≤ 1000 := by omega
    walk_at "st"
    refine r_ite (fun h => ?_) (fun h => ?_)
    · refine ⟨fun σ' H' => ∃ m', m' < 41 - z.length ∧ ∃ (z : Str), σ' = [some (.ref s), some (.str "abcxyz0189.mnopqrstuvwdefghijkl234567"), some (.int sz), some (.str z)] ∧ Kp [s, c] H H' ∧ St s c H' ∧ z.length ≤ sz ∧ goodW (cs z) ∧ m' = 41 - z.length, fun _ _ h => h, ?_⟩
      walk_at "st"
      refine ⟨s, c, 37, rfl, st3, by omega, fun d4 H4 k4 st4 hd4 => ?_⟩
      obtain ⟨c4, ec4, mc4⟩ := atI_in (xs := (Str.ofString "abcxyz0189.mnopqrstuvwdefghijkl234567").cps.toList) hd4.1 (by show d4 < 37; exact hd4.2)
      have f4 := of_decide_eq_true (List.all_eq_true.mp all_signs c4 mc4)
      have k04 : Kp [s, c] H H4 := by walk_at "kp"
      have l1 : z.length + (⟨#[c4]⟩ : Str).length ≤ 50 := by show z.length + 1 ≤ 50; omega
      walk_at "st"
      have el : (z ++ (⟨#[c4]⟩ : Str)).length = z.length + 1 := by
        show (z.cps ++ #[c4]).size = _
        rw [Array.size_append]; rfl
      have gl := cs_len z
      refine ⟨_, by rw [el]; omega, _, rfl, k04, st4, by rw [el]; omega, ?_, rfl⟩
      rw [cs_append]
      obtain ⟨g1, g2, ⟨x, r, ex, hx⟩, g4⟩ := gz
      refine ⟨by rw [List.length_append]; omega, by rw [List.length_append, gl]; show z.length + 1 ≤ 40; omega, ⟨x, r ++ [c4], by rw [ex]; rfl, hx⟩, fun y m => ?_⟩
      rcases List.mem_append.mp m with m | m
      · exact g4 y m
      · rw [List.mem_singleton.mp m]; exact f4
    · walk_at "st"
      have e : (cs z).length = sz := by rw [cs_len]; omega
      exact q z _ k3 st3 gz (by rw [e]; exact hsz)
end
section
variable {P : Program} {w : World} {K : PySem.W.Frag} {mg : Str → Option Value} {base : Heap}
theorem ok_law_places (T : Tx K mg) {f_law_place : Addr} {fd_law_place : FuncData} (C_law_place : Cal P w K mg base "_law_place" 2 ["state"] (sp_law_place K) s_law_place f_law_place fd_law_place) {f_law_draw : Addr} {fd_law_draw : FuncData} (C_law_draw : Cal P w K mg base "_law_draw" 1 ["state", "many"] (sp_law_draw K) s_law_draw f_law_draw fd_law_draw) {f : Addr} {fd : FuncData} (F : Here K mg "_law_places" s_law_places ["state", "many"] f fd) : Cal P w K mg base "_law_places" 3 ["state", "many"] (sp_law_places K) s_law_places f fd := by
  refine F.cal sc_law_places (fun vs H Q E h => ?_) (fun cdv A outer s H vs Q E hr h => ?_)
  · obtain ⟨s, c, m, rfl, _⟩ := h
    rfl
  · obtain ⟨s, c, m, rfl, hst, hm, q⟩ := h
    refine ⟨_, (pss_cons (ps_set (i := 2) sc_law_places.nd rfl (by first | exact .inl rfl | exact .inr rfl) (pe_lst pa_nil))
      (pss_cons (ps_for PassesOwn.never rfl (pi_range1 (by rfl) T.m_range (pa_cons (pv 1) pa_nil)) (pg_name (i := 3) sc_law_places.nd rfl (by first | exact .inl rfl | exact .inr rfl)) (pss_cons (ps_set (i := 4) sc_law_places.nd rfl (by first | exact .inl rfl | exact .inr rfl) (pe_call C_law_place.ok (hr.mono (by decide)) (by rfl) C_law_place.at_ C_law_place.kp C_law_place.b .nil pass0 (pa_cons (pv 0) pa_nil)))
      (pss_cons (ps_if (PW.pt (pw_and (pt_cmpR (op_neNilK (K := K) (hu_of64 hr)) (pv 2) (pe_lst pa_nil) (nomark _)) (pw_and1 (pt_cmpR op_eq (pe_call C_law_draw.ok (hr.mono (by decide)) (by rfl) C_law_draw.at_ C_law_draw.kp C_law_draw.b .nil pass0 (pa_cons (pv 0) (pa_cons pe_int pa_nil))) pe_int (nomark _))))) (pss_one (ps_set (i := 4) sc_law_places.nd rfl (by first | exact .inl rfl | exact .inr rfl) (pe_op op_addS (pe_slice sl_str (pe_ix (ix_listK (K := K)) (pv 2) (pe_un un_neg pe_int) (fun _ _ => rfl)) po_none (po_some pe_int)) (pe_ix (ix_listK (K := K)) (pe_lst (pa_cons pe_str (pa_cons pe_str (pa_cons pe_str (pa_cons pe_str pa_nil))))) (pe_call C_law_draw.ok (hr.mono (by decide)) (by rfl) C_law_draw.at_ C_law_draw.kp C_law_draw.b .nil pass0 (pa_cons (pv 0) (pa_cons pe_int pa_nil))) (fun _ _ => rfl))))) pss_nil)
      (pss_cons (ps_while PassesOwn.never (pt_cmpR (op_inSeqK (K := K)) (pv 4) (pv 2) (by rfl)) (pss_one (ps_set (i := 4) sc_law_places.nd rfl (by first | exact .inl rfl | exact .inr rfl) (pe_op op_addS (pe_op op_addS pe_str (pe_callTy cr_strOf (by rfl) T.m_str (by decide +kernel) (pa_cons (pe_callB (cr_lenK (K := K)) (by rfl) T.m_len (by decide +kernel) (pa_cons (pv 2) pa_nil)) pa_nil))) (pe_slice sl_str (pv 4) po_none (po_some pe_int))))))
      (pss_one (ps_expr (castBM (K := K) (pe_bm PySem.F.plainAttrs_list PySem.F.slot_list_append PySem.F.type_list_append mt_append (pv 2) (pa_cons (pv 4) pa_nil)))))))))
      (pss_one (ps_ret (pv 2))))), ?_⟩
    walk_at "st"
    intro l hl
    have ol := hst.out hl
    walk_at "st"
    refine lp_by (walk_range (lo := 0) (n := m.toNat)) (fun i σ' H' => ∃ x3 x4, σ' = [some (.ref s), some (.int m), some (.ref l), x3, x4] ∧ Kp [s, c] H H' ∧ St s c H' ∧
      ∃ zs : List Str, H' l = some (.lst (zs.map V.str)) ∧ zs.length = i ∧ zs.Nodup ∧ ∀ z ∈ zs, goodW (cs z) ∧ OkW i (cs z)) ⟨none, none, rfl, by walk_at "kp", by walk_at "stt", [], upd_same, rfl, List.nodup_nil, by simp⟩ (fun _ _ _ _ _ => trivial) (fun i x σ' H2 H3 hi p y => ?_) (fun σ' H2 p => ?_)
    · obtain ⟨x3, x4, rfl, k2, st2, zs, el, en, nd, hz⟩ := p
      obtain ⟨rfl, rfl⟩ := y
      have i20 : i < 20 := by omega
      walk_at "st"
      refine ⟨s, c, rfl, st2, fun z H4 k4 st4 gz lz => ?_⟩
      have el4 : H4 l = some (.lst (zs.map V.str)) := by walk_at "hl"
      have k04 : Kp [s, c] H H4 := by walk_at "kp"
      walk_at "st"
      refine r_join (fun σ' H' => ∃ z, σ' = [some (.ref s), some (.int m), some (.ref l), some (.int (0 + (i : Int))), some (.str z)] ∧ Kp [s, c] H H' ∧ St s c H' ∧ H' l = some (.lst (zs.map V.str)) ∧ goodW (cs z) ∧ OkW i (cs z)) (fun σ' H' g => ?_) (fun N hN => ?_)
      · obtain ⟨z, rfl, k5, st5, el5, gz, oz⟩ := g
        walk_at "st"
        refine ⟨fun m' σ1 H1 => ∃ t z1, m' = 17 - t ∧ t ≤ 17 ∧ σ1 = [some (.ref s), some (.int m), some (.ref l), some (.int (0 + (i : Int))), some (.str z1)] ∧ H1 = H' ∧ cs z1 = itW i t (cs z), ⟨17, 0, z, rfl, by omega, rfl, rfl, rfl⟩, fun m' σ1 H1 w => ?_⟩
        obtain ⟨t, z1, rfl, ht, rfl, rfl, ez⟩ := w
        have g1 : goodW (cs z1) := by rw [ez]; exact gz.it i20 t
        have l1 : z1.length ≤ 1000 := by rw [← cs_len]; exact Nat.le_trans g1.2.1 (by decide)
        walk_at "st"
        refine r_ite (fun h => ?_) (fun h => ?_)
        · have t17 : t < 17 := by
            rcases Nat.lt_or_ge t 17 with g | g
            · exact g
            · obtain rfl : t = 17 := by omega
              rw [itW_17 i20] at ez
              exact absurd ez ((hz z1 h).2.end i20)
          refine ⟨fun σ2 H2 => ∃ m2, m2 < 17 - t ∧ ∃ t z1, m2 = 17 - t ∧ t ≤ 17 ∧ σ2 = [some (.ref s), some (.int m), some (.ref l), some (.int (0 + (i : Int))), some (.str z1)] ∧ H2 = H1 ∧ cs z1 = itW i t (cs z), fun _ _ h => h, ?_⟩
          have e9 : ((zs.map V.str).length : Int) = (i : Int) := by rw [List.length_map, en]
          have lg : ((i : Nat) : Int).natAbs.log2 < 1920 := by
            have : ((i : Nat) : Int).natAbs = i := rfl
            rw [this]
            exact Nat.lt_of_le_of_lt (Nat.log2_le_self i) (by omega)
          walk_at "st"
          rw [e9]
          have l2 := pre_fact i20
          have lpre : (Str.ofString "q" ++ Str.ofString (toString (i : Int))).length ≤ 3 := by
            have e : cs (Str.ofString "q" ++ Str.ofString (toString (i : Int))) = preW i := by rw [cs_append]; rfl
            rw [← cs_len, e]; exact l2.2.1
          have lq : (Str.ofString "q").length + (Str.ofString (toString (i : Int))).length ≤ 3 := by
            have : (Str.ofString "q" ++ Str.ofString (toString (i : Int))).length = (Str.ofString "q").length + (Str.ofString (toString (i : Int))).length := Array.size_append
            omega
          walk_at "st"
          have lc := cutS_length z1 none (some 30)
          refine r_addS (show _ ≤ sizeLine from Nat.le_trans (show _ ≤ 1003 by omega) (by decide)) ?_
          walk_at "st"
          refine ⟨17 - (t + 1), by omega, t + 1, _, rfl, by omega, rfl, rfl, ?_⟩
          rw [cs_append, cs_append]
          show _ = stepW i (itW i t (cs z))
          rw [← ez]
          have := cs_cut z1 30
          unfold stepW preW
          rw [← this]
          rfl
        · walk_at "st"
          have okl : OkW (i + 1) (cs z1) := by
            cases t with
            | zero => rw [ez]; exact oz.mono
            | succ t => rw [ez]; exact OkW.step (gz.it i20 t)
          refine ⟨_, _, rfl, by walk_at "kp", by walk_at "stt", zs ++ [z1], by rw [upd_same, List.map_append]; rfl, by simp [en], ?_, fun y m => ?_⟩
          · exact List.nodup_append.mpr ⟨nd, by simp, fun a ha b hb e => h (by rw [List.mem_singleton.mp hb] at e; exact e ▸ ha)⟩
          · rcases List.mem_append.mp m with m | m
            · exact ⟨(hz y m).1, (hz y m).2.mono⟩
            · rw [List.mem_singleton.mp m]; exact ⟨g1, okl⟩
      · walk_at "if"
        intro p hp
        walk_at "st"
        have keep : ∀ H6, Kp [s, c] H H6 → St s c H6 → H6 l = some (.lst (zs.map V.str)) → N [some (.ref s), some (.int m), some (.ref l), some (.int (0 + (i : Int))), some (.str z)] H6 := fun H6 k6 st6 el6 => hN _ _ ⟨z, rfl, k6, st6, el6, gz, .drawn lz⟩
        refine r_iteB (fun h => ?_) (fun h => ?_)
        · have ne : zs ≠ [] := fun e => by rw [e] at h; cases h
          obtain ⟨us, y, rfl⟩ : ∃ us y, zs = us ++ [y] := ⟨zs.dropLast, zs.getLast ne, (List.dropLast_concat_getLast ne).symm⟩
          walk_at "st"
          refine ⟨s, c, 3, rfl, by walk_at "stt", by omega, fun d H6 k6 st6 hd => ?_⟩
          have el6 : H6 l = some (.lst ((us ++ [y]).map V.str)) := by walk_at "hl"
          have k06 : Kp [s, c] H H6 := by walk_at "kp"
          walk_at "st"
          refine r_iteB (fun h2 => ?_) (fun h2 => ?_)
          · have my := hz y (List.mem_append_right _ (List.mem_singleton.mpr rfl))
            have ly : y.length ≤ 1000 := by rw [← cs_len]; exact Nat.le_trans my.1.2.1 (by decide)
            have ea : atI ((us ++ [y]).map V.str) (-1) = some (.str y) := by rw [List.map_append]; exact atI_last _ _
            walk_at "st"
            intro l7 hl7
            have ol7 := st6.out hl7
            walk_at "st"
            refine ⟨s, c, 4, rfl, by walk_at "stt", by omega, fun d8 H8 k8 st8 hd8 => ?_⟩
            obtain ⟨v8, ev8, mv8⟩ := atI_in (xs := [V.str "a", V.str ".", V.str "0", V.str "z"]) hd8.1 (by simpa using hd8.2)
            obtain ⟨c8, rfl, mc8⟩ : ∃ c8, v8 = V.str ⟨#[c8]⟩ ∧ c8 ∈ tailL := by
              simp at mv8
              rcases mv8 with h | h | h | h
              · exact ⟨97, h, by decide⟩
              · exact ⟨46, h, by decide⟩
              · exact ⟨48, h, by decide⟩
              · exact ⟨122, h, by decide⟩
            have lc := cutS_length y none (some 39)
            have ls : (cutS y none (some 39)).length + (⟨#[c8]⟩ : Str).length ≤ sizeLine := Nat.le_trans (show _ ≤ 1001 from by show _ + 1 ≤ 1001; omega) (by decide)
            have el8 : H8 l = some (.lst ((us ++ [y]).map V.str)) := by walk_at "hl"
            have e7 := k8 _ _ upd_same ol7
            have k08 : Kp [s, c] H H8 := by walk_at "kp"
            walk_at "st"
            have ec : cs (cutS y none (some 39) ++ ⟨#[c8]⟩) = (cs y).take 39 ++ [c8] := by
              rw [cs_append]
              have := cs_cut y 39
              rw [← this]; rfl
            exact hN _ _ ⟨_, rfl, k08, st8, el8, by rw [ec]; exact my.1.grow mc8, by rw [ec]; exact my.2.grow i20 ⟨my.1.1, my.1.2.1⟩ mc8⟩
          · walk_at "st"
            exact keep _ k06 st6 el6
        · walk_at "st"
          exact keep _ (by walk_at "kp") (by walk_at "stt") (by walk_at "hl")
    · obtain ⟨x3, x4, rfl, k2, st2, zs, el, en, nd, hz⟩ := p
      walk_at "st"
      exact q l zs _ k2 st2 hl el (by omega) nd fun z m => (hz z m).1
end
/-! ### terms: rising, one for each place, noughts left out -/
abbrev Tr := Str × Int
def ltS (x y : Str) : Prop := cs x < cs y
def rise (ts : List Tr) : Prop := (ts.map (·.1)).Pairwise ltS
theorem ltS.ne {x y : Str} (h : ltS x y) : x ≠ y := fun e => by rw [e] at h; exact List.lt_irrefl _ h
theorem ltS.asymm {x y : Str} (h : ltS x y) (k : ltS y x) : False := List.lt_asymm h k
theorem rise.nodup {ts : List Tr} (h : rise ts) : (ts.map (·.1)).Nodup := h.imp fun r => r.ne
theorem le_trans_S {x y z : Str} (h : ¬ ltS y x) (k : ¬ ltS z y) : ¬ ltS z x := by
  unfold ltS at *
  rw [List.not_lt] at *
  exact List.le_trans h k
theorem risingS_pairwise : ∀ (p : Str) (l : List Str), risingS p l = true → (p :: l).Pairwise fun a b => ¬ ltS b a
  | p, [], _ => List.pairwise_singleton _ _
  | p, x :: r, h => by
    unfold risingS at h
    rw [Bool.and_eq_true, Bool.not_eq_true', PyProof.Rows.ltCps_eq] at h
    have h1 : ¬ ltS x p := fun z => absurd (show x.cps.toList < p.cps.toList from z) (of_decide_eq_false h.1)
    have ih := risingS_pairwise x r h.2
    refine List.pairwise_cons.mpr ⟨fun y m => ?_, ih⟩
    rcases List.mem_cons.mp m with rfl | m
    · exact h1
    · exact le_trans_S h1 ((List.pairwise_cons.mp ih).1 y m)
theorem sortedS_pairwise {l : List Str} (h : sortedS l = true) : l.Pairwise fun a b => ¬ ltS b a := by
  cases l with
  | nil => exact .nil
  | cons x r => exact risingS_pairwise x r h
theorem sortedS_rise {l : List Str} (h : sortedS l = true) (nd : l.Nodup) : l.Pairwise ltS := by
  have p := sortedS_pairwise h
  refine (p.and nd).imp fun {a b} q => ?_
  rcases Std.lt_trichotomy (cs a) (cs b) with z | z | z
  · exact z
  · exact absurd (cs_inj z) q.2
  · exact absurd z q.1
theorem rise_same {ts us : List Tr} (h : rise ts) (k : rise us) (e : ∀ x, x ∈ ts ↔ x ∈ us) : ts = us := by
  have nt : ts.Nodup := nodup_of_keysS h.nodup
  have nu : us.Nodup := nodup_of_keysS k.nodup
  refine List.Perm.eq_of_pairwise (le := fun x y : Tr => ltS x.1 y.1) (fun a b _ _ p q => (p.asymm q).elim) (List.pairwise_map.mp h) (List.pairwise_map.mp k) ((List.perm_ext_iff_of_nodup nt nu).mpr e)
where
  nodup_of_keysS {l : List Tr} (h : (l.map (·.1)).Nodup) : l.Nodup := (List.pairwise_map.mp h).imp fun p e => p (by rw [e])
/-- how much the pairs tell of a place, together -/
def coef (ps : List Tr) (z : Str) : Int := ((ps.filter fun x => decide (x.1 = z)).map (·.2)).sum
theorem coef_nil (z : Str) : coef [] z = 0 := rfl
theorem coef_cons (x : Tr) (ps : List Tr) (z : Str) : coef (x :: ps) z = (if x.1 = z then x.2 else 0) + coef ps z := by
  unfold coef
  by_cases c : x.1 = z
  · rw [List.filter_cons_of_pos (by simpa using c), List.map_cons, List.sum_cons, if_pos c]
  · rw [List.filter_cons_of_neg (by simpa using c), if_neg c, Int.zero_add]
theorem coef_app (ps qs : List Tr) (z : Str) : coef (ps ++ qs) z = coef ps z + coef qs z := by
  induction ps with
  | nil => rw [List.nil_append, coef_nil, Int.zero_add]
  | cons x ps ih => rw [List.cons_append, coef_cons, coef_cons, ih, Int.add_assoc]
theorem coef_out {ps : List Tr} {z : Str} (h : z ∉ ps.map (·.1)) : coef ps z = 0 := by
  induction ps with
  | nil => rfl
  | cons x ps ih =>
    rw [List.map_cons] at h
    rw [coef_cons, if_neg fun e => h (by rw [e]; exact List.mem_cons_self), ih fun m => h (List.mem_cons_of_mem _ m)]; rfl
theorem coef_in {ps : List Tr} {z : Str} {k : Int} (nd : (ps.map (·.1)).Nodup) (h : (z, k) ∈ ps) : coef ps z = k := by
  induction ps with
  | nil => cases h
  | cons x ps ih =>
    rw [List.map_cons] at nd
    have nd2 := List.nodup_cons.mp nd
    rcases List.mem_cons.mp h with rfl | m
    · rw [coef_cons, if_pos rfl, coef_out nd2.1]; show k + 0 = k; omega
    · have : x.1 ≠ z := fun e => nd2.1 (by rw [e]; exact List.mem_map.mpr ⟨_, m, rfl⟩)
      rw [coef_cons, if_neg this, ih nd2.2 m, Int.zero_add]
/-- the terms of a form, by p: what these pairs tell together -/
structure Canon (p : Int) (ps ts : List Tr) : Prop where
  rise : rise ts
  mem : ∀ z k, (z, k) ∈ ts ↔ k = coef ps z % p ∧ k ≠ 0
theorem Canon.same {p : Int} {ps qs ts us : List Tr} (h : Canon p ps ts) (k : Canon p qs us) (e : ∀ z, coef ps z % p = coef qs z % p) : ts = us :=
  rise_same h.rise k.rise fun x => by
    obtain ⟨z, n⟩ := x
    rw [h.mem, k.mem, e]
structure TermsOk (p : Int) (ts : List Tr) : Prop where
  rise : rise ts
  ok : ∀ x ∈ ts, goodW (cs x.1) ∧ 1 ≤ x.2 ∧ x.2 < p
theorem TermsOk.canon {p : Int} {ts : List Tr} (h : TermsOk p ts) : Canon p ts ts where
  rise := h.rise
  mem := fun z k => by
    constructor
    · intro m
      have b := (h.ok _ m).2
      rw [coef_in h.rise.nodup m, Int.emod_eq_of_lt (by omega) b.2]
      exact ⟨rfl, by omega⟩
    · rintro ⟨e, ne⟩
      by_cases m : z ∈ ts.map (·.1)
      · obtain ⟨x, hx, rfl⟩ := List.mem_map.mp m
        have b := (h.ok x hx).2
        have e2 := coef_in h.rise.nodup (show (x.1, x.2) ∈ ts from hx)
        rw [e2, Int.emod_eq_of_lt (by omega) b.2] at e
        rw [e]; exact hx
      · rw [coef_out m] at e
        exact absurd (by rw [e]; rfl) ne
theorem Canon.ok {p : Int} {ps ts : List Tr} (hp : 0 < p) (h : Canon p ps ts) (g : ∀ x ∈ ps, goodW (cs x.1)) : TermsOk p ts where
  rise := h.rise
  ok := fun x m => by
    obtain ⟨z, k⟩ := x
    obtain ⟨e, ne⟩ := (h.mem z k).mp m
    have e0 := Int.emod_nonneg (coef ps z) (show p ≠ 0 by omega)
    have e1 := Int.emod_lt_of_pos (coef ps z) hp
    refine ⟨?_, by show 1 ≤ k; omega, by show k < p; omega⟩
    by_cases m2 : z ∈ ps.map (·.1)
    · obtain ⟨y, hy, rfl⟩ := List.mem_map.mp m2
      exact g y hy
    · rw [coef_out m2] at e
      exact absurd (by rw [e]; rfl) ne
/-! ### tables: a dict from texts to numbers -/
def encT (D : List Tr) : List (Key × V) := D.map fun x => (Sum.inr x.1, V.int x.2)
def getT (D : List Tr) (z : Str) : Option Int := (D.find? fun x => decide (x.1 = z)).map (·.2)
def putT (D : List Tr) (z : Str) (k : Int) : List Tr := if (D.any fun x => decide (x.1 = z)) = true then D.map (fun x => if x.1 = z then (x.1, k) else x) else D ++ [(z, k)]
theorem enc_get (D : List Tr) (z : Str) : valV (encT D) (Sum.inr z) = (getT D z).map V.int := by
  unfold valV getT encT
  rw [List.find?_map, Option.map_map, Option.map_map]
  have e : ((fun kv : Key × V => decide (kv.1 = Sum.inr z)) ∘ fun x : Tr => ((Sum.inr x.1 : Key), V.int x.2)) = fun x : Tr => decide (x.1 = z) := by
    funext x
    show decide ((Sum.inr x.1 : Key) = Sum.inr z) = _
    exact decide_eq_decide.mpr ⟨fun h => Sum.inr.inj h, fun h => by rw [h]⟩
  rw [e]; rfl
theorem enc_put (D : List Tr) (z : Str) (k : Int) : putK (encT D) (Sum.inr z) (V.int k) = encT (putT D z k) := by
  unfold putK putT
  have e : (encT D).any (fun kv => decide (kv.1 = Sum.inr z)) = D.any fun x => decide (x.1 = z) := by
    unfold encT
    rw [List.any_map]
    congr 1
    funext x
    show decide ((Sum.inr x.1 : Key) = Sum.inr z) = _
    exact decide_eq_decide.mpr ⟨fun h => Sum.inr.inj h, fun h => by rw [h]⟩
  rw [e]
  by_cases c : (D.any fun x => decide (x.1 = z)) = true
  · rw [if_pos c, if_pos c]
    unfold encT
    rw [List.map_map, List.map_map]
    refine List.map_congr_left fun x _ => ?_
    show (if (Sum.inr x.1 : Key) = Sum.inr z then (Sum.inr x.1, V.int k) else (Sum.inr x.1, V.int x.2)) = _
    by_cases d : x.1 = z
    · rw [if_pos (by rw [d])]
      show _ = ((Sum.inr (if x.1 = z then (x.1, k) else x).1 : Key), V.int (if x.1 = z then (x.1, k) else x).2)
      rw [if_pos d]
    · rw [if_neg fun h => d (Sum.inr.inj h)]
      show _ = ((Sum.inr (if x.1 = z then (x.1, k) else x).1 : Key), V.int (if x.1 = z then (x.1, k) else x).2)
      rw [if_neg d]
  · rw [if_neg c, if_neg c]
    unfold encT
    rw [List.map_append]; rfl
theorem any_key (D : List Tr) (z : Str) : (D.any fun x => decide (x.1 = z)) = true ↔ z ∈ D.map (·.1) := by
  rw [List.any_eq_true, List.mem_map]
  exact ⟨fun ⟨x, m, e⟩ => ⟨x, m, of_decide_eq_true e⟩, fun ⟨x, m, e⟩ => ⟨x, m, decide_eq_true e⟩⟩
theorem putT_keys (D : List Tr) (z : Str) (k : Int) : (putT D z k).map (·.1) = if z ∈ D.map (·.1) then D.map (·.1) else D.map (·.1) ++ [z] := by
  unfold putT
  by_cases c : z ∈ D.map (·.1)
  · rw [if_pos c, if_pos ((any_key D z).mpr c), List.map_map]
    refine List.map_congr_left fun x _ => ?_
    show (if x.1 = z then (x.1, k) else x).1 = x.1
    by_cases d : x.1 = z
    · rw [if_pos d]
    · rw [if_neg d]
  · rw [if_neg c, if_neg fun h => c ((any_key D z).mp h), List.map_append]; rfl
theorem getT_put (D : List Tr) (z y : Str) (k : Int) : getT (putT D z k) y = if y = z then some k else getT D y := by
  have h := valV_put (encT D) (Sum.inr z) (Sum.inr y) (V.int k)
  rw [enc_put, enc_get, enc_get] at h
  have inj : ∀ a b : Option Int, a.map V.int = b.map V.int → a = b := fun a b e => by
    cases a <;> cases b <;> simp at e <;> simp [e]
  by_cases c : y = z
  · subst c
    rw [if_pos rfl] at h ⊢
    exact inj _ (some k) h
  · rw [if_neg fun e => c (Sum.inr.inj e)] at h
    rw [if_neg c]
    exact inj _ _ h
theorem getT_out {D : List Tr} {z : Str} (h : z ∉ D.map (·.1)) : getT D z = none := by
  unfold getT
  rw [List.find?_eq_none.mpr fun x m e => h (List.mem_map.mpr ⟨x, m, of_decide_eq_true e⟩)]; rfl
theorem getT_in {D : List Tr} (nd : (D.map (·.1)).Nodup) {z : Str} {k : Int} (h : (z, k) ∈ D) : getT D z = some k := by
  induction D with
  | nil => cases h
  | cons x D ih =>
    rw [List.map_cons] at nd
    have nd2 := List.nodup_cons.mp nd
    unfold getT
    rcases List.mem_cons.mp h with rfl | m
    · rw [List.find?_cons_of_pos (by simp)]; rfl
    · have : x.1 ≠ z := fun e => nd2.1 (by rw [e]; exact List.mem_map.mpr ⟨_, m, rfl⟩)
      rw [List.find?_cons_of_neg (by simpa using this)]
      exact ih nd2.2 m
theorem putT_nodup {D : List Tr} (nd : (D.map (·.1)).Nodup) (z : Str) (k : Int) : ((putT D z k).map (·.1)).Nodup := by
  rw [putT_keys]
  by_cases c : z ∈ D.map (·.1)
  · rw [if_pos c]; exact nd
  · rw [if_neg c]
    exact List.nodup_append.mpr ⟨nd, by simp, fun a ha b hb e => c (by rw [List.mem_singleton.mp hb] at e; exact e ▸ ha)⟩
theorem putT_mem (D : List Tr) (z y : Str) (k : Int) : y ∈ (putT D z k).map (·.1) ↔ y ∈ D.map (·.1) ∨ y = z := by
  rw [putT_keys]
  by_cases c : z ∈ D.map (·.1)
  · rw [if_pos c]
    exact ⟨.inl, fun h => h.elim id fun e => e ▸ c⟩
  · rw [if_neg c, List.mem_append, List.mem_singleton]
theorem putT_len (D : List Tr) (z : Str) (k : Int) : (putT D z k).length ≤ D.length + 1 := by
  have := congrArg List.length (putT_keys D z k)
  rw [List.length_map] at this
  rw [this]
  split
  · rw [List.length_map]; omega
  · simp
/-! ### forms as they stand -/
def TrV (H : Hp) (v : V) (x : Tr) : Prop := ∃ t, v = .ref t ∧ H t = some (.tup [.str x.1, .int x.2])
def Trs (H : Hp) (us : List V) (ts : List Tr) : Prop := us.length = ts.length ∧ ∀ (i : Nat) (v : V), us[i]? = some v → ∃ x, ts[i]? = some x ∧ TrV H v x
def FrmV (H : Hp) (v : V) (n : Int) (ts : List Tr) : Prop := ∃ a b us, v = .ref a ∧ H a = some (.tup [.int n, .ref b]) ∧ H b = some (.tup us) ∧ Trs H us ts
structure FormOk (q n : Int) (ts : List Tr) : Prop where
  num : 0 ≤ n ∧ n < q
  ok : TermsOk q ts
/-- H' has all tuples of H -/
def Tups (H H' : Hp) : Prop := ∀ a xs, H a = some (.tup xs) → H' a = some (.tup xs)
theorem Tups.refl {H : Hp} : Tups H H := fun _ _ h => h
theorem Tups.trans {H H1 H2 : Hp} (a : Tups H H1) (b : Tups H1 H2) : Tups H H2 := fun _ _ h => b _ _ (a _ _ h)
theorem Tups.same {H H' : Hp} (k : Same H H') : Tups H H' := fun _ _ h => k _ _ h
theorem Tups.st {s c : Addr} {H H' : Hp} (k : Kp [s, c] H H') (t : St s c H) : Tups H H' := fun a xs h => k _ _ h fun z => by
  obtain ⟨_, cs, j, r, h2⟩ := t
  rcases List.mem_cons.mp z with e1 | z
  · rw [e1, h2.hs] at h; cases h
  · rw [List.mem_singleton.mp z, h2.hc] at h; cases h
theorem Tups.lst {H : Hp} {l : Addr} {xs : List V} {o : HO} (e : H l = some (.lst xs)) : Tups H (upd H l o) := fun a xs h => hl_set (fun z => by rw [z, e] at h; cases h) h
theorem Tups.dk {H : Hp} {l : Addr} {xs : List (Key × V)} {o : HO} (e : H l = some (.dK xs)) : Tups H (upd H l o) := fun a xs h => hl_set (fun z => by rw [z, e] at h; cases h) h
theorem TrV.to {H H' : Hp} {v : V} {x : Tr} (h : TrV H v x) (k : Tups H H') : TrV H' v x := by
  obtain ⟨t, e, h1⟩ := h
  exact ⟨t, e, k _ _ h1⟩
theorem Trs.to {H H' : Hp} {us : List V} {ts : List Tr} (h : Trs H us ts) (k : Tups H H') : Trs H' us ts := ⟨h.1, fun i v e => (h.2 i v e).imp fun _ y => ⟨y.1, y.2.to k⟩⟩
theorem FrmV.to {H H' : Hp} {v : V} {n : Int} {ts : List Tr} (h : FrmV H v n ts) (k : Tups H H') : FrmV H' v n ts := by
  obtain ⟨a, b, us, e, h1, h2, h3⟩ := h
  exact ⟨a, b, us, e, k _ _ h1, k _ _ h2, h3.to k⟩
theorem Trs.nil {H : Hp} : Trs H [] [] := ⟨rfl, fun i v e => by simp at e⟩
theorem Trs.append {H : Hp} {us vs : List V} {ts qs : List Tr} (h : Trs H us ts) (k : Trs H vs qs) : Trs H (us ++ vs) (ts ++ qs) :=
  ⟨by rw [List.length_append, List.length_append, h.1, k.1], fun i v e => by
    by_cases lt : i < us.length
    · rw [List.getElem?_append_left lt] at e
      rw [List.getElem?_append_left (by rw [← h.1]; exact lt)]
      exact h.2 i v e
    · rw [List.getElem?_append_right (by omega)] at e
      rw [List.getElem?_append_right (by rw [← h.1]; omega), ← h.1]
      exact k.2 _ v e⟩
theorem Trs.one {H : Hp} {v : V} {x : Tr} (h : TrV H v x) : Trs H [v] [x] := ⟨rfl, fun i u e => by
  cases i with
  | zero => exact ⟨x, rfl, (Option.some.inj (show some v = some u from e)) ▸ h⟩
  | succ i => simp at e⟩
theorem cr_sortedSK {X : Cx} {K : PySem.W.Frag} (q : X.K = K := by rfl) : CallR X (.builtin "sorted") (rSortedS K) := q ▸ cr_sortedS
section
variable {K : PySem.W.Frag} {H : Hp} {Q : VK}
theorem r_sortS {a : Addr} {xs : List Str} (h : SqL K H a (xs.map V.str)) (z : xs.length < 64) (q : ∀ (ys : List Str) (p : Addr), ys.Perm xs → sortedS ys = true → H p = none → Q (.ref p) (upd H p (.lst (ys.map V.str)))) : rSortedS K [.ref a] H Q := ⟨a, xs, rfl, h, z, q⟩
end
theorem getElem?_map_str {ns : List Str} {i : Nat} {x : V} (e : (ns.map V.str)[i]? = some x) : ∃ n, ns[i]? = some n ∧ x = .str n := by
  rw [List.getElem?_map] at e
  cases h : ns[i]? with
  | none => rw [h] at e; cases e
  | some n => rw [h] at e; exact ⟨n, rfl, (Option.some.inj e).symm⟩
def sp_law_form (_ : PySem.W.Frag) : Sp := fun vs H Q _ => ∃ (s c l : Addr) (q : Int) (zs : List Str), vs = [.ref s, .ref l, .int q] ∧ St s c H ∧ H l = some (.lst (zs.map V.str)) ∧ l ∉ [s, c] ∧ zs.Nodup ∧ zs.length < 64 ∧ (∀ z ∈ zs, goodW (cs z)) ∧ (2 ≤ q ∧ q ≤ 997) ∧
  ∀ (a : Addr) (n : Int) (ts : List Tr) (H' : Hp), Kp [s, c] H H' → St s c H' → FrmV H' (.ref a) n ts → FormOk q n ts → (∀ x ∈ ts, x.1 ∈ zs) → ts.length ≤ zs.length → Q (.ref a) H'
section
variable {P : Program} {w : World} {K : PySem.W.Frag} {mg : Str → Option Value} {base : Heap}
theorem ok_law_form (T : Tx K mg) {f_law_draw : Addr} {fd_law_draw : FuncData} (C_law_draw : Cal P w K mg base "_law_draw" 1 ["state", "many"] (sp_law_draw K) s_law_draw f_law_draw fd_law_draw) {f : Addr} {fd : FuncData} (F : Here K mg "_law_form" s_law_form ["state", "places", "q"] f fd) : Cal P w K mg base "_law_form" 2 ["state", "places", "q"] (sp_law_form K) s_law_form f fd := by
  refine F.cal sc_law_form (fun vs H Q E h => ?_) (fun cdv A outer s H vs Q E hr h => ?_)
  · obtain ⟨s, c, l, q, zs, rfl, _⟩ := h
    rfl
  · obtain ⟨s, c, l, q, zs, rfl, hst, hl, nl, nd, lz, gz, hq, fin⟩ := h
    refine ⟨_, (pss_cons (ps_set (i := 3) sc_law_form.nd rfl (by first | exact .inl rfl | exact .inr rfl) (pe_lst pa_nil))
      (pss_cons (ps_for PassesOwn.never rfl (pi_listK (K := K) (pe_callB (cr_sortedSK (K := K)) (by rfl) T.m_sorted (by decide +kernel) (pa_cons (pv 1) pa_nil))) (pg_name (i := 4) sc_law_form.nd rfl (by first | exact .inl rfl | exact .inr rfl)) (pss_cons (ps_set (i := 5) sc_law_form.nd rfl (by first | exact .inl rfl | exact .inr rfl) (pe_ix (ix_listK (K := K)) (pe_lst (pa_cons pe_int (pa_cons pe_int (pa_cons (pe_op op_sub (pv 2) pe_int) (pa_cons (pe_call C_law_draw.ok (hr.mono (by decide)) (by rfl) C_law_draw.at_ C_law_draw.kp C_law_draw.b .nil pass0 (pa_cons (pv 0) (pa_cons (pv 2) pa_nil))) pa_nil))))) (pe_call C_law_draw.ok (hr.mono (by decide)) (by rfl) C_law_draw.at_ C_law_draw.kp C_law_draw.b .nil pass0 (pa_cons (pv 0) (pa_cons pe_int pa_nil))) (fun _ _ => rfl)))
      (pss_one (ps_if (pt_cmpR op_gt (pv 5) pe_int (nomark _)) (pss_one (ps_expr (castBM (K := K) (pe_bm PySem.F.plainAttrs_list PySem.F.slot_list_append PySem.F.type_list_append mt_append (pv 3) (pa_cons (pe_tup (pa_cons (pv 4) (pa_cons (pv 5) pa_nil))) pa_nil))))) pss_nil))))
      (pss_one (ps_ret (pe_tup (pa_cons (pe_ix (ix_listK (K := K)) (pe_lst (pa_cons pe_int (pa_cons pe_int (pa_cons (pe_op op_sub (pv 2) pe_int) (pa_cons (pe_call C_law_draw.ok (hr.mono (by decide)) (by rfl) C_law_draw.at_ C_law_draw.kp C_law_draw.b .nil pass0 (pa_cons (pv 0) (pa_cons (pv 2) pa_nil))) pa_nil))))) (pe_call C_law_draw.ok (hr.mono (by decide)) (by rfl) C_law_draw.at_ C_law_draw.kp C_law_draw.b .nil pass0 (pa_cons (pv 0) (pa_cons pe_int pa_nil))) (fun _ _ => rfl)) (pa_cons (pe_callTy (cr_tupOfK (K := K)) (by rfl) T.m_tuple (by decide +kernel) (pa_cons (pv 3) pa_nil)) pa_nil))))))), ?_⟩
    walk_at "st"
    intro lt hlt
    have olt := hst.out hlt
    have nlt : l ≠ lt := ne_of_none hl hlt
    walk_at "st"
    refine r_sortS (SqL.of (hl_new hl hlt)) lz fun ys p pm so hp => ?_
    have st1 : St s c (upd H lt (.lst [])) := hst.new hlt
    have op := st1.out hp
    have np : lt ≠ p := ne_of_none upd_same hp
    have ri := sortedS_rise so (pm.symm.nodup nd)
    have gy : ∀ z ∈ ys, goodW (cs z) ∧ z ∈ zs := fun z m => ⟨gz z (pm.mem_iff.mp m), pm.mem_iff.mp m⟩
    walk_at "st"
    refine lp_by (walk_list (a := p) (xs := ys.map V.str)) (fun i σ' H' => ∃ x4 x5, σ' = [some (.ref s), some (.ref l), some (.int q), some (.ref lt), x4, x5] ∧ Kp [s, c] H H' ∧ St s c H' ∧ H' p = some (.lst (ys.map V.str)) ∧
      ∃ us ts, H' lt = some (.lst us) ∧ Trs H' us ts ∧ (ts.map (·.1)).Sublist (ys.take i) ∧ ∀ x ∈ ts, 1 ≤ x.2 ∧ x.2 < q) ⟨none, none, rfl, by walk_at "kp", by walk_at "stt", upd_same, [], [], by walk_at "hl", Trs.nil, List.Sublist.refl _, by simp⟩ (fun i σ' H' _ g => ?_) (fun i x σ' H2 H3 hi g y => ?_) (fun σ' H2 g => ?_)
    · obtain ⟨_, _, _, _, _, ep, _⟩ := g
      exact SqL.of ep
    · obtain ⟨x4, x5, rfl, k2, st2, ep, us, ts, et, ht, sb, bd⟩ := g
      obtain ⟨rfl, ex⟩ := y
      obtain ⟨z, ez, rfl⟩ := getElem?_map_str ex
      have lts : ts.length ≤ 64 := by
        have := sb.length_le
        rw [List.length_map, List.length_take] at this
        have := pm.length_eq
        omega
      walk_at "st"
      refine ⟨s, c, q, rfl, st2, by omega, fun d4 H4 k4 st4 hd4 => ?_⟩
      walk_at "st"
      intro l5 hl5
      have ol5 := st4.out hl5
      walk_at "st"
      refine ⟨s, c, 4, rfl, by walk_at "stt", by omega, fun d6 H6 k6 st6 hd6 => ?_⟩
      obtain ⟨v6, ev6, mv6⟩ := atI_in (xs := [V.int 0, V.int 1, V.int (q - 1), V.int d4]) hd6.1 (by simpa using hd6.2)
      obtain ⟨n6, rfl, hn6⟩ : ∃ n, v6 = V.int n ∧ (0 ≤ n ∧ n < q) := by
        simp at mv6
        rcases mv6 with h | h | h | h <;> exact ⟨_, h, by omega⟩
      have e5 := k6 _ _ upd_same ol5
      have k5 : Kp [s, c] H4 (upd H4 l5 (.lst [V.int 0, V.int 1, V.int (q - 1), V.int d4])) := Kp.new hl5
      have et6 : H6 lt = some (.lst us) := k6 _ _ (k5 _ _ (k4 _ _ et olt) olt) olt
      have ep6 : H6 p = some (.lst (ys.map V.str)) := k6 _ _ (k5 _ _ (k4 _ _ ep op) op) op
      have T6 := (Tups.st k4 st2).trans ((Tups.same (Same.upd_new hl5)).trans (Tups.st k6 (st4.new hl5)))
      have k06 : Kp [s, c] H H6 := ((k2.trans k4).trans k5).trans k6
      walk_at "st"
      walk_at "if"
      have sb' : (ts.map (·.1)).Sublist (ys.take (i + 1)) := sb.trans (by rw [List.take_succ]; exact List.sublist_append_left _ _)
      refine r_ite (fun h => ?_) (fun h => ?_)
      · walk_at "st"
        intro t ht8
        have lu : us.length ≤ 64 := by rw [ht.1]; exact lts
        have ht6 := hl_new et6 ht8 (u := .tup [V.str z, V.int n6])
        walk_at "st"
        have nt : t ≠ lt := (ne_of_none et6 ht8).symm
        refine ⟨_, _, rfl, by walk_at "kp", by walk_at "stt", by walk_at "hl", us ++ [.ref t], ts ++ [(z, n6)], upd_same, ?_, ?_, fun x m => ?_⟩
        · exact ((ht.to (T6.trans (Tups.same (Same.upd_new ht8)))).append (Trs.one ⟨t, rfl, upd_same⟩)).to (Tups.lst ht6)
        · rw [List.map_append, List.take_succ, ez]
          exact sb.append (List.Sublist.refl _)
        · rcases List.mem_append.mp m with m | m
          · exact bd x m
          · rw [List.mem_singleton.mp m]; exact ⟨by show 1 ≤ n6; omega, hn6.2⟩
      · walk_at "st"
        exact ⟨_, _, rfl, k06, st6, ep6, us, ts, et6, ht.to T6, sb', bd⟩
    · obtain ⟨x4, x5, rfl, k2, st2, ep, us, ts, et, ht, sb, bd⟩ := g
      rw [List.take_of_length_le (by rw [List.length_map]; exact Nat.le_refl _)] at sb
      walk_at "st"
      refine ⟨s, c, q, rfl, st2, by omega, fun d4 H4 k4 st4 hd4 => ?_⟩
      walk_at "st"
      intro l5 hl5
      have ol5 := st4.out hl5
      walk_at "st"
      refine ⟨s, c, 4, rfl, by walk_at "stt", by omega, fun d6 H6 k6 st6 hd6 => ?_⟩
      obtain ⟨v6, ev6, mv6⟩ := atI_in (xs := [V.int 0, V.int 1, V.int (q - 1), V.int d4]) hd6.1 (by simpa using hd6.2)
      obtain ⟨n6, rfl, hn6⟩ : ∃ n, v6 = V.int n ∧ (0 ≤ n ∧ n < q) := by
        simp at mv6
        rcases mv6 with h | h | h | h <;> exact ⟨_, h, by omega⟩
      have e5 := k6 _ _ upd_same ol5
      have k5 : Kp [s, c] H4 (upd H4 l5 (.lst [V.int 0, V.int 1, V.int (q - 1), V.int d4])) := Kp.new hl5
      have et6 : H6 lt = some (.lst us) := k6 _ _ (k5 _ _ (k4 _ _ et olt) olt) olt
      have T6 := (Tups.st k4 st2).trans ((Tups.same (Same.upd_new hl5)).trans (Tups.st k6 (st4.new hl5)))
      have k06 : Kp [s, c] H H6 := ((k2.trans k4).trans k5).trans k6
      walk_at "st"
      intro b hb
      walk_at "st"
      intro a ha
      have S8 : Same H6 (upd (upd H6 b (.tup us)) a (.tup [V.int n6, V.ref b])) := (Same.upd_new hb).trans (Same.upd_new ha)
      refine fin a n6 ts _ (by walk_at "kp") (by walk_at "stt") ⟨a, b, us, rfl, upd_same, hl_new upd_same ha, ht.to (T6.trans (Tups.same S8))⟩ ⟨hn6, ri.sublist sb, fun x m => ?_⟩ (fun x m => ?_) (by have := sb.length_le; rw [List.length_map, pm.length_eq] at this; exact this)
      · exact ⟨(gy _ (sb.subset (List.mem_map.mpr ⟨x, m, rfl⟩))).1, bd x m⟩
      · exact (gy _ (sb.subset (List.mem_map.mpr ⟨x, m, rfl⟩))).2
end
/-! ### dicts from texts to numbers: their readings -/
def DG3 (d : Addr) (Q : VK) (y z : V) (H : Hp) : Prop := ∃ o, DGet H d y o ∧ Q (o.getD z) H
def DG2 (ty tx : TE) (σ : L2.St) (Q : VK) (x : V) (H1 : Hp) : Prop := ∃ a, x = .ref a ∧ IsD H1 a ∧ ty σ H1 fun y H2 => tx σ H2 fun z H3 => DG3 a Q y z H3
def DG1 (Q : VK) (x y : V) (H2 : Hp) : Prop := ∃ a v, x = .ref a ∧ DGet H2 a y (some v) ∧ Q v H2
def rSortedD : List V → Hp → VK → Prop := fun xs H Q => ∃ (a : Addr) (kvs : List (Key × V)) (ks : List Str), xs = [.ref a] ∧ Rd H a (.dK kvs) ∧ kvs.map (·.1) = ks.map Sum.inr ∧ ks.length < 64 ∧
    ∀ ys p, ys.Perm ks → sortedS ys = true → H p = none → Q (.ref p) (upd H p (.lst (ys.map V.str)))
theorem cr_sortedD {X : Cx} (hc : X.calm = true) : CallR X (.builtin "sorted") rSortedD := call_sortedD hc
section
variable {K : PySem.W.Frag} {D : Ends} {σ : L2.St} {H : Hp} {Q : VK}
theorem r_par {i j : Nat} {ta : TA} (h : ta σ H fun vs H1 => ∃ v w, vs = [v, w] ∧ D.nx ((σ.set i (some v)).set j (some w)) H1) : tPar i j ta D σ H := h
theorem r_parx {v w : V} {R : V → V → Prop} (h : R v w) : ∃ v' w', [v, w] = [v', w'] ∧ R v' w' := ⟨v, w, rfl, h⟩
theorem r_gtup {n : Nat} {t : TGs} {a : Addr} {xs : List V} {N : L2.St → Hp → Prop} (h : SqT K H a xs) (e : xs.length = n) (q : t xs σ H N) : gTup K n t (.ref a) σ H N := ⟨a, xs, rfl, h, e, q⟩
theorem r_gcons {t : TG} {u : TGs} {v : V} {r : List V} {N : L2.St → Hp → Prop} (q : t v σ H fun σ' H' => u r σ' H' N) : gCons t u (v :: r) σ H N := ⟨v, r, rfl, q⟩
theorem r_gnil {N : L2.St → Hp → Prop} (q : N σ H) : gNil [] σ H N := ⟨rfl, q⟩
end
section
variable {σ : L2.St} {H : Hp} {Q : VK}
theorem r_dget2 {td ty tx : TE} (h : td σ H (DG2 ty tx σ Q)) : tDGet2 td ty tx σ H Q := h
theorem r_dg2 {ty tx : TE} {d : Addr} {D : List Tr} (e : H d = some (.dK (encT D))) (h : ty σ H fun y H2 => tx σ H2 fun z H3 => DG3 d Q y z H3) : DG2 ty tx σ Q (.ref d) H := ⟨d, rfl, .inl ⟨_, .inl e⟩, h⟩
theorem r_dg3 {d : Addr} {D : List Tr} {z : Str} {n : Int} (e : H d = some (.dK (encT D))) (q : Q (.int ((getT D z).getD n)) H) : DG3 d Q (.str z) (.int n) H :=
  ⟨_, DGet.k (k := Sum.inr z) e, by
    rw [enc_get]
    cases h : getT D z with
    | none => rw [h] at q; exact q
    | some k => rw [h] at q; exact q⟩
theorem r_dget {td ty : TE} (h : td σ H fun x H1 => ty σ H1 fun y H2 => DG1 Q x y H2) : tDGet td ty σ H Q := h
theorem r_dgv {d : Addr} {D : List Tr} {z : Str} {k : Int} (e : H d = some (.dK (encT D))) (g : getT D z = some k) (q : Q (.int k) H) : DG1 Q (.ref d) (.str z) H :=
  ⟨d, _, rfl, by
    have := DGet.k (k := Sum.inr z) e
    rw [enc_get, g] at this
    exact this, q⟩
theorem r_setD {d : Addr} {D : List Tr} {z : Str} {k : Int} {N : Hp → Prop} (e : H d = some (.dK (encT D))) (l : D.length ≤ 1000) (q : N (upd H d (.dK (encT (putT D z k))))) : rSetD (.ref d) (.str z) (.int k) H N :=
  ⟨d, _, rfl, by
    have := DPut.k (k := Sum.inr z) (v := .int k) e (by unfold encT; rw [List.length_map]; exact Nat.lt_of_le_of_lt l (by decide))
    rw [enc_put] at this
    exact this, q⟩
theorem r_sortD {d : Addr} {D : List Tr} (e : H d = some (.dK (encT D))) (l : D.length < 64) (q : ∀ (ys : List Str) (p : Addr), ys.Perm (D.map (·.1)) → sortedS ys = true → H p = none → Q (.ref p) (upd H p (.lst (ys.map V.str)))) : rSortedD [.ref d] H Q :=
  ⟨d, _, D.map (·.1), rfl, .inl e, by unfold encT; rw [List.map_map, List.map_map]; rfl, by rw [List.length_map]; exact l, q⟩
def DP (p : Addr) (Q : VK) (ps : List (V × V)) (H2 : Hp) : Prop := H2 p = some (.dK []) ∧ ∃ kvs : List (Key × V), ps = kvs.map (fun kv => (kV kv.1, kv.2)) ∧ kvs.length ≤ 15 ∧ Q (.ref p) (upd H2 p (.dK (mergeK [] kvs)))
theorem r_disp {trs : List (TE × TE)} (h : ∀ p, H p = none → tPairs trs σ (upd H p (.dK [])) (DP p Q)) : tDisp trs σ H Q := h
theorem r_tp1 {tk tv : TE} {r : List (TE × TE)} {R : List (V × V) → Hp → Prop} (h : tk σ H fun x H1 => tv σ H1 fun y H2 => tPairs r σ H2 fun ps H3 => R ((x, y) :: ps) H3) : tPairs ((tk, tv) :: r) σ H R := h
theorem r_tp0 {R : List (V × V) → Hp → Prop} (h : R [] H) : tPairs [] σ H R := h
theorem r_dp1 {p : Addr} {z : Str} {n : Int} (h : H p = some (.dK [])) (q : Q (.ref p) (upd H p (.dK (encT [(z, n)])))) : DP p Q [(V.str z, V.int n)] H := ⟨h, [(Sum.inr z, .int n)], rfl, by simp, q⟩
theorem r_dnewK (h : ∀ p, H p = none → Q (.ref p) (upd H p (.dK (encT [])))) : tDNewK σ H Q := h
end
local macro_rules | `(tactic| walk_at "st1") => `(tactic| first
  | with_reducible refine r_par ?_
  | with_reducible refine r_parx ?_
  | ((with_reducible refine' r_gtup ?e1 ?e2 ?_); (case e1 => walk_at "sq"); (case e2 => rfl))
  | with_reducible refine r_gcons ?_
  | with_reducible refine r_gnil ?_
  | with_reducible refine r_disp ?_
  | with_reducible refine r_tp1 ?_
  | with_reducible refine r_tp0 ?_
  | ((with_reducible refine' r_dp1 ?e1 ?_); (case e1 => walk_at "hl"))
  | with_reducible refine r_dnewK ?_
  | with_reducible refine r_dget2 ?_
  | ((with_reducible refine' r_dg2 ?e1 ?_); (case e1 => walk_at "hl"))
  | ((with_reducible refine' r_dg3 ?e1 ?_); (case e1 => walk_at "hl"))
  | with_reducible refine r_dget ?_
  | ((with_reducible refine' r_dgv ?e1 ?e2 ?_); (case e1 => walk_at "hl"); (case e2 => assumption))
  | ((with_reducible refine' r_setD ?e1 ?e2 ?_); (case e1 => walk_at "hl"); (case e2 => omega)))
local macro_rules | `(tactic| walk_at "ssz") => `(tactic| first | decide | exact str_small (by assumption) | (have : (1000000 : Nat) ≤ sizeLine := (by decide); omega))
local macro_rules | `(tactic| walk_at "st1") => `(tactic| first
  | with_reducible refine' r_nt ?_ | with_reducible refine' r_nf ?_
  | ((with_reducible refine r_lenS ?e1 ?_); (case e1 => walk_at "ssz"))
  | with_reducible refine r_inS ?_
  | with_reducible refine r_ninS ?_
  | ((with_reducible refine r_addS ?e1 ?_); (case e1 => walk_at "ssz"))
  | ((with_reducible refine' r_ixS ?e1 ?e2 ?_); (case e1 => walk_at "ssz"); (case e2 => first | assumption | rfl))
  | with_reducible refine r_istr ?_
  | with_reducible refine r_is ?_
  | with_reducible refine r_un ?_
  | with_reducible refine r_u ?_)
local macro_rules | `(tactic| walk_at "st1") => `(tactic| first
  | with_reducible refine r_par ?_
  | with_reducible refine r_parx ?_
  | ((with_reducible refine' r_gtup ?e1 ?e2 ?_); (case e1 => walk_at "sq"); (case e2 => rfl))
  | with_reducible refine r_gcons ?_
  | with_reducible refine r_gnil ?_
  | with_reducible refine r_disp ?_
  | with_reducible refine r_tp1 ?_
  | with_reducible refine r_tp0 ?_
  | ((with_reducible refine' r_dp1 ?e1 ?_); (case e1 => walk_at "hl"))
  | with_reducible refine r_dnewK ?_
  | with_reducible refine r_dget2 ?_
  | ((with_reducible refine' r_dg2 ?e1 ?_); (case e1 => walk_at "hl"))
  | ((with_reducible refine' r_dg3 ?e1 ?_); (case e1 => walk_at "hl"))
  | with_reducible refine r_dget ?_
  | ((with_reducible refine' r_dgv ?e1 ?e2 ?_); (case e1 => walk_at "hl"); (case e2 => assumption))
  | ((with_reducible refine' r_setD ?e1 ?e2 ?_); (case e1 => walk_at "hl"); (case e2 => omega)))
def rLtS : R2 := fun x y H Q => ∃ i j, x = .str i ∧ y = .str j ∧ Q (.bl (decide (i.cps.toList < j.cps.toList))) H
theorem op_ltS {X : Cx} : OpR X (compareOp .Lt) rLtS := op_lt_str
section
variable {K : PySem.W.Frag} {σ : L2.St} {H : Hp} {Q : VK}
theorem walk_zipL {a b : Addr} {xs ys : List V} {n : Nat} (hn : n = min xs.length ys.length) : Walk (Itz K a b) n (fun H => SqL K H a xs ∧ SqL K H b ys) (YPair (fun i => xs[i]?) (fun i => ys[i]?)) where
  goes := fun i H hi h => ⟨xs, ys, xs[i]'(by omega), ys[i]'(by omega), h.1, h.2, List.getElem?_eq_getElem (by omega), List.getElem?_eq_getElem (by omega)⟩
  stops := fun H h => ⟨xs, ys, h.1, h.2, by omega⟩
  yields := fun i H x H' _ h y => by
    obtain ⟨T, x1, y1, e1, e2, e3, e4, e5⟩ := y
    exact ⟨T, x1, y1, e1, e2, e3, e4 xs h.1, e5 ys h.2⟩
theorem r_izl {R : It → Hp → Prop} {a b : Addr} {xs ys : List V} (e1 : SqL K H a xs) (e2 : SqL K H b ys) (h : R (Itz K a b) H) : IzR K R [.ref a, .ref b] H := ⟨a, b, xs, ys, rfl, .inl ⟨e1, e2, h⟩⟩
theorem r_ltS {i j : Str} (q : Q (.bl (decide (i.cps.toList < j.cps.toList))) H) : rLtS (.str i) (.str j) H Q := ⟨i, j, rfl, rfl, q⟩
end
local macro_rules | `(tactic| walk_at "st1") => `(tactic| first
  | ((with_reducible refine' r_izl ?e1 ?e2 ?_); (case e1 => walk_at "sq"); (case e2 => walk_at "sq"))
  | with_reducible refine r_ltS ?_)
def tupleO (lo hi : Int) : O → Bool
  | .tup os => decide (lo ≤ (os.length : Int)) && decide ((os.length : Int) ≤ hi)
  | _ => false
def nz : O → Bool
  | .int k => !decide (k = 0)
  | _ => true
def termO (p : Int) : O → Bool
  | .tup [a, b] => placeO a && (numO p b && nz b)
  | _ => false
def keyO : O → Str
  | .tup (.str z :: _) => z
  | _ => ""
def riseL (zs : List Str) : Bool := (List.zipWith (fun x y => decide (cs x < cs y)) zs (zs.drop 1)).all id
def formO (p : Int) : O → Bool
  | .tup [n, .tup ts] => numO p n && (ts.all (termO p) && riseL (ts.map keyO))
  | _ => false
def smallT : O → Prop
  | .tup [a, _] => smallS a
  | _ => True
def smallF : O → Prop
  | .tup [_, .tup ts] => ts.length ≤ 1000 ∧ ∀ t ∈ ts, smallT t
  | _ => True
theorem tuple2 {o : O} (h : tupleO 2 2 o = true) : ∃ a b, o = .tup [a, b] := by
  cases o with
  | tup os =>
    simp [tupleO] at h
    match os, h with
    | [a, b], _ => exact ⟨a, b, rfl⟩
    | [], h => simp at h
    | [_], h => simp at h
    | _ :: _ :: _ :: _, h => simp at h; omega
  | _ => simp [tupleO] at h
theorem term_not {p : Int} {o : O} (h : tupleO 2 2 o = false) : termO p o = false := by
  cases o with
  | tup os =>
    match os with
    | [a, b] => simp [tupleO] at h
    | [] => rfl
    | [_] => rfl
    | _ :: _ :: _ :: _ => rfl
  | _ => rfl
theorem form_not {p : Int} {o : O} (h : tupleO 2 2 o = false) : formO p o = false := by
  cases o with
  | tup os =>
    match os with
    | [a, b] => simp [tupleO] at h
    | [] => rfl
    | [_] => rfl
    | _ :: _ :: _ :: _ => simp [formO]
  | _ => rfl
theorem Rep.pair {S : List Addr} {H : Hp} {v : V} {a b : O} (r : Rep S H v (.tup [a, b])) : ∃ x va vb, v = .ref x ∧ H x = some (.tup [va, vb]) ∧ x ∉ S ∧ Rep S H va a ∧ Rep S H vb b := by
  obtain ⟨x, xs, rfl, h, n, t⟩ := r.tupInv
  cases t with
  | cons r1 t => cases t with
    | cons r2 t => cases t; exact ⟨x, _, _, rfl, h, n, r1, r2⟩
def sp_is_tuple (_ : PySem.W.Frag) : Sp := fun vs H Q _ => ∃ (S : List Addr) (v : V) (o : O) (lo hi : Int), vs = [v, .int lo, .int hi] ∧ Rep S H v o ∧ Q (.bl (tupleO lo hi o)) H
def sp_is_term (_ : PySem.W.Frag) : Sp := fun vs H Q _ => ∃ (S : List Addr) (v : V) (o : O) (p : Int), vs = [v, .int p] ∧ Rep S H v o ∧ smallT o ∧ ∀ H', Same H H' → Q (.bl (termO p o)) H'
def sp_do_rise (_ : PySem.W.Frag) : Sp := fun vs H Q _ => ∃ (l : Addr) (zs : List Str), vs = [.ref l] ∧ H l = some (.lst (zs.map V.str)) ∧ zs.length ≤ 1000 ∧ ∀ H', Same H H' → Q (.bl (riseL zs)) H'
def sp_is_form (_ : PySem.W.Frag) : Sp := fun vs H Q _ => ∃ (S : List Addr) (v : V) (o : O) (p : Int), vs = [v, .int p] ∧ Rep S H v o ∧ smallF o ∧ ∀ H', Same H H' → Q (.bl (formO p o)) H'
theorem cut_from1 (xs : List V) : cutV xs (some 1) none = xs.drop 1 := by
  cases xs with
  | nil => rfl
  | cons x xs =>
    unfold cutV
    simp [HT.sIx]
theorem bools_of : ∀ {ys : List V} {bs : List Bool}, ys.length = bs.length → (∀ (i : Nat) (y : V), ys[i]? = some y → ∃ b, bs[i]? = some b ∧ y = .bl b) → ys = bs.map V.bl
  | [], [], _, _ => rfl
  | [], _ :: _, h, _ => by simp at h
  | _ :: _, [], h, _ => by simp at h
  | y :: ys, b :: bs, h, k => by
    obtain ⟨b', e, rfl⟩ := k 0 y rfl
    obtain rfl : b = b' := Option.some.inj e
    rw [List.map_cons, ← bools_of (by simpa using h) fun i z e => k (i + 1) z (by simpa using e)]
section
variable {P : Program} {w : World} {K : PySem.W.Frag} {mg : Str → Option Value} {base : Heap}
theorem ok_is_tuple (T : Tx K mg)  {f : Addr} {fd : FuncData} (F : Here K mg "is_tuple" s_is_tuple ["thing", "least", "most"] f fd) : Cal P w K mg base "is_tuple" 1 ["thing", "least", "most"] (sp_is_tuple K) s_is_tuple f fd := by
  refine F.cal sc_is_tuple (fun vs H Q E h => ?_) (fun cdv A outer s H vs Q E hr h => ?_)
  · obtain ⟨S, v, o, lo, hi, rfl, _⟩ := h
    rfl
  · obtain ⟨S, v, o, lo, hi, rfl, r, q⟩ := h
    refine ⟨_, (pss_one (ps_ret (pe_and (pe_callB (cr_isiK (K := K)) (by rfl) T.m_isinstance (by decide +kernel) (pa_cons (pv 0) (pa_cons (pe_bltn (v := .ty "tuple") (by rfl) T.m_tuple (by decide +kernel) rfl) pa_nil))) (pe_one (pe_chain op_le op_le (pv 1) (pe_callB (cr_lenK (K := K)) (by rfl) T.m_len (by decide +kernel) (pa_cons (pv 0) pa_nil)) (pv 2)))))), ?_⟩
    cases r with
    | @tup a xs os ha na t =>
      have el := t.length
      walk_at "st"
      rw [el]
      refine r_ite (fun h => ?_) (fun h => ?_)
      · walk_at "st"
        have e : tupleO lo hi (.tup os) = decide ((os.length : Int) ≤ hi) := by
          show (decide _ && _) = _
          rw [decide_eq_true h]; rfl
        rw [e] at q
        exact q
      · have e : tupleO lo hi (.tup os) = false := by
          show (decide _ && _) = _
          rw [decide_eq_false h]; rfl
        rw [e] at q
        exact q
    | _ => (walk_at "st"; exact q)
theorem ok_is_term (T : Tx K mg) {f_is_tuple : Addr} {fd_is_tuple : FuncData} (C_is_tuple : Cal P w K mg base "is_tuple" 1 ["thing", "least", "most"] (sp_is_tuple K) s_is_tuple f_is_tuple fd_is_tuple) {f_is_place : Addr} {fd_is_place : FuncData} (C_is_place : Cal P w K mg base "is_place" 2 ["thing"] (sp_is_place K) s_is_place f_is_place fd_is_place) {f_is_number : Addr} {fd_is_number : FuncData} (C_is_number : Cal P w K mg base "is_number" 2 ["thing", "p"] (sp_is_number K) s_is_number f_is_number fd_is_number) {f : Addr} {fd : FuncData} (F : Here K mg "is_term" s_is_term ["thing", "p"] f fd) : Cal P w K mg base "is_term" 3 ["thing", "p"] (sp_is_term K) s_is_term f fd := by
  refine F.cal sc_is_term (fun vs H Q E h => ?_) (fun cdv A outer s H vs Q E hr h => ?_)
  · obtain ⟨S, v, o, p, rfl, _⟩ := h
    rfl
  · obtain ⟨S, v, o, p, rfl, r, sm0, q⟩ := h
    refine ⟨_, (pss_one (ps_ret (pe_and (pe_call C_is_tuple.ok (hr.mono (by decide)) (by rfl) C_is_tuple.at_ C_is_tuple.kp C_is_tuple.b .nil pass0 (pa_cons (pv 0) (pa_cons pe_int (pa_cons pe_int pa_nil)))) (pe_and (pe_call C_is_place.ok (hr.mono (by decide)) (by rfl) C_is_place.at_ C_is_place.kp C_is_place.b .nil pass0 (pa_cons (pe_ix (ix_tupK (K := K)) (pv 0) pe_int (fun _ _ => rfl)) pa_nil)) (pe_and (pe_call C_is_number.ok (hr.mono (by decide)) (by rfl) C_is_number.at_ C_is_number.kp C_is_number.b .nil pass0 (pa_cons (pe_ix (ix_tupK (K := K)) (pv 0) pe_int (fun _ _ => rfl)) (pa_cons (pv 1) pa_nil))) (pe_one (pe_cmpR op_ne (pe_ix (ix_tupK (K := K)) (pv 0) pe_int (fun _ _ => rfl)) pe_int (nomark _)))))))), ?_⟩
    walk_at "st"
    refine ⟨S, v, o, 2, 2, rfl, r, ?_⟩
    cases h2 : tupleO 2 2 o with
    | false =>
      walk_at "st"
      have := q H (Same.refl _)
      rw [term_not h2] at this
      exact this
    | true =>
      obtain ⟨a, b, rfl⟩ := tuple2 h2
      obtain ⟨x, va, vb, rfl, hx, nx, ra, rb⟩ := r.pair
      have e0 : termO p (.tup [a, b]) = (placeO a && (numO p b && nz b)) := rfl
      walk_at "st"
      refine ⟨S, va, a, rfl, ra, sm0, fun H1 sm1 => ?_⟩
      have hx1 := sm1 _ _ hx
      cases h3 : placeO a with
      | false =>
        walk_at "st"
        have := q H1 sm1
        rw [e0, h3] at this
        exact this
      | true =>
        walk_at "st"
        refine ⟨S, vb, b, p, rfl, rb.to (Lft.same sm1), ?_⟩
        cases h4 : numO p b with
        | false =>
          walk_at "st"
          have := q H1 sm1
          rw [e0, h3, h4] at this
          exact this
        | true =>
          cases rb with
          | int k =>
            walk_at "st"
            have := q H1 sm1
            rw [e0, h3, h4] at this
            have e : (!decide (V.int k = V.int 0)) = nz (.int k) := by
              show _ = !decide (k = 0)
              congr 1
              exact decide_eq_decide.mpr ⟨fun h => by injection h, fun h => by rw [h]⟩
            rw [e]
            exact this
          | _ => simp [numO] at h4
theorem ok_do_rise (T : Tx K mg)  {f : Addr} {fd : FuncData} (F : Here K mg "do_rise" s_do_rise ["things"] f fd) : Cal P w K mg base "do_rise" 1 ["things"] (sp_do_rise K) s_do_rise f fd := by
  refine F.cal sc_do_rise (fun vs H Q E h => ?_) (fun cdv A outer s H vs Q E hr h => ?_)
  · obtain ⟨l, zs, rfl, _⟩ := h
    rfl
  · obtain ⟨l, zs, rfl, hl, lz, q⟩ := h
    refine ⟨_, (pss_one (ps_ret (pe_callB (cr_allK (K := K) rfl) (by rfl) T.m_all (by decide +kernel) (pa_cons (pe_lc rfl sc_do_rise.nd (castPI (K := K) (wi := fun K => iZipA K _) (pi_zipA (by rfl) T.m_zip (pa_cons (pv 0) (pa_cons (pe_slice (sl_listK (K := K)) (pv 0) (po_some pe_int) po_none) pa_nil)))) (blkOk_by (own := [("one", 1), ("other", 2)]) (N := ["things", "one", "other"]) (sc := (defScope s_do_rise)) (by decide +kernel)) (fun _ _ _ _ _ => (castPG (K := K) (n := 2) (pg_tup rfl (pgs_cons (pg_name (i := 1) sc_do_rise.nd rfl (by first | exact .inl rfl | exact .inr rfl)) (pgs_cons (pg_name (i := 2) sc_do_rise.nd rfl (by first | exact .inl rfl | exact .inr rfl)) pgs_nil))))) (fun _ _ _ _ _ => pts_nil) (fun _ _ _ _ _ => (pe_cmpR op_ltS (pv 1) (pv 2) (nomark _)))) pa_nil)))), ?_⟩
    walk_at "st"
    intro p hp
    rw [cut_from1, ← List.map_drop]
    have hl2 := hl_new hl hp (u := .lst ((zs.drop 1).map V.str))
    have hp2 : upd H p (.lst ((zs.drop 1).map V.str)) p = some (.lst ((zs.drop 1).map V.str)) := upd_same
    have S1 : Same H (upd H p (.lst ((zs.drop 1).map V.str))) := Same.upd_new hp
    generalize upd H p (.lst ((zs.drop 1).map V.str)) = H1 at *
    walk_at "st"
    intro D hD
    refine lc_map (walk_zipL (xs := zs.map V.str) (ys := (zs.drop 1).map V.str) rfl) (by rw [List.length_map]; omega) hD (fun i y _ => ∃ b, (List.zipWith (fun x y => decide (cs x < cs y)) zs (zs.drop 1))[i]? = some b ∧ y = .bl b) (fun _ _ _ _ h _ => h) (fun _ _ _ _ _ h _ => h) (fun H' k => ⟨SqL.of (k _ _ hl2), SqL.of (k _ _ hp2)⟩) (fun i H1 x H2 y => ?_)
      (fun i x H1 H2 Y No hi sm y hY => ?_) (fun ys H' el sm eD hys => ?_)
    · obtain ⟨t, x1, y1, rfl, nt, rfl, _⟩ := y
      exact Same.upd_new nt
    · obtain ⟨t, x1, y1, rfl, nt, rfl, e1, e2⟩ := y
      obtain ⟨z1, ez1, rfl⟩ := getElem?_map_str e1
      obtain ⟨z2, ez2, rfl⟩ := getElem?_map_str e2
      refine ⟨t, _, rfl, .inl (.inl upd_same), rfl, _, _, rfl, _, _, rfl, rfl, rfl, ?_⟩
      walk_at "st"
      exact hY _ _ (Same.refl _) ⟨_, by rw [List.getElem?_zipWith, ez1, ez2]; rfl, rfl⟩
    · have e := bools_of (by rw [el, List.length_zipWith, List.length_map, List.length_map]) hys
      rw [e] at eD
      walk_at "st"
      exact q _ (S1.trans sm)
theorem ok_is_form (T : Tx K mg) {f_is_tuple : Addr} {fd_is_tuple : FuncData} (C_is_tuple : Cal P w K mg base "is_tuple" 1 ["thing", "least", "most"] (sp_is_tuple K) s_is_tuple f_is_tuple fd_is_tuple) {f_do_rise : Addr} {fd_do_rise : FuncData} (C_do_rise : Cal P w K mg base "do_rise" 1 ["things"] (sp_do_rise K) s_do_rise f_do_rise fd_do_rise) {f_is_number : Addr} {fd_is_number : FuncData} (C_is_number : Cal P w K mg base "is_number" 2 ["thing", "p"] (sp_is_number K) s_is_number f_is_number fd_is_number) {f_is_term : Addr} {fd_is_term : FuncData} (C_is_term : Cal P w K mg base "is_term" 3 ["thing", "p"] (sp_is_term K) s_is_term f_is_term fd_is_term) {f : Addr} {fd : FuncData} (F : Here K mg "is_form" s_is_form ["thing", "p"] f fd) : Cal P w K mg base "is_form" 4 ["thing", "p"] (sp_is_form K) s_is_form f fd := by
  refine F.cal sc_is_form (fun vs H Q E h => ?_) (fun cdv A outer s H vs Q E hr h => ?_)
  · obtain ⟨S, v, o, p, rfl, _⟩ := h
    rfl
  · obtain ⟨S, v, o, p, rfl, r, sm0, q⟩ := h
    refine ⟨_, (pss_cons (ps_if (pt_not (pt_val (pe_call C_is_tuple.ok (hr.mono (by decide)) (by rfl) C_is_tuple.at_ C_is_tuple.kp C_is_tuple.b .nil pass0 (pa_cons (pv 0) (pa_cons pe_int (pa_cons pe_int pa_nil)))))) (pss_one (ps_ret pe_bl)) pss_nil)
      (pss_cons (ps_asg (pv 0) (castPG (K := K) (n := 2) (pg_tup rfl (pgs_cons (pg_name (i := 2) sc_is_form.nd rfl (by first | exact .inl rfl | exact .inr rfl)) (pgs_cons (pg_name (i := 3) sc_is_form.nd rfl (by first | exact .inl rfl | exact .inr rfl)) pgs_nil)))))
      (pss_cons (ps_if (PW.pt (pw_or (pt_not (pt_val (pe_call C_is_number.ok (hr.mono (by decide)) (by rfl) C_is_number.at_ C_is_number.kp C_is_number.b .nil pass0 (pa_cons (pv 2) (pa_cons (pv 1) pa_nil))))) (pw_or1 (pt_not (pt_val (pe_callB (cr_isiK (K := K)) (by rfl) T.m_isinstance (by decide +kernel) (pa_cons (pv 3) (pa_cons (pe_bltn (v := .ty "tuple") (by rfl) T.m_tuple (by decide +kernel) rfl) pa_nil)))))))) (pss_one (ps_ret pe_bl)) pss_nil)
      (pss_one (ps_ret (pe_and (pe_callB (cr_allK (K := K) rfl) (by rfl) T.m_all (by decide +kernel) (pa_cons (pe_lc rfl sc_is_form.nd (pi_tupK (K := K) (pv 3)) (blkOk_by (own := [("term", 4)]) (N := ["thing", "p", "n", "terms", "term", "place", "_"]) (sc := (defScope s_is_form)) (by decide +kernel)) (fun _ _ _ _ _ => (pg_name (i := 4) sc_is_form.nd rfl (by first | exact .inl rfl | exact .inr rfl))) (fun _ _ _ _ _ => pts_nil) (fun _ _ _ _ _ => (pe_call C_is_term.ok (hr.mono (by decide)) (by rfl) C_is_term.at_ C_is_term.kp C_is_term.b .nil pass0 (pa_cons (pv 4) (pa_cons (pv 1) pa_nil))))) pa_nil)) (pe_one (pe_call C_do_rise.ok (hr.mono (by decide)) (by rfl) C_do_rise.at_ C_do_rise.kp C_do_rise.b .nil pass0 (pa_cons (pe_lc rfl sc_is_form.nd (pi_tupK (K := K) (pv 3)) (blkOk_by (own := [("place", 5), ("_", 6)]) (N := ["thing", "p", "n", "terms", "term", "place", "_"]) (sc := (defScope s_is_form)) (by decide +kernel)) (fun _ _ _ _ _ => (castPG (K := K) (n := 2) (pg_tup rfl (pgs_cons (pg_name (i := 5) sc_is_form.nd rfl (by first | exact .inl rfl | exact .inr rfl)) (pgs_cons (pg_name (i := 6) sc_is_form.nd rfl (by first | exact .inl rfl | exact .inr rfl)) pgs_nil))))) (fun _ _ _ _ _ => pts_nil) (fun _ _ _ _ _ => (pv 5))) pa_nil))))))))), ?_⟩
    walk_at "st"
    walk_at "if"
    refine ⟨S, v, o, 2, 2, rfl, r, ?_⟩
    cases h2 : tupleO 2 2 o with
    | false =>
      walk_at "st"
      have := q H (Same.refl _)
      rw [form_not h2] at this
      exact this
    | true =>
      obtain ⟨n, t, rfl⟩ := tuple2 h2
      obtain ⟨x, vn, vt, rfl, hx, nx, rn, rt⟩ := r.pair
      walk_at "st"
      walk_at "if"
      refine ⟨S, vn, n, p, rfl, rn, ?_⟩
      cases h3 : numO p n with
      | false =>
        walk_at "st"
        have := q H (Same.refl _)
        have e : formO p (.tup [n, t]) = false := by
          cases t with
          | tup ts => show (numO p n && _) = false; rw [h3]; rfl
          | _ => rfl
        rw [e] at this
        exact this
      | true =>
        have no : (∀ ts, t ≠ .tup ts) → formO p (.tup [n, t]) = false := fun z => by
          cases t with
          | tup ts => exact absurd rfl (z ts)
          | _ => rfl
        cases rt with
        | @tup b us ts hb nb tt =>
          have lts : ts.length ≤ 1000 := sm0.1
          have el := tt.length
          have e0 : formO p (.tup [n, .tup ts]) = (ts.all (termO p) && riseL (ts.map keyO)) := by
            show (numO p n && _) = _
            rw [h3]; rfl
          walk_at "st"
          intro D hD
          refine lc_map (walk_tup (xs := us)) (by omega) hD (fun i y _ => ∃ b, (ts.map (termO p))[i]? = some b ∧ y = .bl b) (fun _ _ _ _ h _ => h) (fun _ _ _ _ _ h _ => h) (fun H' k => SqT.of (k _ _ hb)) (fun i H1 x H2 y => by rw [y.1]; exact Same.refl _)
            (fun i x H1 H2 Y No hi sm y hY => ?_) (fun ys H' ely sm eD hys => ?_)
          · obtain ⟨rfl, ex⟩ := y
            obtain ⟨o', eo, ro⟩ := tt.get ex
            refine ⟨rfl, ?_⟩
            walk_at "st"
            refine ⟨S, x, o', p, rfl, ro.to (Lft.same sm), sm0.2 o' (List.mem_of_getElem? eo), fun H3 sm3 => ?_⟩
            exact hY _ _ sm3 ⟨_, by rw [List.getElem?_map, eo]; rfl, rfl⟩
          · have e := bools_of (by rw [ely, el, List.length_map]) hys
            rw [e] at eD
            have hb2 := sm _ _ hb
            walk_at "st"
            have ea : ((ts.map (termO p)).all id) = ts.all (termO p) := by rw [List.all_map]; rfl
            rw [ea]
            cases h5 : ts.all (termO p) with
            | false =>
              walk_at "st"
              have := q H' sm
              rw [e0, h5] at this
              exact this
            | true =>
              have good : ∀ t ∈ ts, ∃ z k, t = .tup [.str z, .int k] := fun t m => by
                have g := List.all_eq_true.mp h5 t m
                cases t with
                | tup os =>
                  match os, g with
                  | [a, b], g =>
                    have g : (placeO a && (numO p b && nz b)) = true := g
                    simp only [Bool.and_eq_true] at g
                    cases a with
                    | str z =>
                      cases b with
                      | int k => exact ⟨z, k, rfl⟩
                      | _ => simp [numO] at g
                    | _ => simp [placeO] at g
                  | [], g => cases g
                  | [_], g => cases g
                  | _ :: _ :: _ :: _, g => cases g
                | _ => cases g
              walk_at "st"
              intro D2 hD2
              refine lc_map (walk_tup (xs := us)) (by omega) hD2 (fun i y _ => ∃ z, (ts.map keyO)[i]? = some z ∧ y = .str z) (fun _ _ _ _ h _ => h) (fun _ _ _ _ _ h _ => h) (fun H' k => SqT.of (k _ _ hb2)) (fun i H1 x H2 y => by rw [y.1]; exact Same.refl _)
                (fun i x H1 H2 Y No hi sm2 y hY => ?_) (fun ys2 H2 ely2 sm2 eD2 hys2 => ?_)
              · obtain ⟨rfl, ex⟩ := y
                obtain ⟨o', eo, ro⟩ := tt.get ex
                obtain ⟨z, k, rfl⟩ := good o' (List.mem_of_getElem? eo)
                obtain ⟨y2, vz, vk, rfl, hy2, _, rz, rk⟩ := ro.pair
                cases rz
                cases rk
                have hy3 := sm2 _ _ (sm _ _ hy2)
                refine ⟨y2, _, rfl, SqT.of hy3, rfl, ?_⟩
                walk_at "st"
                refine ⟨rfl, ?_⟩
                walk_at "st"
                exact hY _ _ (Same.refl _) ⟨z, by rw [List.getElem?_map, eo]; rfl, rfl⟩
              · have e2 : ys2 = (ts.map keyO).map V.str := by
                  apply List.ext_getElem?
                  intro i
                  cases e : ys2[i]? with
                  | none =>
                    rw [List.getElem?_eq_none_iff] at e
                    rw [List.getElem?_eq_none_iff.mpr (by rw [List.length_map, List.length_map]; omega)]
                  | some y =>
                    obtain ⟨z, h1, rfl⟩ := hys2 i y e
                    rw [List.getElem?_map, h1]; rfl
                subst e2
                walk_at "st"
                refine ⟨D2, ts.map keyO, rfl, eD2, by rw [List.length_map]; exact lts, fun H3 sm3 => ?_⟩
                have := q H3 ((sm.trans sm2).trans sm3)
                rw [e0, h5] at this
                exact this
        | _ =>
          (have := q H (Same.refl _)
           rw [no fun ts z => by cases z] at this
           walk_at "st"
           exact this)
end
/-! ### texts of forms, by their codes -/
abbrev Sx (a : List Nat) : Str := SX.S a
theorem Sx_cs (z : Str) : Sx (cs z) = z := SX.S_tl z
theorem cs_Sx (a : List Nat) : cs (Sx a) = a := rfl
theorem Sx_len (a : List Nat) : (Sx a).length = a.length := SX.S_len a
def digC (c : Nat) : Bool := decide (48 ≤ c) && decide (c ≤ 57)
def numC (n : Int) : List Nat := TL.numL n.toNat
def termC (x : Tr) : List Nat := (if x.2 = 1 then [] else numC x.2) ++ cs x.1
def partsC (n : Int) (ts : List Tr) : List (List Nat) := (if n ≠ 0 ∨ ts = [] then [numC n] else []) ++ ts.map termC
def textC (n : Int) (ts : List Tr) : List Nat := TL.joinL [43] (partsC n ts)
/-- a number that is told by figures, at most so many, none with a 0 ahead of others -/
def figC (a : List Nat) (m : Int) : Option Int :=
  if (1 ≤ a.length ∧ (a.length : Int) ≤ m) ∧ a.all digC = true ∧ ¬ (a.head? = some 48 ∧ 1 < a.length) then some ((NumText.digitsVal a : Nat) : Int) else none
def optV : Option Int → V
  | none => .non
  | some n => .int n
def optO : Option Int → O
  | none => .non
  | some n => .int n
theorem digC_iff (c : Nat) : digC c = decide (c ∈ cs "0123456789") := by
  have e : cs "0123456789" = [48, 49, 50, 51, 52, 53, 54, 55, 56, 57] := by decide
  rw [e]
  unfold digC
  by_cases h : 48 ≤ c ∧ c ≤ 57
  · have : c = 48 ∨ c = 49 ∨ c = 50 ∨ c = 51 ∨ c = 52 ∨ c = 53 ∨ c = 54 ∨ c = 55 ∨ c = 56 ∨ c = 57 := by omega
    rcases this with h | h | h | h | h | h | h | h | h | h <;> subst h <;> decide
  · have h1 : (decide (48 ≤ c) && decide (c ≤ 57)) = false := by
      rw [Bool.and_eq_false_iff]
      by_cases d : 48 ≤ c
      · exact .inr (decide_eq_false fun z => h ⟨d, z⟩)
      · exact .inl (decide_eq_false d)
    rw [h1]
    symm
    refine decide_eq_false fun m => ?_
    simp at m
    omega
theorem numC_digits (n : Int) : (numC n).all digC = true := by
  refine List.all_eq_true.mpr fun c m => ?_
  have := TL.numL_digits n.toNat c m
  unfold digC
  rw [decide_eq_true this.1, decide_eq_true this.2]; rfl
theorem numC_ne (n : Int) : numC n ≠ [] := TL.numL_ne _
theorem numC_val {n : Int} (h : 0 ≤ n) : ((NumText.digitsVal (numC n) : Nat) : Int) = n := by
  unfold numC; rw [TL.numL_val]; omega
theorem numC_len {n p : Int} (h0 : 0 ≤ n) (h : n < p) (hp : p < 1000) : (numC n).length ≤ (numC p).length := by
  have key : ((List.range 1000).all fun k => decide ((TL.numL k).length = if k < 10 then 1 else if k < 100 then 2 else 3)) = true := by decide +kernel
  have f : ∀ k : Int, 0 ≤ k → k < 1000 → (numC k).length = if k < 10 then 1 else if k < 100 then 2 else 3 := fun k a b => by
    have := of_decide_eq_true (List.all_eq_true.mp key k.toNat (List.mem_range.mpr (by omega)))
    unfold numC
    rw [this]
    by_cases c : k < 10
    · rw [if_pos c, if_pos (by omega)]
    · rw [if_neg c, if_neg (by omega)]
      by_cases d : k < 100
      · rw [if_pos d, if_pos (by omega)]
      · rw [if_neg d, if_neg (by omega)]
  rw [f n h0 (by omega), f p (by omega) hp]
  (repeat' split) <;> omega
theorem numC_head {n : Int} (h0 : 0 ≤ n) (hp : n < 1000) : ¬ ((numC n).head? = some 48 ∧ 1 < (numC n).length) := by
  have key : ((List.range 1000).all fun k => !(decide ((TL.numL k).head? = some 48) && decide (1 < (TL.numL k).length))) = true := by decide +kernel
  have := List.all_eq_true.mp key n.toNat (List.mem_range.mpr (by omega))
  rintro ⟨h1, h2⟩
  unfold numC at h1 h2
  rw [decide_eq_true h1, decide_eq_true h2] at this
  exact absurd this (by decide)
theorem fig_num {n p : Int} (h0 : 0 ≤ n) (h : n < p) (hp : p < 1000) : figC (numC n) (numC p).length = some n := by
  unfold figC
  rw [if_pos ⟨⟨List.length_pos_iff.mpr (numC_ne n), by have := numC_len h0 h hp; omega⟩, numC_digits n, numC_head h0 (by omega)⟩, numC_val h0]
theorem good_head {w : List Nat} (h : goodW w) : ∃ c r, w = c :: r ∧ digC c = false ∧ c ≠ 43 := by
  obtain ⟨_, _, ⟨c, r, e, hc⟩, _⟩ := h
  have key : lettersL.all (fun c => !digC c && decide (c ≠ 43)) = true := by decide +kernel
  have := List.all_eq_true.mp key c hc
  rw [Bool.and_eq_true, Bool.not_eq_true', decide_eq_true_eq] at this
  exact ⟨c, r, e, this.1, this.2⟩
theorem good_plus {w : List Nat} (h : goodW w) : 43 ∉ w := fun m => by
  have key : signsL.all (fun c => decide (c ≠ 43)) = true := by decide +kernel
  exact absurd rfl (of_decide_eq_true (List.all_eq_true.mp key 43 (h.2.2.2 43 m)))
theorem num_plus (n : Int) : 43 ∉ numC n := TL.numL_free (.inl (by decide))
theorem drop_term {a w : List Nat} (ha : a.all digC = true) (hw : goodW w) : (a ++ w).dropWhile digC = w ∧ (a ++ w).takeWhile digC = a := by
  obtain ⟨c, r, e, hc, _⟩ := good_head hw
  induction a with
  | nil =>
    rw [List.nil_append, e, List.dropWhile_cons, List.takeWhile_cons, hc]
    exact ⟨rfl, rfl⟩
  | cons d a ih =>
    rw [List.all_cons, Bool.and_eq_true] at ha
    rw [List.cons_append, List.dropWhile_cons, List.takeWhile_cons, ha.1]
    have := ih ha.2
    exact ⟨this.1, by rw [if_pos rfl, this.2]⟩
/-- what a part tells -/
def partC (a : List Nat) (m : Int) : Str × Option Int := (Sx (a.dropWhile digC), if a.takeWhile digC = [] then some 1 else figC (a.takeWhile digC) m)
theorem part_term {p : Int} {x : Tr} (hx : goodW (cs x.1) ∧ 1 ≤ x.2 ∧ x.2 < p) (hp : p < 1000) : partC (termC x) (numC p).length = (x.1, some x.2) := by
  unfold partC termC
  by_cases c : x.2 = 1
  · rw [if_pos c]
    obtain ⟨h1, h2⟩ := drop_term (a := []) (w := cs x.1) rfl hx.1
    rw [List.nil_append] at h1 h2 ⊢
    rw [h1, h2, if_pos rfl, Sx_cs, c]
  · rw [if_neg c]
    obtain ⟨h1, h2⟩ := drop_term (numC_digits x.2) hx.1
    rw [h1, h2, if_neg (numC_ne _), Sx_cs, fig_num (by omega) hx.2.2 hp]
theorem term_fig {p : Int} {x : Tr} (hx : goodW (cs x.1)) (m : Int) : figC (termC x) m = none := by
  unfold figC
  rw [if_neg]
  rintro ⟨_, h, _⟩
  obtain ⟨c, r, e, hc, _⟩ := good_head hx
  have : digC c = true := List.all_eq_true.mp h c (by unfold termC; rw [e]; exact List.mem_append_right _ List.mem_cons_self)
  rw [hc] at this; cases this
theorem parts_ne (n : Int) (ts : List Tr) : partsC n ts ≠ [] := by
  unfold partsC
  by_cases c : n ≠ 0 ∨ ts = []
  · rw [if_pos c]; simp
  · rw [if_neg c]
    cases ts with
    | nil => exact absurd (.inr rfl) c
    | cons x ts => simp
theorem parts_free {n : Int} {ts : List Tr} (h : ∀ x ∈ ts, goodW (cs x.1)) : ∀ p ∈ partsC n ts, 43 ∉ p := fun p m => by
  unfold partsC at m
  rcases List.mem_append.mp m with m | m
  · split at m
    · rw [List.mem_singleton.mp m]; exact num_plus n
    · cases m
  · obtain ⟨x, hx, rfl⟩ := List.mem_map.mp m
    intro z
    unfold termC at z
    rcases List.mem_append.mp z with z | z
    · split at z
      · cases z
      · exact num_plus _ z
    · exact good_plus (h x hx) z
theorem split_text {n : Int} {ts : List Tr} (h : ∀ x ∈ ts, goodW (cs x.1)) : TL.spl [43] 0 [] (textC n ts) = partsC n ts := TL.spl_join (parts_ne n ts) (parts_free h)
/-- what a text tells: a number and pairs -/
def readC (a : List Nat) (m : Int) : Int × List (Str × Option Int) :=
  match TL.spl [43] 0 [] a with
  | [] => (0, [])
  | x :: r => match figC x m with
    | none => (0, (x :: r).map fun y => partC y m)
    | some n => (n, r.map fun y => partC y m)
theorem read_text {p n : Int} {ts : List Tr} (h : FormOk p n ts) (hp : p < 1000) : readC (textC n ts) (numC p).length = (n, ts.map fun x => (x.1, some x.2)) := by
  unfold readC
  rw [split_text fun x m => (h.ok.ok x m).1]
  unfold partsC
  have e : (ts.map termC).map (fun y => partC y (numC p).length) = ts.map fun x => (x.1, some x.2) := by
    rw [List.map_map]
    exact List.map_congr_left fun x m => part_term (h.ok.ok x m) hp
  by_cases c : n ≠ 0 ∨ ts = []
  · rw [if_pos c]
    show (match figC (numC n) (numC p).length with | none => _ | some n => _) = _
    rw [fig_num h.num.1 h.num.2 hp]
    show (n, (ts.map termC).map _) = _
    rw [e]
  · rw [if_neg c]
    have n0 : n = 0 := by
      by_cases z : n = 0
      · exact z
      · exact absurd (.inl z) c
    cases ts with
    | nil => exact absurd (.inr rfl) c
    | cons x ts =>
      show (match figC (termC x) (numC p).length with | none => _ | some n => _) = _
      rw [term_fig (p := p) (h.ok.ok x List.mem_cons_self).1]
      rw [n0]
      exact congrArg (Prod.mk (0 : Int)) e
theorem text_inj {p n m : Int} {ts us : List Tr} (h : FormOk p n ts) (k : FormOk p m us) (hp : p < 1000) (e : textC n ts = textC m us) : n = m ∧ ts = us := by
  have h1 := read_text h hp
  rw [e, read_text k hp] at h1
  injection h1 with h1 h2
  refine ⟨h1.symm, ?_⟩
  have inj : ∀ {a b : List Tr}, (a.map fun x => (x.1, some x.2)) = (b.map fun x => (x.1, some x.2)) → a = b := fun {a} => by
    induction a with
    | nil => intro b e; cases b with
      | nil => rfl
      | cons _ _ => simp at e
    | cons x a ih => intro b e; cases b with
      | nil => simp at e
      | cons y b =>
        rw [List.map_cons, List.map_cons] at e
        injection e with e1 e2
        injection e1 with e3 e4
        rw [ih e2, show x = y from Prod.ext e3 (Option.some.inj e4)]
  exact (inj h2).symm
local macro_rules | `(tactic| walk_at "ssz") => `(tactic| first | decide | exact str_small (by assumption) | (have : (1000000 : Nat) ≤ sizeLine := (by decide); omega))
local macro_rules | `(tactic| walk_at "st1") => `(tactic| first
  | with_reducible refine' r_nt ?_ | with_reducible refine' r_nf ?_
  | ((with_reducible refine r_lenS ?e1 ?_); (case e1 => walk_at "ssz"))
  | with_reducible refine r_inS ?_
  | with_reducible refine r_ninS ?_
  | ((with_reducible refine r_addS ?e1 ?_); (case e1 => walk_at "ssz"))
  | ((with_reducible refine' r_ixS ?e1 ?e2 ?_); (case e1 => walk_at "ssz"); (case e2 => first | assumption | rfl))
  | with_reducible refine r_istr ?_
  | with_reducible refine r_is ?_
  | with_reducible refine r_un ?_
  | with_reducible refine r_u ?_)
local macro_rules | `(tactic| walk_at "st1") => `(tactic| first
  | with_reducible refine r_par ?_
  | with_reducible refine r_parx ?_
  | ((with_reducible refine' r_gtup ?e1 ?e2 ?_); (case e1 => walk_at "sq"); (case e2 => rfl))
  | with_reducible refine r_gcons ?_
  | with_reducible refine r_gnil ?_
  | with_reducible refine r_disp ?_
  | with_reducible refine r_tp1 ?_
  | with_reducible refine r_tp0 ?_
  | ((with_reducible refine' r_dp1 ?e1 ?_); (case e1 => walk_at "hl"))
  | with_reducible refine r_dnewK ?_
  | with_reducible refine r_dget2 ?_
  | ((with_reducible refine' r_dg2 ?e1 ?_); (case e1 => walk_at "hl"))
  | ((with_reducible refine' r_dg3 ?e1 ?_); (case e1 => walk_at "hl"))
  | with_reducible refine r_dget ?_
  | ((with_reducible refine' r_dgv ?e1 ?e2 ?_); (case e1 => walk_at "hl"); (case e2 => assumption))
  | ((with_reducible refine' r_setD ?e1 ?e2 ?_); (case e1 => walk_at "hl"); (case e2 => omega)))
def tTru (K : PySem.W.Frag) (ta : TE) : TT := fun σ H Q => ta σ H fun x H' => ∃ k, TruV K x H' k ∧ Q k H'
theorem pt_truthK {X : Cx} {K : PySem.W.Frag} {a : Expr} {ta : TE} (ha : PE X a ta) (he : ∀ whole, isTrue a X.env whole = (do let v ← whole; standAt a.pos; holding [v] (truthy v))) (q : X.K = K := by rfl) : PT X a (tTru K ta) := q ▸ pt_truth ha he
def rIntS : List V → Hp → VK → Prop := fun xs H Q => ∃ a n, xs = [.str a] ∧ PySem.intText? a = some n ∧ a.length ≤ 640 ∧ Q (.int n) H
theorem cr_intS {X : Cx} : CallR X (.type "int") rIntS := call_int_str
def rLstC : V → List V → Hp → VK → Prop := fun x xs H Q => ∃ a b, x = .str a ∧ xs = [.str b] ∧ a.length ≤ sizeLine ∧ Q (.str (Txt.lstripChars a b)) H
def rSplS : V → List V → Hp → VK → Prop := fun x xs H Q => ∃ a b, x = .str a ∧ xs = [.str b] ∧ (b.length == 0) = false ∧ a.length + 2 ≤ sizeLine ∧ ∀ p, H p = none → Q (.ref p) (upd H p (.lst ((Txt.split a b).map V.str)))
theorem mt_lstK {X : Cx} : MtR X "str.lstrip" rLstC := mt_lstripChars
theorem mt_splK {X : Cx} : MtR X "str.split" rSplS := mt_split
def rSlTx : V → Option Int → Option Int → Hp → VK → Prop := fun x lo hi H Q => ∃ z, x = .str z ∧ z.length ≤ sizeLine ∧ Q (.str (Txt.slice z lo hi)) H
theorem sl_txtK {X : Cx} : SlR X rSlTx := C8.sl_txt
theorem take_tw (f : Nat → Bool) : ∀ a : List Nat, a.take (a.takeWhile f).length = a.takeWhile f
  | [] => rfl
  | c :: a => by
    rw [List.takeWhile_cons]
    cases f c with
    | true => rw [if_pos rfl, List.length_cons, List.take_succ_cons, take_tw f a]
    | false => rw [if_neg (by decide)]; rfl
theorem numC_of {p : Int} (h : 0 ≤ p) : (toString p : Str) = Sx (numC p) := by
  obtain ⟨n, rfl⟩ := Int.eq_ofNat_of_zero_le h
  exact SX.num_S n
theorem log_small {p : Int} (h0 : 0 ≤ p) (h : p ≤ 1000000) : p.natAbs.log2 < 1920 := by
  have h1 : p.natAbs < 2 ^ 20 := by
    have : (2 : Nat) ^ 20 = 1048576 := by decide
    omega
  by_cases c : p.natAbs = 0
  · rw [c]; decide
  · exact Nat.lt_of_lt_of_le ((Nat.log2_lt c).mpr h1) (by decide)
theorem numC_le {p : Int} (h : p ≤ 1000000) : (numC p).length ≤ 7 := by
  have e : (10 : Nat) ^ 7 = 10000000 := by decide
  exact TL.numL_len (by decide) (by rw [e]; omega)
theorem drop_tw (f : Nat → Bool) : ∀ a : List Nat, a.drop (a.takeWhile f).length = a.dropWhile f
  | [] => rfl
  | c :: a => by
    rw [List.takeWhile_cons, List.dropWhile_cons]
    cases f c with
    | true => rw [if_pos rfl, if_pos rfl, List.length_cons, List.drop_succ_cons, drop_tw f a]
    | false => rw [if_neg (by decide), if_neg (by decide)]; rfl
theorem lstrip_S (a b : List Nat) : Txt.lstripChars (SX.S a) (SX.S b) = SX.S (a.dropWhile fun c => decide (c ∈ b)) := by
  have e0 : (fun c => (SX.S b).cps.contains c) = fun c => decide (c ∈ b) := by
    funext c
    rw [Array.contains_eq_mem]
    exact decide_eq_decide.mpr ⟨fun h => by simpa [SX.S] using h, fun h => by simpa [SX.S] using h⟩
  unfold Txt.lstripChars
  rw [show (SX.S b).cps.contains = fun c => (SX.S b).cps.contains c from rfl, e0, PyProof.Rows.stripBy_eq]
  have e1 : stripLo (fun c => decide (c ∈ b)) true (SX.S a) = (a.takeWhile fun c => decide (c ∈ b)).length := by
    unfold stripLo
    rw [if_pos rfl]
  have e2 : stripHi (fun c => decide (c ∈ b)) false (SX.S a) (stripLo (fun c => decide (c ∈ b)) true (SX.S a)) = a.length := by
    unfold stripHi
    rw [if_neg (by decide)]
    exact SX.S_len a
  rw [e2, e1]
  refine TL.ext_tl ?_
  show ((SX.S a).cps.extract _ _).toList = _
  rw [Array.toList_extract]
  show (a.drop _).take _ = a.dropWhile _
  rw [← List.length_drop, List.take_length]
  exact drop_tw _ a
def rJoin (K : PySem.W.Frag) : V → List V → Hp → VK → Prop := fun x xs H Q => ∃ a p, ∃ ys : List Str, x = .str a ∧ xs = [.ref p] ∧ (SqL K H p (ys.map V.str) ∨ SqT K H p (ys.map V.str)) ∧ (ys.map (·.length)).sum + ys.length * a.length ≤ 16777216 ∧ Q (.str (Txt.join a ys)) H
theorem castM1 {X : Cx} {K : PySem.W.Frag} {e : Expr} {to te : TE} (h : PE X e (tM1 (rJoin X.K) to te)) (q : X.K = K := by rfl) : PE X e (tM1 (rJoin K) to te) := q ▸ h
def rIsNn : R2 := fun x y H Q => y = .non ∧ Q (.bl (decide (x = .non))) H
theorem op_isNn {X : Cx} : OpR X (compareOp .Is) rIsNn := op_isN
section
variable {K : PySem.W.Frag} {σ : L2.St} {H : Hp} {Q : VK}
theorem r_tru {ta : TE} {R : Bool → Hp → Prop} (h : ta σ H fun x H' => ∃ k, TruV K x H' k ∧ R k H') : tTru K ta σ H R := h
theorem r_truT {p : Addr} {xs : List V} {R : Bool → Prop} (h : SqT K H p xs) (q : R (!xs.isEmpty)) : ∃ k, TruV K (.ref p) H k ∧ R k := ⟨_, .inr (.inl ⟨xs, h, rfl⟩), q⟩
theorem r_tyS {z : Str} {A : Prop} (q : A) : tyV K "str" (.str z) H ∧ A := ⟨(rfl : "str" = "str"), q⟩
theorem r_lstC {a b : List Nat} (h : a.length ≤ 1000000) (q : Q (.str (Sx (a.dropWhile fun c => decide (c ∈ b)))) H) : rLstC (.str (Sx a)) [.str (Sx b)] H Q := ⟨_, _, rfl, rfl, by rw [Sx_len]; exact Nat.le_trans h (by decide), by rw [lstrip_S]; exact q⟩
theorem r_slTo {a : List Nat} {i : Int} (h : a.length ≤ 1000000) (h0 : 0 ≤ i) (q : Q (.str (Sx (a.take i.toNat))) H) : rSlTx (.str (Sx a)) none (some i) H Q := ⟨_, rfl, by rw [Sx_len]; exact Nat.le_trans h (by decide), by rw [SX.slice_to h0]; exact q⟩
theorem r_strC {i : Int} (h : 0 ≤ i ∧ i ≤ 1000000) (q : Q (.str (Sx (numC i))) H) : rStrOf [.int i] H Q := ⟨i, rfl, log_small h.1 h.2, by rw [numC_of h.1]; exact q⟩
theorem r_m1 {r : V → List V → Hp → VK → Prop} {to te : TE} (h : to σ H fun x H1 => (∃ a, x = .str a) ∧ te σ H1 fun y H2 => r x [y] H2 Q) : tM1 r to te σ H Q := h
theorem r_sx {z : Str} {B : Prop} (h : B) : (∃ a, V.str z = .str a) ∧ B := ⟨⟨z, rfl⟩, h⟩
theorem r_joinS {a : Str} {p : Addr} {ys : List Str} (h : SqL K H p (ys.map V.str)) (z : (ys.map (·.length)).sum + ys.length * a.length ≤ 16777216) (q : Q (.str (Txt.join a ys)) H) : rJoin K (.str a) [.ref p] H Q := ⟨a, p, ys, rfl, rfl, .inl h, z, q⟩
theorem r_ifG {c : TT} {t u : TE} (J : V → Hp → Prop) (hQ : ∀ x H', J x H' → Q x H') (h : ∀ Q' : VK, (∀ x H', J x H' → Q' x H') → tIf c t u σ H Q') : tIf c t u σ H Q := h Q hQ
theorem r_tjs {t : TE} {ts : List TE} {acc : Str} {R : Str → Hp → Prop} (h : t σ H fun x H1 => ∃ y : Str, x = .str y ∧ (acc ++ y).length ≤ sizeLine ∧ tJs ts (acc ++ y) σ H1 R) : tJs (t :: ts) acc σ H R := h
theorem r_fmtI {te : TE} (h : te σ H fun x H1 => ∃ i, x = .int i ∧ (0 ≤ i ∧ i ≤ 1000000) ∧ Q (.str (Sx (numC i))) H1) (hm : ∀ {Q1 Q2 : VK}, (∀ x H1, Q1 x H1 → Q2 x H1) → te σ H Q1 → te σ H Q2) : tFmt te σ H Q :=
  hm (fun x H1 z => by
    obtain ⟨i, rfl, hi, q⟩ := z
    exact .inr ⟨i, rfl, log_small hi.1 hi.2, by rw [numC_of hi.1]; exact q⟩) h
theorem r_fmtVI {i : Nat} {k : Int} (e : σ[i]? = some (some (.int k))) (hk : 0 ≤ k ∧ k ≤ 1000000) (q : Q (.str (Sx (numC k))) H) : tFmt (tVar i) σ H Q := ⟨_, e, .inr ⟨k, rfl, log_small hk.1 hk.2, by rw [numC_of hk.1]; exact q⟩⟩
theorem r_fmtVS {i : Nat} {z : Str} (e : σ[i]? = some (some (.str z))) (hz : z.length ≤ 1000000) (q : Q (.str z) H) : tFmt (tVar i) σ H Q := ⟨_, e, .inl ⟨z, rfl, Nat.le_trans hz (by decide), q⟩⟩
theorem r_isN {x : V} (q : Q (.bl (decide (x = .non))) H) : rIsNn x .non H Q := ⟨rfl, q⟩
end
local macro_rules | `(tactic| walk_at "st1") => `(tactic| first
  | with_reducible refine r_tru ?_
  | ((with_reducible refine' r_truT ?e1 ?_); (case e1 => walk_at "sq"))
  | with_reducible refine r_isN ?_
  | with_reducible refine r_tyS ?_
  | with_reducible refine r_m1 ?_
  | with_reducible refine r_sx ?_
  | ((with_reducible refine r_strC ?e1 ?_); (case e1 => omega)))
def sp_read_figures (_ : PySem.W.Frag) : Sp := fun vs H Q _ => ∃ (a : List Nat) (m : Int), vs = [.str (Sx a), .int m] ∧ a.length ≤ 1000000 ∧ m ≤ 600 ∧ ∀ H', Same H H' → Q (optV (figC a m)) H'
def sp_term_of (_ : PySem.W.Frag) : Sp := fun vs H Q _ => ∃ (a : List Nat) (p : Int), vs = [.str (Sx a), .int p] ∧ a.length ≤ 1000000 ∧ (2 ≤ p ∧ p ≤ 997) ∧ ∀ (t : Addr) (H' : Hp), Same H H' → H' t = some (.tup [.str (partC a (numC p).length).1, optV (partC a (numC p).length).2]) → Q (.ref t) H'
def sp_form_text (_ : PySem.W.Frag) : Sp := fun vs H Q _ => ∃ (a : Addr) (n : Int) (ts : List Tr), vs = [.ref a] ∧ FrmV H (.ref a) n ts ∧ (0 ≤ n ∧ n ≤ 1000) ∧ (∀ x ∈ ts, (cs x.1).length ≤ 100 ∧ 0 ≤ x.2 ∧ x.2 ≤ 1000) ∧ ts.length ≤ 1000 ∧ ∀ H', Same H H' → Q (.str (Sx (textC n ts))) H'
section
variable {P : Program} {w : World} {K : PySem.W.Frag} {mg : Str → Option Value} {base : Heap}
theorem ok_read_figures (T : Tx K mg) {f_has_only : Addr} {fd_has_only : FuncData} (C_has_only : Cal P w K mg base "has_only" 1 ["text", "signs"] (sp_has_only K) s_has_only f_has_only fd_has_only) {f : Addr} {fd : FuncData} (F : Here K mg "read_figures" s_read_figures ["text", "most"] f fd) : Cal P w K mg base "read_figures" 2 ["text", "most"] (sp_read_figures K) s_read_figures f fd := by
  refine F.cal sc_read_figures (fun vs H Q E h => ?_) (fun cdv A outer s H vs Q E hr h => ?_)
  · obtain ⟨a, m, rfl, _⟩ := h
    rfl
  · obtain ⟨a, m, rfl, ha, hm, q⟩ := h
    refine ⟨_, (pss_cons (ps_if (PW.pt (pw_or (pt_not (pt_chain op_le op_le pe_int (pe_callB cr_lenS (by rfl) T.m_len (by decide +kernel) (pa_cons (pv 0) pa_nil)) (pv 1))) (pw_or1 (pt_not (pt_val (pe_call C_has_only.ok (hr.mono (by decide)) (by rfl) C_has_only.at_ C_has_only.kp C_has_only.b .nil pass0 (pa_cons (pv 0) (pa_cons (pe_glob (v := .str "0123456789") (by rfl) (T.c_FIGURES).choose_spec ⟨_, rfl⟩) pa_nil)))))))) (pss_one (ps_ret pe_non)) pss_nil)
      (pss_cons (ps_if (PW.pt (pw_and (pt_cmpR op_eq (pe_ix ix_str (pv 0) pe_int (fun _ _ => rfl)) pe_str (nomark _)) (pw_and1 (pt_cmpR op_gt (pe_callB cr_lenS (by rfl) T.m_len (by decide +kernel) (pa_cons (pv 0) pa_nil)) pe_int (nomark _))))) (pss_one (ps_ret pe_non)) pss_nil)
      (pss_one (ps_ret (pe_callTy cr_intS (by rfl) T.m_int (by decide +kernel) (pa_cons (pv 0) pa_nil)))))), ?_⟩
    have hla : (Sx a).length ≤ sizeLine := by rw [Sx_len]; exact Nat.le_trans ha (by decide)
    walk_at "st"
    walk_at "if"
    rw [Sx_len]
    have no : figC a m = none → ∀ H', Same H H' → Q .non H' := fun e H' k => by
      have := q H' k
      rw [e] at this
      exact this
    refine r_ite (fun h1 => ?_) (fun h1 => ?_)
    · walk_at "st"
      cases h2 : decide ((a.length : Int) ≤ m) with
      | false =>
        walk_at "st"
        refine no ?_ H (Same.refl _)
        unfold figC
        rw [if_neg fun z => of_decide_eq_false h2 z.1.2]
      | true =>
        have hm2 := of_decide_eq_true h2
        walk_at "st"
        refine ⟨Sx a, _, rfl, by rw [Sx_len]; omega, fun H1 s1 => ?_⟩
        have e1 : onlyIn (Sx a) (Str.ofString "0123456789") = a.all digC := by
          unfold onlyIn
          show (cs (Sx a)).all _ = _
          rw [cs_Sx]
          congr 1
          funext c
          exact (digC_iff c).symm
        rw [e1]
        walk_at "st"
        cases h3 : a.all digC with
        | false =>
          walk_at "st"
          refine no ?_ H1 s1
          unfold figC
          rw [if_neg fun z => by rw [h3] at z; exact absurd z.2.1 (by decide)]
        | true =>
          walk_at "st"
          walk_at "if"
          obtain ⟨c, r, rfl⟩ : ∃ c r, a = c :: r := by
            cases a with
            | nil => simp at h1
            | cons c r => exact ⟨c, r, rfl⟩
          have ix : atI (Sx (c :: r)).cps.toList 0 = some c := (show atI (c :: r) ((0 : Nat) : Int) = some c from atI_nat rfl)
          have yes : ∀ H', Same H H' → ¬ ((c :: r).head? = some 48 ∧ 1 < (c :: r).length) → Q (.int ((NumText.digitsVal (c :: r) : Nat) : Int)) H' := fun H' k z => by
            have := q H' k
            unfold figC at this
            rw [if_pos ⟨⟨by simp, hm2⟩, h3, z⟩] at this
            exact this
          have fin : ∀ H', Same H H' → ¬ ((c :: r).head? = some 48 ∧ 1 < (c :: r).length) → rIntS [.str (Sx (c :: r))] H' Q := fun H' k z =>
            ⟨_, _, rfl, SX.int_S h3 (List.cons_ne_nil _ _) (by omega), by rw [Sx_len]; omega, yes H' k z⟩
          walk_at "st"
          have e2 : decide (V.str ⟨#[c]⟩ = V.str (Str.ofString "0")) = decide (c = 48) := by
            refine decide_eq_decide.mpr ⟨fun z => ?_, fun z => by rw [z]; rfl⟩
            injection z with z
            injection z with z
            have : #[c] = #[48] := z
            simpa using this
          rw [e2]
          refine r_ite (fun h4 => ?_) (fun h4 => ?_)
          · walk_at "st"
            rw [Sx_len]
            refine r_ite (fun h5 => ?_) (fun h5 => ?_)
            · walk_at "st"
              refine no ?_ H1 s1
              unfold figC
              rw [if_neg fun z => z.2.2 ⟨by rw [h4]; rfl, by omega⟩]
            · walk_at "st"
              exact fin H1 s1 fun z => h5 (by have := z.2; omega)
          · walk_at "st"
            exact fin H1 s1 fun z => h4 (Option.some.inj z.1)
    · walk_at "st"
      refine no ?_ H (Same.refl _)
      unfold figC
      rw [if_neg fun z => h1 (by have := z.1.1; omega)]
theorem ok_term_of (T : Tx K mg) {f_read_figures : Addr} {fd_read_figures : FuncData} (C_read_figures : Cal P w K mg base "read_figures" 2 ["text", "most"] (sp_read_figures K) s_read_figures f_read_figures fd_read_figures) {f : Addr} {fd : FuncData} (F : Here K mg "term_of" s_term_of ["part", "p"] f fd) : Cal P w K mg base "term_of" 3 ["part", "p"] (sp_term_of K) s_term_of f fd := by
  refine F.cal sc_term_of (fun vs H Q E h => ?_) (fun cdv A outer s H vs Q E hr h => ?_)
  · obtain ⟨a, p, rfl, _⟩ := h
    rfl
  · obtain ⟨a, p, rfl, ha, hp, q⟩ := h
    refine ⟨_, (pss_cons (ps_set (i := 2) sc_term_of.nd rfl (by first | exact .inl rfl | exact .inr rfl) (castBM (K := K) (pe_bm PySem.F.plainAttrs_str PySem.F.slot_str_lstrip PySem.F.type_str_lstrip mt_lstK (pv 0) (pa_cons (pe_glob (v := .str "0123456789") (by rfl) (T.c_FIGURES).choose_spec ⟨_, rfl⟩) pa_nil))))
      (pss_cons (ps_set (i := 3) sc_term_of.nd rfl (by first | exact .inl rfl | exact .inr rfl) (pe_slice sl_txtK (pv 0) po_none (po_some (pe_op op_sub (pe_callB cr_lenS (by rfl) T.m_len (by decide +kernel) (pa_cons (pv 0) pa_nil)) (pe_callB cr_lenS (by rfl) T.m_len (by decide +kernel) (pa_cons (pv 2) pa_nil))))))
      (pss_one (ps_ret (pe_tup (pa_cons (pv 2) (pa_cons (pe_ifExp (pt_cmpR op_eq (pv 3) pe_str (nomark _)) pe_int (pe_call C_read_figures.ok (hr.mono (by decide)) (by rfl) C_read_figures.at_ C_read_figures.kp C_read_figures.b .nil pass0 (pa_cons (pv 3) (pa_cons (pe_callB cr_lenS (by rfl) T.m_len (by decide +kernel) (pa_cons (pe_callTy cr_strOf (by rfl) T.m_str (by decide +kernel) (pa_cons (pv 1) pa_nil)) pa_nil)) pa_nil)))) pa_nil))))))), ?_⟩
    have hla : (Sx a).length ≤ sizeLine := by rw [Sx_len]; exact Nat.le_trans ha (by decide)
    have eF : Str.ofString "0123456789" = Sx (cs "0123456789") := (Sx_cs _).symm
    have eD : (fun c => decide (c ∈ cs "0123456789")) = digC := by funext c; exact (digC_iff c).symm
    walk_at "st"
    rw [eF]
    refine r_lstC ha ?_
    rw [eD]
    have hd : (a.dropWhile digC).length ≤ a.length := (List.dropWhile_sublist _).length_le
    have lsum : a.length - (a.dropWhile digC).length = (a.takeWhile digC).length := by
      have := congrArg List.length (List.takeWhile_append_dropWhile (p := digC) (l := a))
      rw [List.length_append] at this
      omega
    have hl2 : (Sx (a.dropWhile digC)).length ≤ sizeLine := by rw [Sx_len]; exact Nat.le_trans hd (Nat.le_trans ha (by decide))
    walk_at "st"
    refine r_slTo ha (by rw [Sx_len, Sx_len]; omega) ?_
    rw [Sx_len, Sx_len, show ((a.length : Int) - ((a.dropWhile digC).length : Int)).toNat = (a.takeWhile digC).length by omega]
    have et : a.take (a.takeWhile digC).length = a.takeWhile digC := by
      exact take_tw digC a
    rw [et]
    walk_at "st"
    have e2 : decide (V.str (Sx (a.takeWhile digC)) = V.str (Str.ofString "")) = decide (a.takeWhile digC = []) := by
      refine decide_eq_decide.mpr ⟨fun z => ?_, fun z => by rw [z]; rfl⟩
      injection z with z
      exact SX.S_inj (z.trans (show Str.ofString "" = SX.S [] from rfl))
    rw [e2]
    refine r_ite (fun h4 => ?_) (fun h4 => ?_)
    · walk_at "st"
      intro t ht
      refine q t _ (Same.upd_new ht) ?_
      rw [upd_same]
      unfold partC
      rw [if_pos h4]; rfl
    · have hl3 : (Sx (numC p)).length ≤ sizeLine := by rw [Sx_len]; exact Nat.le_trans (numC_le (by omega)) (by decide)
      walk_at "st"
      rw [Sx_len]
      refine ⟨a.takeWhile digC, _, rfl, by have := (List.takeWhile_sublist (l := a) digC).length_le; omega, by have := numC_le (p := p) (by omega); omega, fun H1 s1 => ?_⟩
      walk_at "st"
      intro t ht
      refine q t _ (s1.trans (Same.upd_new ht)) ?_
      rw [upd_same]
      unfold partC
      rw [if_neg h4]
theorem ok_form_text (T : Tx K mg)  {f : Addr} {fd : FuncData} (F : Here K mg "form_text" s_form_text ["form"] f fd) : Cal P w K mg base "form_text" 1 ["form"] (sp_form_text K) s_form_text f fd := by
  refine F.cal sc_form_text (fun vs H Q E h => ?_) (fun cdv A outer s H vs Q E hr h => ?_)
  · obtain ⟨a, n, ts, rfl, _⟩ := h
    rfl
  · obtain ⟨a, n, ts, rfl, ⟨a, b, us, e1, ha, hb, hts⟩, hn, ht0, lts, q⟩ := h
    cases e1
    refine ⟨_, (pss_cons (ps_asg (pv 0) (castPG (K := K) (n := 2) (pg_tup rfl (pgs_cons (pg_name (i := 1) sc_form_text.nd rfl (by first | exact .inl rfl | exact .inr rfl)) (pgs_cons (pg_name (i := 2) sc_form_text.nd rfl (by first | exact .inl rfl | exact .inr rfl)) pgs_nil)))))
      (pss_cons (ps_set (i := 3) sc_form_text.nd rfl (by first | exact .inl rfl | exact .inr rfl) (pe_ifExp (PW.pt (pw_or (pt_cmpR op_ne (pv 1) pe_int (nomark _)) (pw_or1 (pt_not (pt_truthK (K := K) (pv 2) (by intro _; rfl)))))) (pe_lst (pa_cons (pe_callTy cr_strOf (by rfl) T.m_str (by decide +kernel) (pa_cons (pv 1) pa_nil)) pa_nil)) (pe_lst pa_nil)))
      (pss_one (ps_ret (castM1 (K := K) (pe_join pe_str (pe_op op_cat (pv 3) (pe_lc rfl sc_form_text.nd (pi_tupK (K := K) (pv 2)) (blkOk_by (own := [("place", 4), ("k", 5)]) (N := ["form", "n", "terms", "first", "place", "k"]) (sc := (defScope s_form_text)) (by decide +kernel)) (fun _ _ _ _ _ => (castPG (K := K) (n := 2) (pg_tup rfl (pgs_cons (pg_name (i := 4) sc_form_text.nd rfl (by first | exact .inl rfl | exact .inr rfl)) (pgs_cons (pg_name (i := 5) sc_form_text.nd rfl (by first | exact .inl rfl | exact .inr rfl)) pgs_nil))))) (fun _ _ _ _ _ => pts_nil) (fun _ _ _ _ _ => (pe_ifExp (pt_cmpR op_eq (pv 5) pe_int (nomark _)) (pv 4) (pe_joined (.cons (pe_fmt (pv 5)) (.cons (pe_fmt (pv 4)) .nil))))))))))))), ?_⟩
    repeat ((fail_if_success (with_reducible refine r_ife ?_)); (walk_at "st1"))
    have lus : us.length = ts.length := hts.1
    refine r_ifG (fun x H' => ∃ l, x = .ref l ∧ Same H H' ∧ H' l = some (.lst ((if n ≠ 0 ∨ ts = [] then [numC n] else []).map fun a => V.str (Sx a)))) (fun x H' g => ?_) (fun Q' hQ' => ?_)
    · obtain ⟨l, rfl, s1, el⟩ := g
      have hb1 := s1 _ _ hb
      walk_at "st"
      intro D hD
      have el1 := hl_new el hD (u := .lst [])
      refine lc_map (walk_tup (xs := us)) (by omega) hD (fun i y _ => ∃ x, ts[i]? = some x ∧ y = .str (Sx (termC x))) (fun _ _ _ _ h _ => h) (fun _ _ _ _ _ h _ => h) (fun H'' k => SqT.of (k _ _ hb1)) (fun i H1 x H2 y => by rw [y.1]; exact Same.refl _)
        (fun i x H1 H2 Y No hi sm y hY => ?_) (fun ys H2 ely sm eD hys => ?_)
      · obtain ⟨rfl, ex⟩ := y
        obtain ⟨⟨z, k⟩, ez, t, rfl, ht⟩ := hts.2 i x ex
        have ht2 := sm _ _ (s1 _ _ ht)
        have hx := ht0 _ (List.mem_of_getElem? ez)
        refine ⟨t, _, rfl, SqT.of ht2, rfl, ?_⟩
        walk_at "st"
        refine ⟨rfl, ?_⟩
        walk_at "st"
        have e1 : decide (V.int k = V.int 1) = decide (k = 1) := decide_eq_decide.mpr ⟨fun h => by injection h, fun h => by rw [h]⟩
        rw [e1]
        refine r_ite (fun h => ?_) (fun h => ?_)
        · walk_at "st"
          refine hY _ _ (Same.refl _) ⟨_, ez, ?_⟩
          unfold termC
          rw [if_pos h, List.nil_append, Sx_cs]
        · have hz : z.length ≤ 100 := by rw [← cs_len]; exact hx.1
          have hn7 : (numC k).length ≤ 7 := numC_le (by have := hx.2.2; show k ≤ 1000000; have e : (z, k).2 = k := rfl; omega)
          have sl : (1000000 : Nat) ≤ sizeLine := by decide
          have hz2 : (cs z).length ≤ 100 := hx.1
          refine r_tjs ?_
          refine r_fmtVI (k := k) rfl (by have := hx.2; exact ⟨this.1, by have := this.2; show k ≤ 1000000; have e : (z, k).2 = k := rfl; omega⟩) ?_
          have e3 : Str.empty ++ Sx (numC k) = Sx (numC k) := SX.S_cat [] (numC k)
          refine ⟨_, rfl, by rw [e3, Sx_len]; omega, ?_⟩
          rw [e3]
          refine r_tjs ?_
          refine r_fmtVS (z := z) rfl (by omega) ?_
          have e4 : Sx (numC k) ++ z = Sx (termC (z, k)) := by
            unfold termC
            rw [if_neg h]
            have := SX.S_cat (numC k) (cs z)
            rw [show SX.S (cs z) = z from Sx_cs z] at this
            exact this
          refine ⟨_, rfl, by rw [e4, Sx_len]; unfold termC; rw [if_neg h, List.length_append]; show (numC k).length + (cs z).length ≤ _; omega, ?_⟩
          rw [e4]
          exact hY _ _ (Same.refl _) ⟨_, ez, rfl⟩
      · have e5 : ys = ts.map fun x => V.str (Sx (termC x)) := by
          apply List.ext_getElem?
          intro i
          cases e : ys[i]? with
          | none =>
            rw [List.getElem?_eq_none_iff] at e
            rw [List.getElem?_eq_none_iff.mpr (by rw [List.length_map]; omega)]
          | some y =>
            obtain ⟨x, h1, rfl⟩ := hys i y e
            rw [List.getElem?_map, h1]; rfl
        subst e5
        have el2 := sm _ _ el
        have l1 : ((if n ≠ 0 ∨ ts = [] then [numC n] else []) : List (List Nat)).length ≤ 1 := by split <;> simp
        have sl : (1000000 : Nat) ≤ sizeLine := by decide
        refine r_cat el2 eD (by rw [List.length_map, List.length_map]; omega) fun l3 hl3 => ?_
        have ep : ((if n ≠ 0 ∨ ts = [] then [numC n] else []).map fun a => V.str (Sx a)) ++ (ts.map fun x => V.str (Sx (termC x))) = ((partsC n ts).map Sx).map V.str := by
          unfold partsC
          rw [List.map_append, List.map_append, List.map_map, List.map_map, List.map_map]; rfl
        rw [ep]
        have hsum : ∀ qs : List (List Nat), (∀ q ∈ qs, q.length ≤ 200) → ((qs.map Sx).map (·.length)).sum ≤ 200 * qs.length := fun qs => by
          induction qs with
          | nil => intro _; simp
          | cons q0 qs ih =>
            intro h
            rw [List.map_cons, List.map_cons, List.sum_cons, List.length_cons, Sx_len]
            have := ih fun x m => h x (List.mem_cons_of_mem _ m)
            have := h q0 List.mem_cons_self
            omega
        have hpl : (partsC n ts).length ≤ 1001 := by
          unfold partsC
          rw [List.length_append, List.length_map]
          omega
        have hs2 := hsum (partsC n ts) fun q0 m => by
          unfold partsC at m
          rcases List.mem_append.mp m with m | m
          · split at m
            · rw [List.mem_singleton.mp m]; have := numC_le (p := n) (by omega); omega
            · cases m
          · obtain ⟨x, hx, rfl⟩ := List.mem_map.mp m
            have h1 := ht0 x hx
            have h2 := numC_le (p := x.2) (by omega)
            unfold termC
            rw [List.length_append]
            split
            · simp; omega
            · omega
        refine r_joinS (SqL.of upd_same) ?_ ?_
        · rw [List.length_map]
          have : (Str.ofString "+").length = 1 := rfl
          rw [this]
          omega
        · have : Txt.join (Str.ofString "+") ((partsC n ts).map Sx) = Sx (textC n ts) := SX.join_S [43] (partsC n ts)
          rw [this]
          exact q _ ((s1.trans sm).trans (Same.upd_new hl3))
    · walk_at "st"
      have e1 : (!decide (V.int n = V.int 0)) = decide (n ≠ 0) := by
        rw [← decide_not]
        exact decide_eq_decide.mpr ⟨fun h z => h (by rw [z]), fun h z => h (by injection z)⟩
      rw [e1]
      have yes : n ≠ 0 ∨ ts = [] → ∀ l, H l = none → Q' (.ref l) (upd H l (.lst [V.str (Sx (numC n))])) := fun c l hl => hQ' _ _ ⟨l, rfl, Same.upd_new hl, by rw [if_pos c]; exact upd_same⟩
      have no : ¬ (n ≠ 0 ∨ ts = []) → ∀ l, H l = none → Q' (.ref l) (upd H l (.lst [])) := fun c l hl => hQ' _ _ ⟨l, rfl, Same.upd_new hl, by rw [if_neg c]; exact upd_same⟩
      refine r_ite (fun h => ?_) (fun h => ?_)
      · walk_at "st"
        intro l hl
        exact yes (.inl h) l hl
      · walk_at "st"
        cases ts with
        | nil =>
          have : us = [] := List.length_eq_zero_iff.mp lus
          subst this
          walk_at "st"
          refine r_iteB (fun _ => ?_) (fun h => by cases h)
          walk_at "st"
          intro l hl
          exact yes (.inr rfl) l hl
        | cons x ts =>
          cases us with
          | nil => simp at lus
          | cons u us =>
            walk_at "st"
            refine r_iteB (fun h => by cases h) (fun _ => ?_)
            walk_at "st"
            intro l hl
            exact no (fun c => c.elim h (fun z => by cases z)) l hl
end
local macro_rules | `(tactic| walk_at "ssz") => `(tactic| first | decide | exact str_small (by assumption) | (have : (1000000 : Nat) ≤ sizeLine := (by decide); omega))
local macro_rules | `(tactic| walk_at "st1") => `(tactic| first
  | with_reducible refine' r_nt ?_ | with_reducible refine' r_nf ?_
  | ((with_reducible refine r_lenS ?e1 ?_); (case e1 => walk_at "ssz"))
  | with_reducible refine r_inS ?_
  | with_reducible refine r_ninS ?_
  | ((with_reducible refine r_addS ?e1 ?_); (case e1 => walk_at "ssz"))
  | ((with_reducible refine' r_ixS ?e1 ?e2 ?_); (case e1 => walk_at "ssz"); (case e2 => first | assumption | rfl))
  | with_reducible refine r_istr ?_
  | with_reducible refine r_is ?_
  | with_reducible refine r_un ?_
  | with_reducible refine r_u ?_)
local macro_rules | `(tactic| walk_at "st1") => `(tactic| first
  | with_reducible refine r_par ?_
  | with_reducible refine r_parx ?_
  | ((with_reducible refine' r_gtup ?e1 ?e2 ?_); (case e1 => walk_at "sq"); (case e2 => rfl))
  | with_reducible refine r_gcons ?_
  | with_reducible refine r_gnil ?_
  | with_reducible refine r_disp ?_
  | with_reducible refine r_tp1 ?_
  | with_reducible refine r_tp0 ?_
  | ((with_reducible refine' r_dp1 ?e1 ?_); (case e1 => walk_at "hl"))
  | with_reducible refine r_dnewK ?_
  | with_reducible refine r_dget2 ?_
  | ((with_reducible refine' r_dg2 ?e1 ?_); (case e1 => walk_at "hl"))
  | ((with_reducible refine' r_dg3 ?e1 ?_); (case e1 => walk_at "hl"))
  | with_reducible refine r_dget ?_
  | ((with_reducible refine' r_dgv ?e1 ?e2 ?_); (case e1 => walk_at "hl"); (case e2 => assumption))
  | ((with_reducible refine' r_setD ?e1 ?e2 ?_); (case e1 => walk_at "hl"); (case e2 => omega)))
local macro_rules | `(tactic| walk_at "st1") => `(tactic| first
  | with_reducible refine r_tru ?_
  | ((with_reducible refine' r_truT ?e1 ?_); (case e1 => walk_at "sq"))
  | with_reducible refine r_isN ?_
  | with_reducible refine r_tyS ?_
  | with_reducible refine r_m1 ?_
  | with_reducible refine r_sx ?_
  | ((with_reducible refine r_strC ?e1 ?_); (case e1 => omega)))
/-! ### what is a form among what texts tell -/
def pairO (y : Str × Option Int) : O := .tup [.str y.1, optO y.2]
def dataO (n : Int) (L : List (Str × Option Int)) : O := .tup [.int n, .tup (L.map pairO)]
def someP (ts : List Tr) : List (Str × Option Int) := ts.map fun x => (x.1, some x.2)
theorem goodW.place {z : Str} (h : goodW (cs z)) : placeO (.str z) = true := by
  obtain ⟨h1, h2, ⟨c, r, e, hc⟩, h4⟩ := h
  rw [cs_len] at h1 h2
  have e1 : firstIn z "abcdefghijklmnopqrstuvwxyz" = true := by
    unfold firstIn; rw [e]; exact decide_eq_true hc
  have e2 : onlyIn z "abcdefghijklmnopqrstuvwxyz0123456789." = true := List.all_eq_true.mpr fun x m => decide_eq_true (h4 x m)
  show (decide (1 ≤ z.length) && (decide (z.length ≤ 40) && (firstIn z "abcdefghijklmnopqrstuvwxyz" && onlyIn z "abcdefghijklmnopqrstuvwxyz0123456789."))) = true
  rw [e1, e2, decide_eq_true h1, decide_eq_true h2]; rfl
theorem place_good {z : Str} (h : placeO (.str z) = true) : goodW (cs z) := by
  have h : (decide (1 ≤ z.length) && (decide (z.length ≤ 40) && (firstIn z "abcdefghijklmnopqrstuvwxyz" && onlyIn z "abcdefghijklmnopqrstuvwxyz0123456789."))) = true := h
  simp only [Bool.and_eq_true, decide_eq_true_eq] at h
  obtain ⟨h1, h2, h3, h4⟩ := h
  refine ⟨by rw [cs_len]; exact h1, by rw [cs_len]; exact h2, ?_, fun c m => ?_⟩
  · unfold firstIn at h3
    cases e : cs z with
    | nil => rw [e] at h3; cases h3
    | cons c r =>
      rw [e] at h3
      exact ⟨c, r, rfl, of_decide_eq_true h3⟩
  · unfold onlyIn at h4
    exact of_decide_eq_true (List.all_eq_true.mp h4 c m)
theorem rise_pair : ∀ {zs : List Str}, riseL zs = true → zs.Pairwise ltS
  | [], _ => .nil
  | [_], _ => List.pairwise_singleton _ _
  | x :: y :: r, h => by
    have h : (decide (cs x < cs y) && riseL (y :: r)) = true := h
    rw [Bool.and_eq_true] at h
    have ih := rise_pair h.2
    have xy : ltS x y := (show cs x < cs y from of_decide_eq_true h.1)
    refine List.pairwise_cons.mpr ⟨fun z m => ?_, ih⟩
    rcases List.mem_cons.mp m with rfl | m
    · exact xy
    · exact (show cs x < cs z from List.lt_trans (show cs x < cs y from xy) (show cs y < cs z from (List.pairwise_cons.mp ih).1 z m))
theorem pair_rise : ∀ {zs : List Str}, zs.Pairwise ltS → riseL zs = true
  | [], _ => rfl
  | [_], _ => rfl
  | x :: y :: r, h => by
    have h1 := List.pairwise_cons.mp h
    show (decide (cs x < cs y) && riseL (y :: r)) = true
    rw [Bool.and_eq_true]
    exact ⟨decide_eq_true (h1.1 y List.mem_cons_self), pair_rise h1.2⟩
theorem data_ok {p n : Int} {ts : List Tr} (h : FormOk p n ts) : formO p (dataO n (someP ts)) = true := by
  show (numO p (.int n) && ((((someP ts).map pairO)).all (termO p) && riseL (((someP ts).map pairO).map keyO))) = true
  have e : ((someP ts).map pairO).map keyO = ts.map fun x : Tr => x.1 := by
    unfold someP
    rw [List.map_map, List.map_map]; rfl
  rw [e, pair_rise h.ok.rise, Bool.and_true, Bool.and_eq_true]
  refine ⟨by simp [numO, h.num.1, h.num.2], List.all_eq_true.mpr fun o m => ?_⟩
  unfold someP at m
  rw [List.map_map] at m
  obtain ⟨x, hx, rfl⟩ := List.mem_map.mp m
  have g := h.ok.ok x hx
  show (placeO (.str x.1) && (numO p (.int x.2) && nz (.int x.2))) = true
  rw [g.1.place]
  have h1 := g.2
  simp [numO, nz]
  omega
theorem data_form {p n : Int} {L : List (Str × Option Int)} (h : formO p (dataO n L) = true) : ∃ ts, L = someP ts ∧ FormOk p n ts := by
  have h : (numO p (.int n) && ((L.map pairO).all (termO p) && riseL ((L.map pairO).map keyO))) = true := h
  simp only [Bool.and_eq_true] at h
  obtain ⟨h1, h2, h3⟩ := h
  have each : ∀ y ∈ L, ∃ k, y.2 = some k ∧ goodW (cs y.1) ∧ 1 ≤ k ∧ k < p := fun y m => by
    have g : (placeO (.str y.1) && (numO p (optO y.2) && nz (optO y.2))) = true := List.all_eq_true.mp h2 _ (List.mem_map_of_mem m)
    simp only [Bool.and_eq_true] at g
    obtain ⟨g1, g2, g3⟩ := g
    cases e : y.2 with
    | none => rw [e] at g2; simp [optO, numO] at g2
    | some k =>
      rw [e] at g2 g3
      simp [optO, numO] at g2
      simp [optO, nz] at g3
      exact ⟨k, rfl, place_good g1, by omega, g2.2⟩
  have eL : L = someP (L.map fun y => (y.1, y.2.getD 0)) := by
    unfold someP
    rw [List.map_map]
    conv => lhs; rw [← List.map_id L]
    refine List.map_congr_left fun y m => ?_
    obtain ⟨k, e, _⟩ := each y m
    show y = (y.1, some (y.2.getD 0))
    rw [e]
    exact Prod.ext rfl e
  refine ⟨_, eL, ⟨by simpa [numO] using h1, ⟨?_, fun x m => ?_⟩⟩⟩
  · have := rise_pair h3
    unfold rise
    rw [List.map_map] at this ⊢
    exact this
  · obtain ⟨y, hy, rfl⟩ := List.mem_map.mp m
    obtain ⟨k, e, g⟩ := each y hy
    show goodW (cs y.1) ∧ 1 ≤ y.2.getD 0 ∧ y.2.getD 0 < p
    rw [e]
    exact g
/-- the pairs that stand in a list or a tuple -/
def PairV (H : Hp) (v : V) (y : Str × Option Int) : Prop := ∃ t, v = .ref t ∧ H t = some (.tup [.str y.1, optV y.2])
def Prsv (H : Hp) (us : List V) (L : List (Str × Option Int)) : Prop := us.length = L.length ∧ ∀ (i : Nat) (v : V), us[i]? = some v → ∃ y, L[i]? = some y ∧ PairV H v y
theorem Prsv.rep {H : Hp} : ∀ {us : List V} {L : List (Str × Option Int)}, Prsv H us L → RepAll [] H us (L.map pairO)
  | [], [], _ => .nil
  | [], _ :: _, h => by have := h.1; simp at this
  | _ :: _, [], h => by have := h.1; simp at this
  | u :: us, y :: L, h => by
    obtain ⟨y', e, t, rfl, ht⟩ := h.2 0 u rfl
    obtain rfl : y = y' := Option.some.inj e
    refine .cons (.tup ht List.not_mem_nil (.cons (.str _) (.cons ?_ .nil))) (Prsv.rep ⟨by have := h.1; simp at this; exact this, fun i v e => h.2 (i + 1) v (by simpa using e)⟩)
    cases y.2 with
    | none => exact .non
    | some k => exact .int k
theorem Prsv.trs {H : Hp} {us : List V} {ts : List Tr} (h : Prsv H us (someP ts)) : Trs H us ts := ⟨by have := h.1; unfold someP at this; rw [List.length_map] at this; exact this, fun i v e => by
  obtain ⟨y, ey, t, rfl, ht⟩ := h.2 i v e
  unfold someP at ey
  rw [List.getElem?_map] at ey
  cases g : ts[i]? with
  | none => rw [g] at ey; cases ey
  | some x =>
    rw [g] at ey
    cases ey
    exact ⟨x, rfl, t, rfl, ht⟩⟩
theorem mem_le_sum : ∀ {l : List Nat} {x : Nat}, x ∈ l → x ≤ l.sum
  | y :: l, x, h => by
    rw [List.sum_cons]
    rcases List.mem_cons.mp h with rfl | h
    · omega
    · have := mem_le_sum h; omega
theorem prs_of {H : Hp} {ys : List V} {bs : List (List Nat)} {m : Int} (el : ys.length = bs.length) (h : ∀ (i : Nat) (y : V), ys[i]? = some y → ∃ b, bs[i]? = some b ∧ PairV H y (partC b m)) : Prsv H ys (bs.map fun b => partC b m) :=
  ⟨by rw [List.length_map]; exact el, fun i v e => by
    obtain ⟨b, eb, pv⟩ := h i v e
    exact ⟨_, by rw [List.getElem?_map, eb]; rfl, pv⟩⟩
theorem PairV.same {H H' : Hp} {v : V} {y : Str × Option Int} (h : PairV H v y) (k : Same H H') : PairV H' v y := by
  obtain ⟨t, e, ht⟩ := h
  exact ⟨t, e, k _ _ ht⟩
theorem PairV.lst {H : Hp} {v : V} {y : Str × Option Int} {D : Addr} {acc acc' : List V} (h : PairV H v y) (e : H D = some (.lst acc)) : PairV (upd H D (.lst acc')) v y := by
  obtain ⟨t, ev, ht⟩ := h
  exact ⟨t, ev, hl_set (fun z => by rw [z, e] at ht; cases ht) ht⟩
theorem Prsv.same {H H' : Hp} {us : List V} {L : List (Str × Option Int)} (h : Prsv H us L) (k : Same H H') : Prsv H' us L := ⟨h.1, fun i v e => (h.2 i v e).imp fun _ z => ⟨z.1, z.2.same k⟩⟩
def noStr : O → Prop
  | .str _ => False
  | _ => True
def sp_read_form (_ : PySem.W.Frag) : Sp := fun vs H Q _ => (∃ (a : List Nat) (p : Int), vs = [.str (Sx a), .int p] ∧ (a.length ≤ 10000 ∧ (TL.spl [43] 0 [] a).length ≤ 1000 ∧ ∀ b ∈ TL.spl [43] 0 [] a, (b.dropWhile digC).length ≤ 1000) ∧ (2 ≤ p ∧ p ≤ 997) ∧
  (∀ (v : V) (n : Int) (ts : List Tr) (H' : Hp), Same H H' → FormOk p n ts → textC n ts = a → FrmV H' v n ts → Q v H') ∧ ((∀ n ts, FormOk p n ts → textC n ts ≠ a) → ∀ H', Same H H' → Q .non H')) ∨
  ∃ (S : List Addr) (v : V) (o : O) (p : Int), vs = [v, .int p] ∧ Rep S H v o ∧ noStr o ∧ Q .non H
section
variable {P : Program} {w : World} {K : PySem.W.Frag} {mg : Str → Option Value} {base : Heap}
theorem ok_read_form (T : Tx K mg) {f_read_figures : Addr} {fd_read_figures : FuncData} (C_read_figures : Cal P w K mg base "read_figures" 2 ["text", "most"] (sp_read_figures K) s_read_figures f_read_figures fd_read_figures) {f_is_form : Addr} {fd_is_form : FuncData} (C_is_form : Cal P w K mg base "is_form" 4 ["thing", "p"] (sp_is_form K) s_is_form f_is_form fd_is_form) {f_form_text : Addr} {fd_form_text : FuncData} (C_form_text : Cal P w K mg base "form_text" 1 ["form"] (sp_form_text K) s_form_text f_form_text fd_form_text) {f_term_of : Addr} {fd_term_of : FuncData} (C_term_of : Cal P w K mg base "term_of" 3 ["part", "p"] (sp_term_of K) s_term_of f_term_of fd_term_of) {f : Addr} {fd : FuncData} (F : Here K mg "read_form" s_read_form ["text", "p"] f fd) : Cal P w K mg base "read_form" 5 ["text", "p"] (sp_read_form K) s_read_form f fd := by
  refine F.cal sc_read_form (fun vs H Q E h => ?_) (fun cdv A outer s H vs Q E hr h => ?_)
  · rcases h with ⟨a, p, rfl, _⟩ | ⟨S, v, o, p, rfl, _⟩ <;> rfl
  · refine ⟨_, (pss_cons (ps_if (pt_not (pt_val (pe_callB (cr_isiK (K := K)) (by rfl) T.m_isinstance (by decide +kernel) (pa_cons (pv 0) (pa_cons (pe_bltn (v := .ty "str") (by rfl) T.m_str (by decide +kernel) rfl) pa_nil))))) (pss_one (ps_ret pe_non)) pss_nil)
      (pss_cons (ps_set (i := 2) sc_read_form.nd rfl (by first | exact .inl rfl | exact .inr rfl) (castBM (K := K) (pe_bm PySem.F.plainAttrs_str PySem.F.slot_str_split PySem.F.type_str_split mt_splK (pv 0) (pa_cons pe_str pa_nil))))
      (pss_cons (ps_set (i := 3) sc_read_form.nd rfl (by first | exact .inl rfl | exact .inr rfl) (pe_call C_read_figures.ok (hr.mono (by decide)) (by rfl) C_read_figures.at_ C_read_figures.kp C_read_figures.b .nil pass0 (pa_cons (pe_ix (ix_listK (K := K)) (pv 2) pe_int (fun _ _ => rfl)) (pa_cons (pe_callB cr_lenS (by rfl) T.m_len (by decide +kernel) (pa_cons (pe_callTy cr_strOf (by rfl) T.m_str (by decide +kernel) (pa_cons (pv 1) pa_nil)) pa_nil)) pa_nil))))
      (pss_cons (ps_if (pt_cmpR op_isNn (pv 3) pe_non (nomark _)) (pss_one (ps_set (i := 4) sc_read_form.nd rfl (by first | exact .inl rfl | exact .inr rfl) (pe_tup (pa_cons pe_int (pa_cons (pe_callTy (cr_tupOfK (K := K)) (by rfl) T.m_tuple (by decide +kernel) (pa_cons (pe_lc rfl sc_read_form.nd (pi_listK (K := K) (pv 2)) (blkOk_by (own := [("part", 5)]) (N := ["text", "p", "parts", "n", "form", "part"]) (sc := (defScope s_read_form)) (by decide +kernel)) (fun _ _ _ _ _ => (pg_name (i := 5) sc_read_form.nd rfl (by first | exact .inl rfl | exact .inr rfl))) (fun _ _ _ _ _ => pts_nil) (fun _ _ _ _ _ => (pe_call C_term_of.ok (hr.mono (by decide)) (by rfl) C_term_of.at_ C_term_of.kp C_term_of.b .nil pass0 (pa_cons (pv 5) (pa_cons (pv 1) pa_nil))))) pa_nil)) pa_nil))))) (pss_one (ps_set (i := 4) sc_read_form.nd rfl (by first | exact .inl rfl | exact .inr rfl) (pe_tup (pa_cons (pv 3) (pa_cons (pe_callTy (cr_tupOfK (K := K)) (by rfl) T.m_tuple (by decide +kernel) (pa_cons (pe_lc rfl sc_read_form.nd (pi_listK (K := K) (pe_slice (sl_listK (K := K)) (pv 2) (po_some pe_int) po_none)) (blkOk_by (own := [("part", 5)]) (N := ["text", "p", "parts", "n", "form", "part"]) (sc := (defScope s_read_form)) (by decide +kernel)) (fun _ _ _ _ _ => (pg_name (i := 5) sc_read_form.nd rfl (by first | exact .inl rfl | exact .inr rfl))) (fun _ _ _ _ _ => pts_nil) (fun _ _ _ _ _ => (pe_call C_term_of.ok (hr.mono (by decide)) (by rfl) C_term_of.at_ C_term_of.kp C_term_of.b .nil pass0 (pa_cons (pv 5) (pa_cons (pv 1) pa_nil))))) pa_nil)) pa_nil))))))
      (pss_one (ps_ret (pe_ifExp (PW.pt (pw_and (pt_val (pe_call C_is_form.ok (hr.mono (by decide)) (by rfl) C_is_form.at_ C_is_form.kp C_is_form.b .nil pass0 (pa_cons (pv 4) (pa_cons (pv 1) pa_nil)))) (pw_and1 (pt_cmpR op_eq (pe_call C_form_text.ok (hr.mono (by decide)) (by rfl) C_form_text.at_ C_form_text.kp C_form_text.b .nil pass0 (pa_cons (pv 4) pa_nil)) (pv 0) (nomark _))))) (pv 4) pe_non))))))), ?_⟩
    rcases h with ⟨a, p, rfl, ⟨la, lp, lb⟩, hp, q1, q2⟩ | ⟨S, v, o, p, rfl, ro, no, q⟩
    rotate_left
    · cases ro <;> first | exact absurd no id | (walk_at "st"; walk_at "if"; exact q)
    walk_at "st"
    walk_at "if"
    have la2 : (Sx a).length ≤ 10000 := by rw [Sx_len]; exact la
    have es : Txt.split (Sx a) (Str.ofString "+") = (TL.spl [43] 0 [] a).map Sx := SX.split_S (a := a) (b := [43]) (by simp) (by decide)
    have wt := PyProof.Rows.split_weight (Sx a) (Str.ofString "+") (by decide)
    rw [es] at wt
    have p1 := PyProof.Rows.split_pos (Sx a) (Str.ofString "+")
    rw [es, List.length_map] at p1
    have hpart : ∀ b ∈ TL.spl [43] 0 [] a, b.length ≤ 10001 := fun b m => by
      have h1 : b.length ≤ (((TL.spl [43] 0 [] a).map Sx).map (·.length)).sum := by
        have m2 : b.length ∈ ((TL.spl [43] 0 [] a).map Sx).map (·.length) := List.mem_map.mpr ⟨Sx b, List.mem_map_of_mem m, Sx_len b⟩
        exact mem_le_sum m2
      omega
    refine ⟨_, _, rfl, rfl, rfl, by have : (1000000 : Nat) ≤ sizeLine := (by decide); omega, fun l hl => ?_⟩
    rw [es]
    have eR : ∀ n ts, FormOk p n ts → textC n ts = a → readC a (numC p).length = (n, someP ts) := fun n ts f e => by rw [← e]; exact read_text f (by omega)
    unfold readC at eR
    generalize hsp : TL.spl [43] 0 [] a = parts at *
    cases parts with
    | nil => simp at p1
    | cons x0 rest =>
    have el : upd H l (.lst (((x0 :: rest).map Sx).map V.str)) l = some (.lst (((x0 :: rest).map Sx).map V.str)) := upd_same
    have s1 : Same H (upd H l (.lst (((x0 :: rest).map Sx).map V.str))) := Same.upd_new hl
    generalize upd H l (.lst (((x0 :: rest).map Sx).map V.str)) = H1 at *
    have ix : atI (((x0 :: rest).map Sx).map V.str) 0 = some (V.str (Sx x0)) := (show atI _ ((0 : Nat) : Int) = _ from atI_nat rfl)
    have hl3 : (Sx (numC p)).length ≤ sizeLine := by rw [Sx_len]; exact Nat.le_trans (numC_le (by omega)) (by decide)
    walk_at "st"
    rw [Sx_len]
    refine ⟨x0, _, rfl, by have := hpart x0 List.mem_cons_self; omega, by have := numC_le (p := p) (by omega); omega, fun H2 s2 => ?_⟩
    walk_at "st"
    have el2 := s2 _ _ el
    refine r_join (fun σ' H' => ∃ (f b : Addr) (us : List V) (L : List (Str × Option Int)) (n' : Int) (x3 : Option V), σ' = [some (.str (Sx a)), some (.int p), some (.ref l), x3, some (.ref f), none] ∧ Same H H' ∧ H' f = some (.tup [.int n', .ref b]) ∧ H' b = some (.tup us) ∧ Prsv H' us L ∧
      (∀ n ts, FormOk p n ts → textC n ts = a → (n', L) = (n, someP ts)) ∧ L.length ≤ 1000 ∧ ∀ y ∈ L, y.1.length ≤ 1000) (fun σ' H' g => ?_) (fun N hN => ?_)
    · obtain ⟨f, b, us, L, n', x3, rfl, s3, ef, eb, pv, eL, lL, ly⟩ := g
      walk_at "st"
      have rep : Rep [] H' (.ref f) (dataO n' L) := .tup ef List.not_mem_nil (.cons (.int n') (.cons (.tup eb List.not_mem_nil pv.rep) .nil))
      refine ⟨[], .ref f, dataO n' L, p, rfl, rep, ⟨by rw [List.length_map]; exact lL, fun t m => ?_⟩, fun H3 s4 => ?_⟩
      · obtain ⟨y, hy, rfl⟩ := List.mem_map.mp m
        exact ly y hy
      have none_of : (∀ ts, L = someP ts → FormOk p n' ts → textC n' ts ≠ a) → ∀ H5, Same H H5 → Q .non H5 := fun z H5 k => q2 (fun n ts f0 e => by
        have := eL n ts f0 e
        injection this with e1 e2
        subst e1
        exact z ts e2 f0 e) H5 k
      cases hF : formO p (dataO n' L) with
      | false =>
        walk_at "st"
        refine none_of (fun ts e f0 _ => ?_) _ (s3.trans s4)
        rw [e, data_ok f0] at hF
        cases hF
      | true =>
        obtain ⟨ts, rfl, f0⟩ := data_form hF
        have fv : FrmV H3 (.ref f) n' ts := ⟨f, b, us, rfl, s4 _ _ ef, s4 _ _ eb, (pv.same s4).trs⟩
        walk_at "st"
        refine ⟨f, n', ts, rfl, fv, by have := f0.num; omega, fun x m => ?_, by unfold someP at lL; rw [List.length_map] at lL; exact lL, fun H5 s5 => ?_⟩
        · have g := f0.ok.ok x m
          exact ⟨by have := g.1.2.1; omega, by omega, by omega⟩
        walk_at "st"
        have e6 : decide (V.str (Sx (textC n' ts)) = V.str (Sx a)) = decide (textC n' ts = a) := by
          refine decide_eq_decide.mpr ⟨fun z => ?_, fun z => by rw [z]⟩
          injection z with z
          exact SX.S_inj z
        rw [e6]
        refine r_ite (fun h => ?_) (fun h => ?_)
        · walk_at "st"
          exact q1 _ n' ts H5 ((s3.trans s4).trans s5) f0 h (fv.to (Tups.same s5))
        · walk_at "st"
          refine none_of (fun ts' e f1 e2 => h ?_) _ ((s3.trans s4).trans s5)
          have : ts = ts' := by
            unfold someP at e
            have inj : ∀ {a b : List Tr}, (a.map fun x => (x.1, some x.2)) = (b.map fun x => (x.1, some x.2)) → a = b := fun {a} => by
              induction a with
              | nil => intro b e; cases b with
                | nil => rfl
                | cons _ _ => simp at e
              | cons x a ih => intro b e; cases b with
                | nil => simp at e
                | cons y b =>
                  rw [List.map_cons, List.map_cons] at e
                  injection e with e1 e2
                  injection e1 with e3 e4
                  rw [ih e2, show x = y from Prod.ext e3 (Option.some.inj e4)]
            exact inj e
          rw [this]; exact e2
    · walk_at "if"
      have len1 : (x0 :: rest).length ≤ 1000 := lp
      have bnd : ∀ bs : List (List Nat), (∀ b ∈ bs, b ∈ x0 :: rest) → ∀ y ∈ bs.map (fun b => partC b (numC p).length), y.1.length ≤ 1000 := fun bs h y m => by
        obtain ⟨b, hb, rfl⟩ := List.mem_map.mp m
        show (Sx (b.dropWhile digC)).length ≤ 1000
        rw [Sx_len]
        exact lb b (h b hb)
      cases hf : figC x0 (numC p).length with
      | none =>
        have eR : ∀ n ts, FormOk p n ts → textC n ts = a → ((0 : Int), (x0 :: rest).map fun b => partC b (numC p).length) = (n, someP ts) := fun n ts f e => by
          have := eR n ts f e
          simp only [hf] at this
          exact this
        refine r_ite (fun _ => ?_) (fun h => absurd rfl h)
        walk_at "st"
        intro D hD
        refine lc_map (walk_list (xs := ((x0 :: rest).map Sx).map V.str)) (by rw [List.length_map, List.length_map]; omega) hD (fun i y H' => ∃ b, (x0 :: rest)[i]? = some b ∧ PairV H' y (partC b (numC p).length)) (fun i v H3 H4 h k => h.imp fun _ z => ⟨z.1, z.2.same k⟩) (fun i v H3 acc acc' h e => h.imp fun _ z => ⟨z.1, z.2.lst e⟩) (fun H' k => SqL.of (k _ _ el2)) (fun i H1 x H2 y => by rw [y.1]; exact Same.refl _)
          (fun i x H3 H4 Y No hi sm y hY => ?_) (fun ys H3 ely sm eD hys => ?_)
        · obtain ⟨rfl, ex⟩ := y
          rw [List.map_map, List.getElem?_map] at ex
          cases eb : (x0 :: rest)[i]? with
          | none => rw [eb] at ex; cases ex
          | some b =>
            rw [eb] at ex
            cases ex
            have mb := (fun b m => m) b (List.mem_of_getElem? eb)
            refine ⟨rfl, ?_⟩
            walk_at "st"
            refine ⟨b, p, rfl, by have := hpart b mb; omega, hp, fun t H5 s5 et => ?_⟩
            exact hY _ _ s5 ⟨b, eb, t, rfl, et⟩
        · have pv := prs_of (bs := x0 :: rest) (by rw [ely, List.length_map, List.length_map]) hys
          walk_at "st"
          intro bt hbt
          walk_at "st"
          intro ft hft
          have S6 : Same H3 (upd (upd H3 bt (.tup ys)) ft (.tup [V.int 0, V.ref bt])) := (Same.upd_new hbt).trans (Same.upd_new hft)
          exact hN _ _ ⟨ft, bt, ys, _, 0, _, rfl, ((s1.trans s2).trans sm).trans S6, upd_same, hl_new upd_same hft, pv.same S6, eR, by rw [List.length_map]; exact len1, bnd _ (fun b m => m)⟩
      | some n0 =>
        have eR : ∀ n ts, FormOk p n ts → textC n ts = a → (n0, rest.map fun b => partC b (numC p).length) = (n, someP ts) := fun n ts f e => by
          have := eR n ts f e
          simp only [hf] at this
          exact this
        refine r_ite (fun h => by cases h) (fun _ => ?_)
        show (tAsg _ _) _ _ _
        walk_at "st"
        intro q hq
        have ecut : cutV (((x0 :: rest).map Sx).map V.str) (some 1) none = (rest.map Sx).map V.str := by rw [cut_from1]; rfl
        rw [ecut]
        have eq0 : upd H2 q (.lst ((rest.map Sx).map V.str)) q = some (.lst ((rest.map Sx).map V.str)) := upd_same
        walk_at "st"
        intro D hD
        refine lc_map (walk_list (xs := (rest.map Sx).map V.str)) (by rw [List.length_map, List.length_map]; simp at len1; omega) hD (fun i y H' => ∃ b, rest[i]? = some b ∧ PairV H' y (partC b (numC p).length)) (fun i v H3 H4 h k => h.imp fun _ z => ⟨z.1, z.2.same k⟩) (fun i v H3 acc acc' h e => h.imp fun _ z => ⟨z.1, z.2.lst e⟩) (fun H' k => SqL.of (k _ _ eq0)) (fun i H1 x H2 y => by rw [y.1]; exact Same.refl _)
          (fun i x H3 H4 Y No hi sm y hY => ?_) (fun ys H3 ely sm eD hys => ?_)
        · obtain ⟨rfl, ex⟩ := y
          rw [List.map_map, List.getElem?_map] at ex
          cases eb : (rest)[i]? with
          | none => rw [eb] at ex; cases ex
          | some b =>
            rw [eb] at ex
            cases ex
            have mb : b ∈ x0 :: rest := List.mem_cons_of_mem _ (List.mem_of_getElem? eb)
            refine ⟨rfl, ?_⟩
            walk_at "st"
            refine ⟨b, p, rfl, by have := hpart b mb; omega, hp, fun t H5 s5 et => ?_⟩
            exact hY _ _ s5 ⟨b, eb, t, rfl, et⟩
        · have pv := prs_of (bs := rest) (by rw [ely, List.length_map, List.length_map]) hys
          walk_at "st"
          intro bt hbt
          walk_at "st"
          intro ft hft
          have S6 : Same H3 (upd (upd H3 bt (.tup ys)) ft (.tup [V.int n0, V.ref bt])) := (Same.upd_new hbt).trans (Same.upd_new hft)
          exact hN _ _ ⟨ft, bt, ys, _, n0, _, rfl, (((s1.trans s2).trans (Same.upd_new hq)).trans sm).trans S6, upd_same, hl_new upd_same hft, pv.same S6, eR, by rw [List.length_map]; (simp at len1; omega), bnd _ (fun b m => List.mem_cons_of_mem _ m)⟩
end
theorem FormOk.small {p n : Int} {ts : List Tr} (h : FormOk p n ts) (hp : p ≤ 997) : ∀ x ∈ ts, 0 ≤ x.2 ∧ x.2 ≤ 1000 := fun x m => by have := (h.ok.ok x m).2; omega
theorem FormOk.good {p n : Int} {ts : List Tr} (h : FormOk p n ts) : ∀ x ∈ ts, goodW (cs x.1) := fun x m => (h.ok.ok x m).1
theorem join_len (s : List Nat) : ∀ ps : List (List Nat), (TL.joinL s ps).length ≤ (ps.map fun p => p.length + s.length).sum
  | [] => Nat.zero_le _
  | [p] => by
    rw [List.map_cons, List.sum_cons]
    show p.length ≤ _
    omega
  | p :: q :: ps => by
    have ih := join_len s (q :: ps)
    have e : TL.joinL s (p :: q :: ps) = p ++ s ++ TL.joinL s (q :: ps) := by first | rfl | simp [TL.joinL]
    rw [e, List.length_append, List.length_append, List.map_cons, List.sum_cons]
    omega
theorem part_len {p n : Int} {ts : List Tr} (h : FormOk p n ts) (hp : p ≤ 997) : ∀ b ∈ partsC n ts, b.length ≤ 47 := fun b m => by
  have l7 : ∀ k : Int, k ≤ 997 → (numC k).length ≤ 7 := fun k hk => numC_le (by omega)
  unfold partsC at m
  rcases List.mem_append.mp m with m | m
  · split at m
    · rw [List.mem_singleton.mp m]
      have := l7 n (by have := h.num; omega)
      omega
    · cases m
  · obtain ⟨x, hx, rfl⟩ := List.mem_map.mp m
    have g := h.ok.ok x hx
    have := l7 x.2 (by omega)
    have := g.1.2.1
    unfold termC
    rw [List.length_append]
    split
    · show 0 + _ ≤ 47; omega
    · omega
theorem parts_len (n : Int) (ts : List Tr) : (partsC n ts).length ≤ ts.length + 1 := by
  unfold partsC
  rw [List.length_append, List.length_map]
  split
  · show 1 + _ ≤ _; omega
  · show 0 + _ ≤ _; omega
theorem sum_le {b : Nat} : ∀ {l : List Nat}, (∀ x ∈ l, x ≤ b) → l.sum ≤ l.length * b
  | [], _ => Nat.zero_le _
  | x :: l, h => by
    have ih := sum_le (l := l) fun y m => h y (List.mem_cons_of_mem _ m)
    have := h x List.mem_cons_self
    rw [List.sum_cons, List.length_cons, Nat.succ_mul]; omega
theorem drop_len (f : Nat → Bool) : ∀ a : List Nat, (a.dropWhile f).length ≤ a.length
  | [] => Nat.le_refl _
  | c :: a => by
    rw [List.dropWhile_cons]
    split
    · exact Nat.le_succ_of_le (drop_len f a)
    · exact Nat.le_refl _
theorem text_small {p n : Int} {ts : List Tr} (h : FormOk p n ts) (hp : p ≤ 997) (l : ts.length ≤ 3) : (textC n ts).length ≤ 10000 ∧ (TL.spl [43] 0 [] (textC n ts)).length ≤ 1000 ∧ ∀ b ∈ TL.spl [43] 0 [] (textC n ts), (b.dropWhile digC).length ≤ 1000 := by
  rw [split_text h.good]
  have h1 := part_len h hp
  have h2 := parts_len n ts
  refine ⟨?_, by omega, fun b m => by have := h1 b m; have := drop_len digC b; omega⟩
  have h3 := join_len [43] (partsC n ts)
  have h4 := sum_le (b := 48) (l := (partsC n ts).map fun p => p.length + [43].length) fun x m => by
    obtain ⟨b, hb, rfl⟩ := List.mem_map.mp m
    have := h1 b hb
    show b.length + 1 ≤ 48
    omega
  rw [List.length_map] at h4
  unfold textC
  have : (partsC n ts).length * 48 ≤ 4 * 48 := Nat.mul_le_mul (by omega) (Nat.le_refl _)
  omega
theorem FrmV.repD {H : Hp} {v : V} {n : Int} {ts : List Tr} (h : FrmV H v n ts) : Rep [] H v (dataO n (someP ts)) := by
  obtain ⟨a, b, us, rfl, ha, hb, ht⟩ := h
  refine .tup ha List.not_mem_nil (.cons (.int n) (.cons (.tup hb List.not_mem_nil (Prsv.rep ⟨by unfold someP; rw [List.length_map]; exact ht.1, fun i v e => ?_⟩)) .nil))
  obtain ⟨x, ex, t, rfl, h1⟩ := ht.2 i v e
  exact ⟨(x.1, some x.2), by unfold someP; rw [List.getElem?_map, ex]; rfl, t, rfl, h1⟩
theorem small_data {n : Int} {ts : List Tr} (h : ∀ x ∈ ts, goodW (cs x.1)) (l : ts.length ≤ 1000) : smallF (dataO n (someP ts)) := by
  refine ⟨by unfold someP; rw [List.length_map, List.length_map]; exact l, fun t m => ?_⟩
  obtain ⟨y, hy, rfl⟩ := List.mem_map.mp m
  unfold someP at hy
  obtain ⟨x, hx, rfl⟩ := List.mem_map.mp hy
  have := (h x hx).2.1
  rw [cs_len] at this
  show x.1.length ≤ 1000
  omega
/-! ### the law's own reader of texts of forms -/
def lawNum (b : List Nat) (q : Int) : Option Int :=
  if b = [] ∨ 3 < b.length ∨ (b.head? = some 48 ∧ b ≠ [48]) then none else if ((NumText.digitsVal b : Nat) : Int) < q then some ((NumText.digitsVal b : Nat) : Int) else none
def lawTimes (d : List Nat) (q : Int) : Option Int := if d = [] then some 1 else (lawNum d q).bind fun t => if t < 2 then none else some t
def headL : List Nat → Bool
  | [] => false
  | c :: _ => decide (c ∈ lettersL)
def lawPlace (w : List Nat) : Bool := w.all (fun c => decide (c ∈ signsL)) && (decide (1 ≤ w.length) && (decide (w.length ≤ 40) && headL w))
def lawTerm (b : List Nat) (q : Int) : Option Tr := (lawTimes (b.takeWhile digC) q).bind fun t => if lawPlace (b.dropWhile digC) = true then some (Sx (b.dropWhile digC), t) else none
def nextOk (acc : List Tr) (t : Tr) : Bool := match acc.getLast? with
  | none => true
  | some x => decide (cs x.1 < cs t.1)
def lawTerms (q : Int) : List (List Nat) → List Tr → Option (List Tr)
  | [], acc => some acc
  | b :: bs, acc => (lawTerm b q).bind fun t => if nextOk acc t = true then lawTerms q bs (acc ++ [t]) else none
def lawRead (a : List Nat) (q : Int) : Option (Int × List Tr) := match TL.spl [43] 0 [] a with
  | [] => none
  | p0 :: rest => if p0.all digC = true then (lawNum p0 q).bind fun n => if n = 0 ∧ rest ≠ [] then none else (lawTerms q rest []).map fun ts => (n, ts) else (lawTerms q (p0 :: rest) []).map fun ts => (0, ts)
theorem place_iff {w : List Nat} : lawPlace w = true ↔ goodW w := by
  unfold lawPlace
  simp only [Bool.and_eq_true, decide_eq_true_eq]
  constructor
  · rintro ⟨h1, h2, h3, h4⟩
    refine ⟨h2, h3, ?_, fun c m => of_decide_eq_true (List.all_eq_true.mp h1 c m)⟩
    cases w with
    | nil => cases h4
    | cons c r => exact ⟨c, r, rfl, of_decide_eq_true h4⟩
  · rintro ⟨h1, h2, ⟨c, r, rfl, hc⟩, h4⟩
    exact ⟨List.all_eq_true.mpr fun c m => decide_eq_true (h4 c m), h1, h2, decide_eq_true hc⟩
theorem numL_table : ((List.range 1000).all fun k => decide (TL.numL k = if k < 10 then [48 + k] else if k < 100 then [48 + k / 10, 48 + k % 10] else [48 + k / 100, 48 + k / 10 % 10, 48 + k % 10])) = true := by decide +kernel
theorem numL_at {k : Nat} (h : k < 1000) : TL.numL k = if k < 10 then [48 + k] else if k < 100 then [48 + k / 10, 48 + k % 10] else [48 + k / 100, 48 + k / 10 % 10, 48 + k % 10] :=
  of_decide_eq_true (List.all_eq_true.mp numL_table k (List.mem_range.mpr h))
theorem digC_le {c : Nat} (h : digC c = true) : 48 ≤ c ∧ c ≤ 57 := by
  unfold digC at h
  rw [Bool.and_eq_true] at h
  exact ⟨of_decide_eq_true h.1, of_decide_eq_true h.2⟩
/-- figures without a 0 ahead are told by their number -/
theorem digits_num {b : List Nat} (hd : b.all digC = true) (ne : b ≠ []) (l : b.length ≤ 3) (hz : ¬ (b.head? = some 48 ∧ b ≠ [48])) : TL.numL (NumText.digitsVal b) = b := by
  match b, hd, ne, l, hz with
  | [c], hd, _, _, _ =>
    have h := digC_le (List.all_eq_true.mp hd c List.mem_cons_self)
    have e : NumText.digitsVal [c] = c - 48 := by show 0 * 10 + (c - 48) = _; omega
    rw [e, numL_at (by omega), if_pos (by omega), show 48 + (c - 48) = c by omega]
  | [c, d], hd, _, _, hz =>
    have h := digC_le (List.all_eq_true.mp hd c List.mem_cons_self)
    have k := digC_le (List.all_eq_true.mp hd d (List.mem_cons_of_mem _ List.mem_cons_self))
    have c0 : c ≠ 48 := fun e => hz ⟨by rw [e]; rfl, by simp⟩
    have e : NumText.digitsVal [c, d] = (c - 48) * 10 + (d - 48) := by show (0 * 10 + (c - 48)) * 10 + (d - 48) = _; omega
    rw [e, numL_at (by omega), if_neg (by omega), if_pos (by omega), show 48 + ((c - 48) * 10 + (d - 48)) / 10 = c by omega, show 48 + ((c - 48) * 10 + (d - 48)) % 10 = d by omega]
  | [c, d, g], hd, _, _, hz =>
    have h := digC_le (List.all_eq_true.mp hd c List.mem_cons_self)
    have k := digC_le (List.all_eq_true.mp hd d (List.mem_cons_of_mem _ List.mem_cons_self))
    have m := digC_le (List.all_eq_true.mp hd g (List.mem_cons_of_mem _ (List.mem_cons_of_mem _ List.mem_cons_self)))
    have c0 : c ≠ 48 := fun e => hz ⟨by rw [e]; rfl, by simp⟩
    have e : NumText.digitsVal [c, d, g] = (c - 48) * 100 + (d - 48) * 10 + (g - 48) := by show ((0 * 10 + (c - 48)) * 10 + (d - 48)) * 10 + (g - 48) = _; omega
    rw [e, numL_at (by omega), if_neg (by omega), if_neg (by omega), show 48 + ((c - 48) * 100 + (d - 48) * 10 + (g - 48)) / 100 = c by omega, show 48 + ((c - 48) * 100 + (d - 48) * 10 + (g - 48)) / 10 % 10 = d by omega, show 48 + ((c - 48) * 100 + (d - 48) * 10 + (g - 48)) % 10 = g by omega]
  | [], _, ne, _, _ => exact absurd rfl ne
  | _ :: _ :: _ :: _ :: _, _, _, l, _ => exact absurd l (by simp)
theorem num_small {v : Int} (h : 0 ≤ v ∧ v < 1000) : numC v ≠ [] ∧ (numC v).length ≤ 3 ∧ ¬ ((numC v).head? = some 48 ∧ numC v ≠ [48]) := by
  refine ⟨numC_ne v, ?_, ?_⟩
  · unfold numC
    rw [numL_at (by omega)]
    (repeat' split) <;> simp
  · rintro ⟨h1, h2⟩
    have := numC_head h.1 h.2
    refine this ⟨h1, ?_⟩
    cases e : numC v with
    | nil => exact absurd e (numC_ne v)
    | cons c r =>
      rw [e] at h1 h2
      have : c = 48 := Option.some.inj h1
      subst this
      cases r with
      | nil => exact absurd rfl h2
      | cons _ _ => simp
theorem lawNum_iff {b : List Nat} {q v : Int} (hq : q ≤ 997) (hd : b.all digC = true) : lawNum b q = some v ↔ (0 ≤ v ∧ v < q) ∧ b = numC v := by
  unfold lawNum
  constructor
  · intro h
    by_cases c : b = [] ∨ 3 < b.length ∨ (b.head? = some 48 ∧ b ≠ [48])
    · rw [if_pos c] at h; cases h
    · rw [if_neg c] at h
      by_cases d : ((NumText.digitsVal b : Nat) : Int) < q
      · rw [if_pos d] at h
        obtain rfl := Option.some.inj h
        refine ⟨⟨by omega, d⟩, ?_⟩
        unfold numC
        rw [Int.toNat_natCast]
        exact (digits_num hd (fun e => c (.inl e)) (by have := fun e => c (.inr (.inl e)); omega) (fun e => c (.inr (.inr e)))).symm
      · rw [if_neg d] at h; cases h
  · rintro ⟨hv, rfl⟩
    obtain ⟨h1, h2, h3⟩ := num_small (v := v) (by omega)
    rw [if_neg (by
      rintro (e | e | e)
      · exact h1 e
      · omega
      · exact h3 e), numC_val hv.1, if_pos hv.2]
theorem tw_all (a : List Nat) : (a.takeWhile digC).all digC = true := by
  induction a with
  | nil => rfl
  | cons c a ih =>
    rw [List.takeWhile_cons]
    cases h : digC c with
    | true => rw [if_pos rfl, List.all_cons, h, ih]; rfl
    | false => rfl
theorem lawTerm_iff {b : List Nat} {q : Int} (hq : 2 ≤ q ∧ q ≤ 997) {x : Tr} : lawTerm b q = some x ↔ (goodW (cs x.1) ∧ 1 ≤ x.2 ∧ x.2 < q) ∧ b = termC x := by
  have sp : b = b.takeWhile digC ++ b.dropWhile digC := List.takeWhile_append_dropWhile.symm
  constructor
  · intro h
    unfold lawTerm at h
    cases ht : lawTimes (b.takeWhile digC) q with
    | none => rw [ht] at h; cases h
    | some t =>
      rw [ht] at h
      have h : (if lawPlace (b.dropWhile digC) = true then some (Sx (b.dropWhile digC), t) else none) = some x := h
      by_cases c : lawPlace (b.dropWhile digC) = true
      · rw [if_pos c] at h
        obtain rfl := Option.some.inj h
        have g := place_iff.mp c
        unfold lawTimes at ht
        by_cases d : b.takeWhile digC = []
        · rw [if_pos d] at ht
          obtain rfl := Option.some.inj ht
          refine ⟨⟨by rw [cs_Sx]; exact g, Int.le_refl _, by show 1 < q; omega⟩, ?_⟩
          unfold termC
          rw [if_pos rfl, cs_Sx, List.nil_append]
          rw [d, List.nil_append] at sp
          exact sp
        · rw [if_neg d] at ht
          cases hn : lawNum (b.takeWhile digC) q with
          | none => rw [hn] at ht; cases ht
          | some v =>
            rw [hn] at ht
            have ht : (if v < 2 then none else some v) = some t := ht
            by_cases e : v < 2
            · rw [if_pos e] at ht; cases ht
            · rw [if_neg e] at ht
              obtain rfl := Option.some.inj ht
              obtain ⟨h1, h2⟩ := (lawNum_iff hq.2 (tw_all b)).mp hn
              refine ⟨⟨by rw [cs_Sx]; exact g, by show 1 ≤ v; omega, h1.2⟩, ?_⟩
              unfold termC
              rw [if_neg (show ¬ v = 1 by omega), cs_Sx, ← h2]
              exact sp
      · rw [if_neg c] at h; cases h
  · rintro ⟨⟨g, h1, h2⟩, rfl⟩
    unfold lawTerm
    by_cases c : x.2 = 1
    · have e : termC x = [] ++ cs x.1 := by unfold termC; rw [if_pos c]
      obtain ⟨d1, d2⟩ := drop_term (a := []) (w := cs x.1) rfl g
      rw [e, d1, d2]
      unfold lawTimes
      rw [if_pos rfl]
      show (if lawPlace (cs x.1) = true then some (Sx (cs x.1), (1 : Int)) else none) = some x
      rw [if_pos (place_iff.mpr g), Sx_cs, ← c]
    · have e : termC x = numC x.2 ++ cs x.1 := by unfold termC; rw [if_neg c]
      obtain ⟨d1, d2⟩ := drop_term (numC_digits x.2) g
      rw [e, d1, d2]
      unfold lawTimes
      rw [if_neg (numC_ne _), (lawNum_iff hq.2 (numC_digits _)).mpr ⟨⟨by omega, h2⟩, rfl⟩]
      show ((if x.2 < 2 then none else some x.2).bind _) = some x
      rw [if_neg (by omega)]
      show (if lawPlace (cs x.1) = true then some (Sx (cs x.1), x.2) else none) = some x
      rw [if_pos (place_iff.mpr g), Sx_cs]
theorem nextOk_iff {acc : List Tr} {t : Tr} : nextOk acc t = true ↔ acc = [] ∨ ∃ x ∈ acc.getLast?, ltS x.1 t.1 := by
  unfold nextOk
  cases h : acc.getLast? with
  | none => exact ⟨fun _ => .inl (List.getLast?_eq_none_iff.mp h), fun _ => rfl⟩
  | some x =>
    constructor
    · intro k
      have k : decide (cs x.1 < cs t.1) = true := k
      exact .inr ⟨x, rfl, (show cs x.1 < cs t.1 from of_decide_eq_true k)⟩
    · rintro (k | ⟨y, hy, k⟩)
      · rw [k] at h; cases h
      · cases hy
        have k : cs x.1 < cs t.1 := k
        show decide (cs x.1 < cs t.1) = true
        exact decide_eq_true k
theorem rise_snoc {acc : List Tr} {t : Tr} : rise (acc ++ [t]) ↔ rise acc ∧ (acc = [] ∨ ∃ x ∈ acc.getLast?, ltS x.1 t.1) := by
  unfold rise
  rw [List.map_append, List.pairwise_append]
  constructor
  · rintro ⟨h1, _, h3⟩
    refine ⟨h1, ?_⟩
    by_cases c : acc = []
    · exact .inl c
    · refine .inr ⟨acc.getLast c, List.getLast?_eq_some_getLast c, ?_⟩
      exact h3 _ (List.mem_map.mpr ⟨_, List.getLast_mem c, rfl⟩) _ (List.mem_singleton.mpr rfl)
  · rintro ⟨h1, h2⟩
    refine ⟨h1, List.pairwise_singleton _ _, fun a ma b mb => ?_⟩
    rw [List.mem_singleton.mp mb]
    rcases h2 with rfl | ⟨x, hx, lx⟩
    · cases ma
    · obtain ⟨y, hy, rfl⟩ := List.mem_map.mp ma
      have ne : acc ≠ [] := fun e => by rw [e] at hx; cases hx
      obtain ⟨init, rfl⟩ : ∃ init, acc = init ++ [x] := ⟨acc.dropLast, by
        have e := List.dropLast_concat_getLast ne
        have : acc.getLast ne = x := by
          have h0 := List.getLast?_eq_some_getLast ne
          rw [h0] at hx
          exact Option.some.inj hx
        rw [this] at e; exact e.symm⟩
      rcases List.mem_append.mp hy with hy | hy
      · rw [List.map_append, List.pairwise_append] at h1
        have := h1.2.2 y.1 (List.mem_map.mpr ⟨y, hy, rfl⟩) x.1 (List.mem_map.mpr ⟨x, List.mem_singleton.mpr rfl, rfl⟩)
        exact (show cs y.1 < cs t.1 from List.lt_trans (show cs y.1 < cs x.1 from this) (show cs x.1 < cs t.1 from lx))
      · rw [List.mem_singleton.mp hy]; exact lx
theorem lawTerms_iff {q : Int} (hq : 2 ≤ q ∧ q ≤ 997) : ∀ {bs : List (List Nat)} {acc ts : List Tr}, rise acc → (lawTerms q bs acc = some ts ↔ ∃ us, ts = acc ++ us ∧ bs = us.map termC ∧ (∀ x ∈ us, goodW (cs x.1) ∧ 1 ≤ x.2 ∧ x.2 < q) ∧ rise (acc ++ us))
  | [], acc, ts, ha => by
    show some acc = some ts ↔ _
    constructor
    · intro h
      exact ⟨[], by rw [List.append_nil]; exact (Option.some.inj h).symm, rfl, (fun x m => by cases m), by rw [List.append_nil]; exact ha⟩
    · rintro ⟨us, rfl, e, _⟩
      have : us = [] := by
        cases us with
        | nil => rfl
        | cons _ _ => cases e
      rw [this, List.append_nil]
  | b :: bs, acc, ts, ha => by
    show ((lawTerm b q).bind fun t => if nextOk acc t = true then lawTerms q bs (acc ++ [t]) else none) = some ts ↔ _
    constructor
    · intro h
      cases ht : lawTerm b q with
      | none => rw [ht] at h; cases h
      | some t =>
        rw [ht] at h
        have h : (if nextOk acc t = true then lawTerms q bs (acc ++ [t]) else none) = some ts := h
        by_cases c : nextOk acc t = true
        · rw [if_pos c] at h
          obtain ⟨us, rfl, rfl, ok, rs⟩ := (lawTerms_iff hq (rise_snoc.mpr ⟨ha, nextOk_iff.mp c⟩)).mp h
          obtain ⟨h1, rfl⟩ := (lawTerm_iff hq).mp ht
          refine ⟨t :: us, by rw [List.append_assoc]; rfl, rfl, fun x m => ?_, by rw [List.append_assoc] at rs; exact rs⟩
          rcases List.mem_cons.mp m with rfl | m
          · exact h1
          · exact ok x m
        · rw [if_neg c] at h; cases h
    · rintro ⟨us, rfl, e, ok, rs⟩
      cases us with
      | nil => cases e
      | cons t us =>
        rw [List.map_cons] at e
        injection e with e1 e2
        rw [e1, (lawTerm_iff hq (x := t)).mpr ⟨ok t List.mem_cons_self, rfl⟩]
        have rs2 : rise (acc ++ [t] ++ us) := by rw [List.append_assoc]; exact rs
        have r1 : rise (acc ++ [t]) := by
          unfold rise at rs2 ⊢
          rw [List.map_append] at rs2
          exact (List.pairwise_append.mp rs2).1
        show (if nextOk acc t = true then lawTerms q bs (acc ++ [t]) else none) = _
        rw [if_pos (nextOk_iff.mpr (rise_snoc.mp r1).2)]
        exact (lawTerms_iff hq r1).mpr ⟨us, by rw [List.append_assoc]; rfl, e2, fun x m => ok x (List.mem_cons_of_mem _ m), rs2⟩
theorem spl_ne (a : List Nat) : ∀ acc, TL.spl [43] 0 acc a ≠ [] := by
  induction a with
  | nil => intro acc; rw [TL.spl_nil]; simp
  | cons c a ih =>
    intro acc
    by_cases h : TL.pre [43] (c :: a) = true
    · rw [TL.spl_hit h]; simp
    · rw [TL.spl_miss (by simpa using h)]; exact ih _
theorem join_spl (a : List Nat) : ∀ acc, TL.joinL [43] (TL.spl [43] 0 acc a) = acc ++ a := by
  induction a with
  | nil => intro acc; rw [TL.spl_nil, List.append_nil]; rfl
  | cons c a ih =>
    intro acc
    by_cases h : TL.pre [43] (c :: a) = true
    · have c43 : c = 43 := by simpa [TL.pre] using h
      rw [TL.spl_hit h]
      have ih := ih []
      have ne := spl_ne a []
      show TL.joinL [43] (acc :: TL.spl [43] 0 [] a) = _
      cases e : TL.spl [43] 0 [] a with
      | nil => exact absurd e ne
      | cons p ps =>
        rw [e] at ih
        have j : TL.joinL [43] (acc :: p :: ps) = acc ++ [43] ++ TL.joinL [43] (p :: ps) := by first | rfl | simp [TL.joinL]
        rw [j, ih, c43]; simp
    · rw [TL.spl_miss (by simpa using h), ih]; simp
/-- THE READER: it reads just the form whose text it is -/
theorem lawRead_iff {a : List Nat} {q n : Int} {ts : List Tr} (hq : 2 ≤ q ∧ q ≤ 997) : lawRead a q = some (n, ts) ↔ FormOk q n ts ∧ textC n ts = a := by
  have ja := join_spl a []
  rw [List.nil_append] at ja
  constructor
  · intro h
    unfold lawRead at h
    cases e : TL.spl [43] 0 [] a with
    | nil => rw [e] at h; cases h
    | cons p0 rest =>
      rw [e] at h ja
      have h : (if p0.all digC = true then (lawNum p0 q).bind fun n => if n = 0 ∧ rest ≠ [] then none else (lawTerms q rest []).map fun ts => (n, ts) else (lawTerms q (p0 :: rest) []).map fun ts => ((0 : Int), ts)) = some (n, ts) := h
      by_cases hd : p0.all digC = true
      · rw [if_pos hd] at h
        cases hn : lawNum p0 q with
        | none => rw [hn] at h; cases h
        | some v =>
          rw [hn] at h
          have h : (if v = 0 ∧ rest ≠ [] then none else (lawTerms q rest []).map fun ts => (v, ts)) = some (n, ts) := h
          by_cases c : v = 0 ∧ rest ≠ []
          · rw [if_pos c] at h; cases h
          · rw [if_neg c] at h
            cases ht : lawTerms q rest [] with
            | none => rw [ht] at h; cases h
            | some us =>
              rw [ht] at h
              have h := Option.some.inj h
              injection h with h1 h2
              subst h1 h2
              obtain ⟨us', e1, e2, ok, rs⟩ := (lawTerms_iff hq (acc := []) List.Pairwise.nil).mp ht
              rw [List.nil_append] at e1 rs
              subst e1
              obtain ⟨h1, h2⟩ := (lawNum_iff hq.2 hd).mp hn
              refine ⟨⟨h1, ⟨rs, ok⟩⟩, ?_⟩
              unfold textC partsC
              have cond : v ≠ 0 ∨ us = [] := by
                by_cases z : v = 0
                · right
                  have : rest = [] := Decidable.byContradiction fun w => c ⟨z, w⟩
                  rw [this] at e2
                  cases us with
                  | nil => rfl
                  | cons _ _ => cases e2
                · exact .inl z
              rw [if_pos cond, ← e2, ← h2]
              exact ja
      · rw [if_neg hd] at h
        cases ht : lawTerms q (p0 :: rest) [] with
        | none => rw [ht] at h; cases h
        | some us =>
          rw [ht] at h
          have h := Option.some.inj h
          injection h with h1 h2
          subst h1 h2
          obtain ⟨us', e1, e2, ok, rs⟩ := (lawTerms_iff hq (acc := []) List.Pairwise.nil).mp ht
          rw [List.nil_append] at e1 rs
          subst e1
          refine ⟨⟨by omega, ⟨rs, ok⟩⟩, ?_⟩
          unfold textC partsC
          rw [if_neg (by
            rintro (z | z)
            · exact z rfl
            · rw [z] at e2; cases e2), ← e2, List.nil_append]
          exact ja
  · rintro ⟨f, rfl⟩
    have sp := split_text (n := n) f.good
    unfold lawRead
    rw [sp]
    unfold partsC
    by_cases c : n ≠ 0 ∨ ts = []
    · rw [if_pos c]
      show (if (numC n).all digC = true then (lawNum (numC n) q).bind fun n => if n = 0 ∧ ts.map termC ≠ [] then none else (lawTerms q (ts.map termC) []).map fun ts => (n, ts) else _) = some (n, ts)
      rw [if_pos (numC_digits n), (lawNum_iff hq.2 (numC_digits n)).mpr ⟨f.num, rfl⟩]
      show (if n = 0 ∧ ts.map termC ≠ [] then none else (lawTerms q (ts.map termC) []).map fun ts => (n, ts)) = some (n, ts)
      rw [if_neg (by
        rintro ⟨z, w⟩
        rcases c with c | c
        · exact c z
        · rw [c] at w; exact w rfl), (lawTerms_iff hq (acc := []) List.Pairwise.nil).mpr ⟨ts, rfl, rfl, f.ok.ok, f.ok.rise⟩]
      rfl
    · rw [if_neg c, List.nil_append]
      have n0 : n = 0 := Decidable.byContradiction fun w => c (.inl w)
      cases ts with
      | nil => exact absurd (.inr rfl) c
      | cons x us =>
        have nd : (termC x).all digC = false := by
          obtain ⟨w, r, e, hc, _⟩ := good_head (f.ok.ok x List.mem_cons_self).1
          cases h : (termC x).all digC with
          | false => rfl
          | true =>
            have := List.all_eq_true.mp h w (by unfold termC; rw [e]; exact List.mem_append_right _ List.mem_cons_self)
            rw [hc] at this; cases this
        rw [List.map_cons]
        show (if (termC x).all digC = true then _ else (lawTerms q (termC x :: us.map termC) []).map fun ts => ((0 : Int), ts)) = some (n, x :: us)
        rw [nd, if_neg (by decide), show lawTerms q (termC x :: us.map termC) [] = some (x :: us) from (lawTerms_iff hq (bs := termC x :: us.map termC) (acc := []) List.Pairwise.nil).mpr ⟨x :: us, rfl, rfl, f.ok.ok, f.ok.rise⟩, n0]
        rfl
local macro_rules | `(tactic| walk_at "ssz") => `(tactic| first | decide | exact str_small (by assumption) | (have : (1000000 : Nat) ≤ sizeLine := (by decide); omega))
local macro_rules | `(tactic| walk_at "st1") => `(tactic| first
  | with_reducible refine' r_nt ?_ | with_reducible refine' r_nf ?_
  | ((with_reducible refine r_lenS ?e1 ?_); (case e1 => walk_at "ssz"))
  | with_reducible refine r_inS ?_
  | with_reducible refine r_ninS ?_
  | ((with_reducible refine r_addS ?e1 ?_); (case e1 => walk_at "ssz"))
  | ((with_reducible refine' r_ixS ?e1 ?e2 ?_); (case e1 => walk_at "ssz"); (case e2 => first | assumption | rfl))
  | with_reducible refine r_istr ?_
  | with_reducible refine r_is ?_
  | with_reducible refine r_un ?_
  | with_reducible refine r_u ?_)
local macro_rules | `(tactic| walk_at "st1") => `(tactic| first
  | with_reducible refine r_par ?_
  | with_reducible refine r_parx ?_
  | ((with_reducible refine' r_gtup ?e1 ?e2 ?_); (case e1 => walk_at "sq"); (case e2 => rfl))
  | with_reducible refine r_gcons ?_
  | with_reducible refine r_gnil ?_
  | with_reducible refine r_disp ?_
  | with_reducible refine r_tp1 ?_
  | with_reducible refine r_tp0 ?_
  | ((with_reducible refine' r_dp1 ?e1 ?_); (case e1 => walk_at "hl"))
  | with_reducible refine r_dnewK ?_
  | with_reducible refine r_dget2 ?_
  | ((with_reducible refine' r_dg2 ?e1 ?_); (case e1 => walk_at "hl"))
  | ((with_reducible refine' r_dg3 ?e1 ?_); (case e1 => walk_at "hl"))
  | with_reducible refine r_dget ?_
  | ((with_reducible refine' r_dgv ?e1 ?e2 ?_); (case e1 => walk_at "hl"); (case e2 => assumption))
  | ((with_reducible refine' r_setD ?e1 ?e2 ?_); (case e1 => walk_at "hl"); (case e2 => omega)))
local macro_rules | `(tactic| walk_at "st1") => `(tactic| first
  | with_reducible refine r_tru ?_
  | ((with_reducible refine' r_truT ?e1 ?_); (case e1 => walk_at "sq"))
  | with_reducible refine r_isN ?_
  | with_reducible refine r_tyS ?_
  | with_reducible refine r_m1 ?_
  | with_reducible refine r_sx ?_
  | ((with_reducible refine r_strC ?e1 ?_); (case e1 => omega)))
def sp_law_figures (_ : PySem.W.Frag) : Sp := fun vs H Q _ => ∃ (a : List Nat), vs = [.str (Sx a)] ∧ a.length ≤ 100000 ∧ ∀ H', Same H H' → Q (.int (a.takeWhile digC).length) H'
def sp_law_number (_ : PySem.W.Frag) : Sp := fun vs H Q _ => ∃ (a : List Nat) (q : Int), vs = [.str (Sx a), .int q] ∧ a.length ≤ 100000 ∧ a.all digC = true ∧ ∀ H', Same H H' → Q (optV (lawNum a q)) H'
theorem tw_get {f : Nat → Bool} : ∀ {a : List Nat} {j : Nat}, j < (a.takeWhile f).length → ∃ c, a[j]? = some c ∧ f c = true
  | [], j, h => by simp at h
  | c :: a, j, h => by
    rw [List.takeWhile_cons] at h
    cases hc : f c with
    | false => rw [hc] at h; simp at h
    | true =>
      rw [hc, if_pos rfl, List.length_cons] at h
      cases j with
      | zero => exact ⟨c, rfl, hc⟩
      | succ j => exact tw_get (a := a) (j := j) (by omega)
theorem tw_end {f : Nat → Bool} : ∀ {a : List Nat} {c : Nat}, a[(a.takeWhile f).length]? = some c → f c = false
  | [], c, h => by simp at h
  | d :: a, c, h => by
    rw [List.takeWhile_cons] at h
    cases hd : f d with
    | false =>
      rw [hd] at h
      obtain rfl := Option.some.inj (show some d = some c from h)
      exact hd
    | true =>
      rw [hd, if_pos rfl, List.length_cons, List.getElem?_cons_succ] at h
      exact tw_end h
theorem tw_len (f : Nat → Bool) : ∀ a : List Nat, (a.takeWhile f).length ≤ a.length
  | [] => Nat.le_refl _
  | c :: a => by
    rw [List.takeWhile_cons]
    split
    · rw [List.length_cons, List.length_cons]; have := tw_len f a; omega
    · simp
theorem at_Sx {a : List Nat} {j c : Nat} (e : a[j]? = some c) : atI (Sx a).cps.toList (j : Int) = some c := atI_nat e
theorem r_slFrom {a : List Nat} {i : Int} {H : Hp} {Q : VK} (h : a.length ≤ 1000000) (h0 : 0 ≤ i) (q : Q (.str (Sx (a.drop i.toNat))) H) : rSlTx (.str (Sx a)) (some i) none H Q := ⟨_, rfl, by rw [Sx_len]; exact Nat.le_trans h (by decide), by rw [SX.slice_from h0]; exact q⟩
section
variable {P : Program} {w : World} {K : PySem.W.Frag} {mg : Str → Option Value} {base : Heap}
theorem ok_law_figures (T : Tx K mg)  {f : Addr} {fd : FuncData} (F : Here K mg "_law_figures" s_law_figures ["word"] f fd) : Cal P w K mg base "_law_figures" 1 ["word"] (sp_law_figures K) s_law_figures f fd := by
  refine F.cal sc_law_figures (fun vs H Q E h => ?_) (fun cdv A outer s H vs Q E hr h => ?_)
  · obtain ⟨a, rfl, _⟩ := h
    rfl
  · obtain ⟨a, rfl, ha, q⟩ := h
    refine ⟨_, (pss_cons (ps_set (i := 1) sc_law_figures.nd rfl (by first | exact .inl rfl | exact .inr rfl) pe_int)
      (pss_cons (ps_while PassesOwn.never (PW.pt (pw_and (pt_cmpR op_lt (pv 1) (pe_callB cr_lenS (by rfl) T.m_len (by decide +kernel) (pa_cons (pv 0) pa_nil)) (nomark _)) (pw_and1 (pt_cmpR op_inS (pe_ix ix_str (pv 0) (pv 1) (fun _ _ => rfl)) pe_str (by rfl))))) (pss_one (ps_set (i := 1) sc_law_figures.nd rfl (by first | exact .inl rfl | exact .inr rfl) (pe_op op_add (pv 1) pe_int))))
      (pss_one (ps_ret (pv 1))))), ?_⟩
    have hla : (Sx a).length ≤ sizeLine := by rw [Sx_len]; exact Nat.le_trans ha (by decide)
    have tl := tw_len digC a
    walk_at "st"
    refine ⟨fun m σ' H' => ∃ j : Nat, m = a.length - j ∧ j ≤ (a.takeWhile digC).length ∧ σ' = [some (.str (Sx a)), some (.int j)] ∧ H' = H, ⟨_, 0, rfl, Nat.zero_le _, rfl, rfl⟩, fun m σ' H' w => ?_⟩
    obtain ⟨j, rfl, hj, rfl, rfl⟩ := w
    walk_at "st"
    rw [Sx_len]
    have fin : j = (a.takeWhile digC).length → Q (.int j) H' := fun e => by
      have := q H' (Same.refl _)
      rw [e]; exact this
    refine r_ite (fun h1 => ?_) (fun h1 => ?_)
    · obtain ⟨c, ec⟩ : ∃ c, a[j]? = some c := ⟨a[j]'(by omega), List.getElem?_eq_getElem (by omega)⟩
      have ix := at_Sx ec
      walk_at "st"
      have e2 : decide (c ∈ (Str.ofString "0123456789").cps.toList) = digC c := (digC_iff c).symm
      rw [e2]
      by_cases lt : j < (a.takeWhile digC).length
      · obtain ⟨c', ec', hc⟩ := tw_get lt
        obtain rfl : c = c' := Option.some.inj (ec.symm.trans ec')
        rw [hc]
        walk_at "st"
        refine ⟨fun σ' H2 => ∃ m', m' < a.length - j ∧ ∃ j : Nat, m' = a.length - j ∧ j ≤ (a.takeWhile digC).length ∧ σ' = [some (.str (Sx a)), some (.int j)] ∧ H2 = H', fun _ _ h => h, ?_⟩
        walk_at "st"
        exact ⟨a.length - (j + 1), by omega, j + 1, rfl, lt, by simp, rfl⟩
      · have ej : j = (a.takeWhile digC).length := by omega
        rw [ej] at ec
        rw [tw_end ec]
        walk_at "st"
        exact fin ej
    · walk_at "st"
      exact fin (by omega)
theorem ok_law_number (T : Tx K mg)  {f : Addr} {fd : FuncData} (F : Here K mg "_law_number" s_law_number ["word", "q"] f fd) : Cal P w K mg base "_law_number" 1 ["word", "q"] (sp_law_number K) s_law_number f fd := by
  refine F.cal sc_law_number (fun vs H Q E h => ?_) (fun cdv A outer s H vs Q E hr h => ?_)
  · obtain ⟨a, p, rfl, _⟩ := h
    rfl
  · obtain ⟨a, p, rfl, ha, hd, q⟩ := h
    refine ⟨_, (pss_cons (ps_if (PW.pt (pw_or (pt_cmpR op_eq (pv 0) pe_str (nomark _)) (pw_or (pt_cmpR op_gt (pe_callB cr_lenS (by rfl) T.m_len (by decide +kernel) (pa_cons (pv 0) pa_nil)) pe_int (nomark _)) (pw_or1 (PW.pt (pw_and (pt_cmpR op_eq (pe_ix ix_str (pv 0) pe_int (fun _ _ => rfl)) pe_str (nomark _)) (pw_and1 (pt_cmpR op_ne (pv 0) pe_str (nomark _))))))))) (pss_one (ps_ret pe_non)) pss_nil)
      (pss_one (ps_ret (pe_ifExp (pt_cmpR op_lt (pe_callTy cr_intS (by rfl) T.m_int (by decide +kernel) (pa_cons (pv 0) pa_nil)) (pv 1) (nomark _)) (pe_callTy cr_intS (by rfl) T.m_int (by decide +kernel) (pa_cons (pv 0) pa_nil)) pe_non)))), ?_⟩
    have hla : (Sx a).length ≤ sizeLine := by rw [Sx_len]; exact Nat.le_trans ha (by decide)
    have no : (a = [] ∨ 3 < a.length ∨ (a.head? = some 48 ∧ a ≠ [48])) → Q .non H := fun e => by
      have := q H (Same.refl _)
      unfold lawNum at this
      rw [if_pos e] at this
      exact this
    walk_at "st"
    walk_at "if"
    have e1 : decide (V.str (Sx a) = V.str (Str.ofString "")) = decide (a = []) := by
      refine decide_eq_decide.mpr ⟨fun z => ?_, fun z => by rw [z]; rfl⟩
      injection z with z
      have := congrArg cs z
      exact this
    rw [e1]
    refine r_ite (fun h1 => ?_) (fun h1 => ?_)
    · walk_at "st"
      exact no (.inl h1)
    · walk_at "st"
      rw [Sx_len]
      refine r_ite (fun h2 => ?_) (fun h2 => ?_)
      · walk_at "st"
        exact no (.inr (.inl (by omega)))
      · obtain ⟨c, r, rfl⟩ : ∃ c r, a = c :: r := by
          cases a with
          | nil => exact absurd rfl h1
          | cons c r => exact ⟨c, r, rfl⟩
        have ix : atI (Sx (c :: r)).cps.toList 0 = some c := (show atI (c :: r) ((0 : Nat) : Int) = some c from atI_nat rfl)
        have yes : ¬ (c = 48 ∧ c :: r ≠ [48]) → ∀ te : Bool, (te = decide (((NumText.digitsVal (c :: r) : Nat) : Int) < p)) → if te = true then Q (.int ((NumText.digitsVal (c :: r) : Nat) : Int)) H else Q .non H := fun z te hte => by
          have := q H (Same.refl _)
          unfold lawNum at this
          rw [if_neg (by
            rintro (e | e | e)
            · cases e
            · omega
            · exact z ⟨Option.some.inj e.1, e.2⟩)] at this
          subst hte
          by_cases lt : ((NumText.digitsVal (c :: r) : Nat) : Int) < p
          · rw [if_pos lt] at this
            rw [if_pos (decide_eq_true lt)]; exact this
          · rw [if_neg lt] at this
            rw [if_neg (by simpa using lt)]; exact this
        have rint : ∀ Q' : VK, Q' (.int ((NumText.digitsVal (c :: r) : Nat) : Int)) H → rIntS [.str (Sx (c :: r))] H Q' := fun Q' k => ⟨_, _, rfl, SX.int_S hd (List.cons_ne_nil _ _) (by omega), by rw [Sx_len]; omega, k⟩
        walk_at "st"
        have e2 : decide (V.str ⟨#[c]⟩ = V.str (Str.ofString "0")) = decide (c = 48) := by
          refine decide_eq_decide.mpr ⟨fun z => ?_, fun z => by rw [z]; rfl⟩
          injection z with z
          injection z with z
          have : #[c] = #[48] := z
          simpa using this
        have e3 : decide (V.str (Sx (c :: r)) = V.str (Str.ofString "0")) = decide (c :: r = [48]) := by
          refine decide_eq_decide.mpr ⟨fun z => ?_, fun z => by rw [z]; rfl⟩
          injection z with z
          exact congrArg cs z
        rw [e2]
        have rest : ¬ (c = 48 ∧ c :: r ≠ [48]) → ∀ R : Prop, R → True := fun _ _ _ => trivial
        refine r_ite (fun h4 => ?_) (fun h4 => ?_)
        · walk_at "st"
          rw [e3]
          by_cases h5 : c :: r = [48]
          · rw [decide_eq_true h5]
            walk_at "st"
            refine rint _ ?_
            walk_at "st"
            have yy := yes (fun z => z.2 h5) _ rfl
            by_cases lt : ((NumText.digitsVal (c :: r) : Nat) : Int) < p
            · rw [if_pos (decide_eq_true lt)] at yy ⊢
              walk_at "st"
              exact rint _ yy
            · rw [if_neg (by simpa using lt)] at yy ⊢
              exact yy
          · rw [decide_eq_false h5]
            walk_at "st"
            exact no (.inr (.inr ⟨by rw [h4]; rfl, h5⟩))
        · walk_at "st"
          refine rint _ ?_
          walk_at "st"
          have yy := yes (fun z => h4 z.1) _ rfl
          by_cases lt : ((NumText.digitsVal (c :: r) : Nat) : Int) < p
          · rw [if_pos (decide_eq_true lt)] at yy ⊢
            walk_at "st"
            exact rint _ yy
          · rw [if_neg (by simpa using lt)] at yy ⊢
            exact yy
end
local macro_rules | `(tactic| walk_at "ssz") => `(tactic| first | decide | exact str_small (by assumption) | (have : (1000000 : Nat) ≤ sizeLine := (by decide); omega))
local macro_rules | `(tactic| walk_at "st1") => `(tactic| first
  | with_reducible refine' r_nt ?_ | with_reducible refine' r_nf ?_
  | ((with_reducible refine r_lenS ?e1 ?_); (case e1 => walk_at "ssz"))
  | with_reducible refine r_inS ?_
  | with_reducible refine r_ninS ?_
  | ((with_reducible refine r_addS ?e1 ?_); (case e1 => walk_at "ssz"))
  | ((with_reducible refine' r_ixS ?e1 ?e2 ?_); (case e1 => walk_at "ssz"); (case e2 => first | assumption | rfl))
  | with_reducible refine r_istr ?_
  | with_reducible refine r_is ?_
  | with_reducible refine r_un ?_
  | with_reducible refine r_u ?_)
local macro_rules | `(tactic| walk_at "st1") => `(tactic| first
  | with_reducible refine r_par ?_
  | with_reducible refine r_parx ?_
  | ((with_reducible refine' r_gtup ?e1 ?e2 ?_); (case e1 => walk_at "sq"); (case e2 => rfl))
  | with_reducible refine r_gcons ?_
  | with_reducible refine r_gnil ?_
  | with_reducible refine r_disp ?_
  | with_reducible refine r_tp1 ?_
  | with_reducible refine r_tp0 ?_
  | ((with_reducible refine' r_dp1 ?e1 ?_); (case e1 => walk_at "hl"))
  | with_reducible refine r_dnewK ?_
  | with_reducible refine r_dget2 ?_
  | ((with_reducible refine' r_dg2 ?e1 ?_); (case e1 => walk_at "hl"))
  | ((with_reducible refine' r_dg3 ?e1 ?_); (case e1 => walk_at "hl"))
  | with_reducible refine r_dget ?_
  | ((with_reducible refine' r_dgv ?e1 ?e2 ?_); (case e1 => walk_at "hl"); (case e2 => assumption))
  | ((with_reducible refine' r_setD ?e1 ?e2 ?_); (case e1 => walk_at "hl"); (case e2 => omega)))
local macro_rules | `(tactic| walk_at "st1") => `(tactic| first
  | with_reducible refine r_tru ?_
  | ((with_reducible refine' r_truT ?e1 ?_); (case e1 => walk_at "sq"))
  | with_reducible refine r_isN ?_
  | with_reducible refine r_tyS ?_
  | with_reducible refine r_m1 ?_
  | with_reducible refine r_sx ?_
  | ((with_reducible refine r_strC ?e1 ?_); (case e1 => omega)))
def sp_law_term (_ : PySem.W.Frag) : Sp := fun vs H Q _ => ∃ (a : List Nat) (q : Int), vs = [.str (Sx a), .int q] ∧ a.length ≤ 100000 ∧ (∀ H', Same H H' → lawTerm a q = none → Q .non H') ∧ ∀ (x : Tr) (t : Addr) (H' : Hp), Same H H' → lawTerm a q = some x → H' t = some (.tup [.str x.1, .int x.2]) → Q (.ref t) H'
def sp_law_written (_ : PySem.W.Frag) : Sp := fun vs H Q _ => ∃ (a : Addr) (n : Int) (ts : List Tr), vs = [.ref a] ∧ FrmV H (.ref a) n ts ∧ (0 ≤ n ∧ n ≤ 1000) ∧ (∀ x ∈ ts, (cs x.1).length ≤ 100 ∧ 1 ≤ x.2 ∧ x.2 ≤ 1000) ∧ ts.length ≤ 100 ∧ ∀ H', Same H H' → Q (.str (Sx (textC n ts))) H'
section
variable {P : Program} {w : World} {K : PySem.W.Frag} {mg : Str → Option Value} {base : Heap}
theorem ok_law_term (T : Tx K mg) {f_law_figures : Addr} {fd_law_figures : FuncData} (C_law_figures : Cal P w K mg base "_law_figures" 1 ["word"] (sp_law_figures K) s_law_figures f_law_figures fd_law_figures) {f_law_number : Addr} {fd_law_number : FuncData} (C_law_number : Cal P w K mg base "_law_number" 1 ["word", "q"] (sp_law_number K) s_law_number f_law_number fd_law_number) {f : Addr} {fd : FuncData} (F : Here K mg "_law_term" s_law_term ["piece", "q"] f fd) : Cal P w K mg base "_law_term" 2 ["piece", "q"] (sp_law_term K) s_law_term f fd := by
  refine F.cal sc_law_term (fun vs H Q E h => ?_) (fun cdv A outer s H vs Q E hr h => ?_)
  · obtain ⟨a, p, rfl, _⟩ := h
    rfl
  · obtain ⟨a, p, rfl, ha, q0, q1⟩ := h
    refine ⟨_, (pss_cons (ps_set (i := 2) sc_law_term.nd rfl (by first | exact .inl rfl | exact .inr rfl) (pe_call C_law_figures.ok (hr.mono (by decide)) (by rfl) C_law_figures.at_ C_law_figures.kp C_law_figures.b .nil pass0 (pa_cons (pv 0) pa_nil)))
      (pss_cons (ps_par (i := 3) (j := 4) rfl sc_law_term.nd rfl rfl (by decide) rfl rfl (pa_cons (pe_slice sl_txtK (pv 0) (po_some (pv 2)) po_none) (pa_cons pe_int pa_nil)) (by rfl))
      (pss_cons (ps_if (pt_cmpR op_gt (pv 2) pe_int (nomark _)) (pss_cons (ps_set (i := 4) sc_law_term.nd rfl (by first | exact .inl rfl | exact .inr rfl) (pe_call C_law_number.ok (hr.mono (by decide)) (by rfl) C_law_number.at_ C_law_number.kp C_law_number.b .nil pass0 (pa_cons (pe_slice sl_txtK (pv 0) po_none (po_some (pv 2))) (pa_cons (pv 1) pa_nil))))
      (pss_one (ps_if (PW.pt (pw_or (pt_cmpR op_isNn (pv 4) pe_non (nomark _)) (pw_or1 (pt_cmpR op_lt (pv 4) pe_int (nomark _))))) (pss_one (ps_ret pe_non)) pss_nil))) pss_nil)
      (pss_cons (ps_setLc (i := 5) rfl sc_law_term.nd rfl rfl (sw_true rfl rfl rfl (by decide +kernel)) (pi_str (pv 3)) (blkOk_by (own := [("sign", 6)]) (N := ["piece", "q", "many", "place", "times", "odd", "sign"]) (sc := (defScope s_law_term)) (by decide +kernel)) (fun _ _ _ _ _ => (pg_name (i := 6) sc_law_term.nd rfl (by first | exact .inl rfl | exact .inr rfl))) (fun _ _ _ _ _ => (pts_one (pt_cmpR op_ninS (pv 6) pe_str (by rfl)))) (fun _ _ _ _ _ => (pv 6)))
      (pss_cons (ps_if (PW.pt (pw_or (pt_cmpR (op_neNilK (K := K) (hu_of64 hr)) (pv 5) (pe_lst pa_nil) (nomark _)) (pw_or (pt_not (pt_chain op_le op_le pe_int (pe_callB cr_lenS (by rfl) T.m_len (by decide +kernel) (pa_cons (pv 3) pa_nil)) pe_int)) (pw_or1 (pt_cmpR op_ninS (pe_ix ix_str (pv 3) pe_int (fun _ _ => rfl)) pe_str (by rfl)))))) (pss_one (ps_ret pe_non)) pss_nil)
      (pss_one (ps_ret (pe_tup (pa_cons (pv 3) (pa_cons (pv 4) pa_nil)))))))))), ?_⟩
    have tl := tw_len digC a
    have esp : a.drop (a.takeWhile digC).length = a.dropWhile digC := drop_tw digC a
    have ets : a.take (a.takeWhile digC).length = a.takeWhile digC := take_tw digC a
    walk_at "st"
    refine ⟨a, rfl, ha, fun H1 s1 => ?_⟩
    walk_at "st"
    refine r_slFrom (by omega) (by omega) ?_
    rw [Int.toNat_natCast, esp]
    walk_at "st"
    have lpl : (a.dropWhile digC).length ≤ a.length := drop_len digC a
    have hlp : (Sx (a.dropWhile digC)).length ≤ sizeLine := by rw [Sx_len]; exact Nat.le_trans (show _ ≤ 100000 by omega) (by decide)
    refine r_join (fun σ' H' => ∃ t : Int, lawTimes (a.takeWhile digC) p = some t ∧ σ' = [some (.str (Sx a)), some (.int p), some (.int (a.takeWhile digC).length), some (.str (Sx (a.dropWhile digC))), some (.int t), none, none] ∧ Same H H') (fun σ' H' g => ?_) (fun N hN => ?_)
    rotate_left
    · walk_at "if"
      refine r_ite (fun h => ?_) (fun h => ?_)
      · have dne : a.takeWhile digC ≠ [] := fun e => by rw [e] at h; simp at h
        walk_at "st"
        refine r_slTo (by omega) (by omega) ?_
        rw [Int.toNat_natCast, ets]
        walk_at "st"
        refine ⟨a.takeWhile digC, p, rfl, by omega, tw_all a, fun H2 s2 => ?_⟩
        walk_at "st"
        have none_of : lawTimes (a.takeWhile digC) p = none → Q .non H2 := fun e => q0 H2 (s1.trans s2) (by unfold lawTerm; rw [e]; rfl)
        have lt : lawTimes (a.takeWhile digC) p = (lawNum (a.takeWhile digC) p).bind fun t => if t < 2 then none else some t := by unfold lawTimes; rw [if_neg dne]
        cases hn : lawNum (a.takeWhile digC) p with
        | none =>
          rw [show optV none = V.non from rfl]
          walk_at "if"
          refine r_iteB (fun _ => ?_) (fun h => by simp at h)
          walk_at "st"
          exact none_of (by rw [lt, hn]; rfl)
        | some v =>
          rw [show optV (some v) = V.int v from rfl]
          walk_at "if"
          refine r_iteB (fun h => by simp at h) (fun _ => ?_)
          walk_at "st"
          refine r_ite (fun h2 => ?_) (fun h2 => ?_)
          · walk_at "st"
            refine none_of ?_
            rw [lt, hn]
            show (if v < 2 then none else some v) = none
            rw [if_pos h2]
          · walk_at "st"
            refine hN _ _ ⟨v, ?_, rfl, s1.trans s2⟩
            rw [lt, hn]
            show (if v < 2 then none else some v) = some v
            rw [if_neg h2]
      · walk_at "st"
        have de : a.takeWhile digC = [] := List.length_eq_zero_iff.mp (by omega)
        refine hN _ _ ⟨1, by unfold lawTimes; rw [if_pos de], ?_, s1⟩
        rfl
    obtain ⟨t, ht, rfl, s2⟩ := g
    have lt0 : lawTerm a p = if lawPlace (a.dropWhile digC) = true then some (Sx (a.dropWhile digC), t) else none := by unfold lawTerm; rw [ht]; rfl
    have none_of : ∀ H2, Same H H2 → lawPlace (a.dropWhile digC) = false → Q .non H2 := fun H2 k e => q0 H2 k (by rw [lt0, e]; rfl)
    generalize hw : a.dropWhile digC = wd at *
    have hx2 : (Sx wd).cps.size ≤ 100000 := by show (Sx wd).length ≤ _; rw [Sx_len]; omega
    walk_at "st"
    intro D hD
    refine lc_filt (walk_str (z := Sx wd)) (by omega) hD (fun i => !decide (wd.getD i 0 ∈ signsL)) (fun _ _ => trivial) (fun i H1 x H2 y => by rw [y.1]; exact Same.refl _)
      (fun i x' H3 H4 Y No hi sm y hY hN => ?_) (fun ys H3 ey ly sm eD => ?_)
    · obtain ⟨rfl, c, ec, rfl⟩ := y
      have gd : wd.getD i 0 = c := by
        rw [List.getD_eq_getElem?_getD]
        have e0 := Array.getElem?_toList (xs := (Sx wd).cps) (i := i)
        have : wd[i]? = some c := (show wd[i]? = _ from e0).trans ec
        rw [this]; rfl
      rw [gd] at hY hN
      refine ⟨rfl, ?_⟩
      walk_at "st"
      have e2 : decide (c ∈ (Str.ofString "abcdefghijklmnopqrstuvwxyz0123456789.").cps.toList) = decide (c ∈ signsL) := rfl
      rw [e2]
      cases hc : decide (c ∈ signsL) with
      | true =>
        rw [hc] at hN
        walk_at "st"
        exact hN rfl _ (Same.refl _)
      | false =>
        rw [hc] at hY
        walk_at "st"
        exact hY rfl _ _ (Same.refl _)
    have ey2 : ys.isEmpty = wd.all fun c => decide (c ∈ signsL) := by
      rw [ey]
      have e9 := range_all (fun c => decide (c ∈ signsL)) 0 wd
      rw [← e9]
      have : (Sx wd).cps.size = wd.length := Sx_len wd
      rw [this]
      congr 1
      funext k
      simp
    have s3 := s2.trans sm
    walk_at "st"
    walk_at "if"
    intro ln hln
    have s4 := s3.trans (Same.upd_new hln (x := .lst []))
    have eD2 := hl_new (u := .lst []) eD hln
    walk_at "st"
    rw [ey2]
    have lpe : lawPlace wd = (wd.all (fun c => decide (c ∈ signsL)) && (decide (1 ≤ wd.length) && (decide (wd.length ≤ 40) && headL wd))) := rfl
    cases hall : wd.all fun c => decide (c ∈ signsL) with
    | false =>
      rw [hall] at lpe
      walk_at "st"
      exact none_of _ s4 lpe
    | true =>
      rw [hall, Bool.true_and] at lpe
      walk_at "st"
      rw [Sx_len]
      cases h1 : decide (1 ≤ wd.length) with
      | false =>
        rw [h1] at lpe
        have h1' : decide ((1 : Int) ≤ (wd.length : Int)) = false := decide_eq_false (by have := of_decide_eq_false h1; omega)
        rw [h1']
        walk_at "st"
        exact none_of _ s4 lpe
      | true =>
        rw [h1, Bool.true_and] at lpe
        have h1' : decide ((1 : Int) ≤ (wd.length : Int)) = true := decide_eq_true (by have := of_decide_eq_true h1; omega)
        rw [h1']
        walk_at "st"
        cases h2 : decide (wd.length ≤ 40) with
        | false =>
          rw [h2] at lpe
          have h2' : decide ((wd.length : Int) ≤ 40) = false := decide_eq_false (by have := of_decide_eq_false h2; omega)
          rw [h2']
          walk_at "st"
          exact none_of _ s4 lpe
        | true =>
          rw [h2, Bool.true_and] at lpe
          have h2' : decide ((wd.length : Int) ≤ 40) = true := decide_eq_true (by have := of_decide_eq_true h2; omega)
          rw [h2']
          cases wd with
          | nil => simp at h1
          | cons c r =>
          have ix : atI (Sx (c :: r)).cps.toList 0 = some c := (show atI (c :: r) ((0 : Nat) : Int) = some c from atI_nat rfl)
          walk_at "st"
          have e5 : decide (c ∈ (Str.ofString "abcdefghijklmnopqrstuvwxyz").cps.toList) = decide (c ∈ lettersL) := rfl
          rw [e5]
          have lpe : lawPlace (c :: r) = decide (c ∈ lettersL) := lpe
          cases h3 : decide (c ∈ lettersL) with
          | false =>
            rw [h3] at lpe
            walk_at "st"
            exact none_of _ s4 lpe
          | true =>
            rw [h3] at lpe
            walk_at "st"
            intro tt htt
            exact q1 (Sx (c :: r), t) tt _ (s4.trans (Same.upd_new htt)) (by rw [lt0, lpe]; rfl) upd_same
end
local macro_rules | `(tactic| walk_at "ssz") => `(tactic| first | decide | exact str_small (by assumption) | (have : (1000000 : Nat) ≤ sizeLine := (by decide); omega))
local macro_rules | `(tactic| walk_at "st1") => `(tactic| first
  | with_reducible refine' r_nt ?_ | with_reducible refine' r_nf ?_
  | ((with_reducible refine r_lenS ?e1 ?_); (case e1 => walk_at "ssz"))
  | with_reducible refine r_inS ?_
  | with_reducible refine r_ninS ?_
  | ((with_reducible refine r_addS ?e1 ?_); (case e1 => walk_at "ssz"))
  | ((with_reducible refine' r_ixS ?e1 ?e2 ?_); (case e1 => walk_at "ssz"); (case e2 => first | assumption | rfl))
  | with_reducible refine r_istr ?_
  | with_reducible refine r_is ?_
  | with_reducible refine r_un ?_
  | with_reducible refine r_u ?_)
local macro_rules | `(tactic| walk_at "st1") => `(tactic| first
  | with_reducible refine r_par ?_
  | with_reducible refine r_parx ?_
  | ((with_reducible refine' r_gtup ?e1 ?e2 ?_); (case e1 => walk_at "sq"); (case e2 => rfl))
  | with_reducible refine r_gcons ?_
  | with_reducible refine r_gnil ?_
  | with_reducible refine r_disp ?_
  | with_reducible refine r_tp1 ?_
  | with_reducible refine r_tp0 ?_
  | ((with_reducible refine' r_dp1 ?e1 ?_); (case e1 => walk_at "hl"))
  | with_reducible refine r_dnewK ?_
  | with_reducible refine r_dget2 ?_
  | ((with_reducible refine' r_dg2 ?e1 ?_); (case e1 => walk_at "hl"))
  | ((with_reducible refine' r_dg3 ?e1 ?_); (case e1 => walk_at "hl"))
  | with_reducible refine r_dget ?_
  | ((with_reducible refine' r_dgv ?e1 ?e2 ?_); (case e1 => walk_at "hl"); (case e2 => assumption))
  | ((with_reducible refine' r_setD ?e1 ?e2 ?_); (case e1 => walk_at "hl"); (case e2 => omega)))
local macro_rules | `(tactic| walk_at "st1") => `(tactic| first
  | with_reducible refine r_tru ?_
  | ((with_reducible refine' r_truT ?e1 ?_); (case e1 => walk_at "sq"))
  | with_reducible refine r_isN ?_
  | with_reducible refine r_tyS ?_
  | with_reducible refine r_m1 ?_
  | with_reducible refine r_sx ?_
  | ((with_reducible refine r_strC ?e1 ?_); (case e1 => omega)))
section
variable {P : Program} {w : World} {K : PySem.W.Frag} {mg : Str → Option Value} {base : Heap}
theorem ok_law_written (T : Tx K mg)  {f : Addr} {fd : FuncData} (F : Here K mg "_law_written" s_law_written ["lot"] f fd) : Cal P w K mg base "_law_written" 1 ["lot"] (sp_law_written K) s_law_written f fd := by
  refine F.cal sc_law_written (fun vs H Q E h => ?_) (fun cdv A outer s H vs Q E hr h => ?_)
  · obtain ⟨a, n, ts, rfl, _⟩ := h
    rfl
  · obtain ⟨a, n, ts, rfl, ⟨a, b, us, e1, ha, hb, hts⟩, hn, ht0, lt, q⟩ := h
    cases e1
    have sl : (1000000 : Nat) ≤ sizeLine := by decide
    have lus : us.length = ts.length := hts.1
    refine ⟨_, (pss_cons (ps_set (i := 1) sc_law_written.nd rfl (by first | exact .inl rfl | exact .inr rfl) (pe_ifExp (PW.pt (pw_or (pt_cmpR op_ne (pe_ix (ix_tupK (K := K)) (pv 0) pe_int (fun _ _ => rfl)) pe_int (nomark _)) (pw_or1 (pt_cmpR (op_eqNilTK (K := K) (hu_of64 hr)) (pe_ix (ix_tupK (K := K)) (pv 0) pe_int (fun _ _ => rfl)) (pe_tup pa_nil) (nomark _))))) (pe_lst (pa_cons (pe_callTy cr_strOf (by rfl) T.m_str (by decide +kernel) (pa_cons (pe_ix (ix_tupK (K := K)) (pv 0) pe_int (fun _ _ => rfl)) pa_nil)) pa_nil)) (pe_lst pa_nil)))
      (pss_cons (ps_for PassesOwn.never rfl (pi_tupK (K := K) (pe_ix (ix_tupK (K := K)) (pv 0) pe_int (fun _ _ => rfl))) (castPG (K := K) (n := 2) (pg_tup rfl (pgs_cons (pg_name (i := 2) sc_law_written.nd rfl (by first | exact .inl rfl | exact .inr rfl)) (pgs_cons (pg_name (i := 3) sc_law_written.nd rfl (by first | exact .inl rfl | exact .inr rfl)) pgs_nil)))) (pss_one (ps_expr (castBM (K := K) (pe_bm PySem.F.plainAttrs_list PySem.F.slot_list_append PySem.F.type_list_append mt_append (pv 1) (pa_cons (pe_op op_addS (pe_ifExp (pt_cmpR op_gt (pv 3) pe_int (nomark _)) (pe_callTy cr_strOf (by rfl) T.m_str (by decide +kernel) (pa_cons (pv 3) pa_nil)) pe_str) (pv 2)) pa_nil))))))
      (pss_one (ps_ret (castM1 (K := K) (pe_join pe_str (pv 1))))))), ?_⟩
    walk_at "st1"
    walk_at "st1"
    refine r_joinE (fun v H' => ∃ l, v = .ref l ∧ Same H H' ∧ H l = none ∧ H' l = some (.lst ((if n ≠ 0 ∨ ts = [] then [numC n] else []).map fun a => V.str (Sx a)))) (fun v H' g => ?_) (fun Q' hQ => ?_)
    rotate_left
    · walk_at "st"
      have e1 : (!decide (V.int n = V.int 0)) = decide (n ≠ 0) := by
        rw [← decide_not]
        exact decide_eq_decide.mpr ⟨fun h z => h (by rw [z]), fun h z => h (by injection z)⟩
      rw [e1]
      refine r_ite (fun h => ?_) (fun h => ?_)
      · walk_at "st"
        intro l hl
        refine hQ _ _ ⟨l, rfl, Same.upd_new hl, hl, ?_⟩
        rw [upd_same, if_pos (.inl h)]; rfl
      · walk_at "st"
        intro t ht
        have hb2 := hl_new (u := .tup []) hb ht
        walk_at "st"
        have ee : us.isEmpty = decide (ts = []) := by
          cases us with
          | nil =>
            have : ts = [] := List.length_eq_zero_iff.mp (by rw [← lus]; rfl)
            rw [this]; rfl
          | cons u us =>
            cases ts with
            | nil => simp at lus
            | cons _ _ => rfl
        rw [show id us.isEmpty = us.isEmpty from rfl, ee]
        refine r_ite (fun h2 => ?_) (fun h2 => ?_)
        · walk_at "st"
          intro l hl
          refine hQ _ _ ⟨l, rfl, (Same.upd_new ht).trans (Same.upd_new hl), (Same.upd_new ht (x := .tup [])).free hl, ?_⟩
          rw [upd_same, if_pos (.inr h2)]; rfl
        · walk_at "st"
          intro l hl
          refine hQ _ _ ⟨l, rfl, (Same.upd_new ht).trans (Same.upd_new hl), (Same.upd_new ht (x := .tup [])).free hl, ?_⟩
          rw [upd_same, if_neg (fun z => z.elim h h2)]; rfl
    obtain ⟨l, rfl, s1, nl, el⟩ := g
    have hb1 := s1 _ _ hb
    have ha1 := s1 _ _ ha
    walk_at "st"
    refine lp_by (walk_tup (a := b) (xs := us)) (fun i σ' HB => ∃ x2 x3, σ' = [some (.ref a), some (.ref l), x2, x3] ∧ Same H HB ∧ HB l = some (.lst (((if n ≠ 0 ∨ ts = [] then [numC n] else []) ++ (ts.take i).map termC).map fun a => V.str (Sx a))))
      ⟨none, none, rfl, s1, by simpa using el⟩ (fun i σ' HB _ g => by obtain ⟨_, _, _, sm, _⟩ := g; exact SqT.of (sm _ _ hb)) (fun i x σ' HB HC hi g y => ?_) (fun σ' HB g => ?_)
    · obtain ⟨x2, x3, rfl, sm, eB⟩ := g
      obtain ⟨rfl, ex⟩ := y
      obtain ⟨⟨z, k⟩, ez, t, rfl, ht⟩ := hts.2 i x ex
      have ht2 := sm _ _ ht
      have hx := ht0 _ (List.mem_of_getElem? ez)
      have hx1 : (cs z).length ≤ 100 := hx.1
      have hx2 : 1 ≤ k ∧ k ≤ 1000 := hx.2
      have hz : z.length ≤ 100 := by rw [← cs_len]; exact hx1
      have hn7 : (numC k).length ≤ 7 := numC_le (by omega)
      have l1 : ((if n ≠ 0 ∨ ts = [] then [numC n] else []) : List (List Nat)).length ≤ 1 := by split <;> simp
      have i100 : i < 100 := by omega
      refine ⟨t, _, rfl, SqT.of ht2, rfl, ?_⟩
      walk_at "st"
      have e4 : Sx (if k = 1 then [] else numC k) ++ z = Sx (termC (z, k)) := by
        unfold termC
        have := SX.S_cat (if k = 1 then [] else numC k) (cs z)
        rw [show SX.S (cs z) = z from Sx_cs z] at this
        exact this
      have fin : ∀ y : Str, y = Sx (termC (z, k)) → ∃ x2 x3, [some (V.ref a), some (V.ref l), some (V.str z), some (V.int k)] = [some (V.ref a), some (V.ref l), x2, x3] ∧ Same H (upd HC l (.lst ((((if n ≠ 0 ∨ ts = [] then [numC n] else []) ++ (ts.take i).map termC).map fun a => V.str (Sx a)) ++ [.str y]))) ∧
          (upd HC l (.lst ((((if n ≠ 0 ∨ ts = [] then [numC n] else []) ++ (ts.take i).map termC).map fun a => V.str (Sx a)) ++ [.str y]))) l = some (.lst (((if n ≠ 0 ∨ ts = [] then [numC n] else []) ++ (ts.take (i + 1)).map termC).map fun a => V.str (Sx a))) := fun y ey => by
        refine ⟨_, _, rfl, fun b o e => hl_set (ne_of_none e nl) (sm _ _ e), ?_⟩
        rw [upd_same, List.take_succ, ez, ey]
        simp
      have lz : (((if n ≠ 0 ∨ ts = [] then [numC n] else []) ++ (ts.take i).map termC).map fun a => V.str (Sx a)).length < sizeLine := by
        rw [List.length_map, List.length_append, List.length_map, List.length_take]
        omega
      refine r_ite (fun h => ?_) (fun h => ?_)
      · rw [if_neg (show ¬ k = 1 by omega)] at e4
        have lsum : (Sx (numC k)).length + z.length ≤ 1000 := by rw [Sx_len]; omega
        walk_at "st"
        refine r_addS (Nat.le_trans lsum (by decide)) ?_
        walk_at "st"
        exact fin _ e4
      · rw [if_pos (show k = 1 by omega)] at e4
        have lsum : (Str.ofString "").length + z.length ≤ 1000 := by show 0 + _ ≤ _; omega
        walk_at "st"
        refine r_addS (Nat.le_trans lsum (by decide)) ?_
        walk_at "st"
        exact fin _ e4
    · obtain ⟨x2, x3, rfl, sm, eB⟩ := g
      rw [List.take_of_length_le (by omega)] at eB
      have hsum : ∀ qs : List (List Nat), (∀ q ∈ qs, q.length ≤ 200) → ((qs.map Sx).map (·.length)).sum ≤ 200 * qs.length := fun qs => by
        induction qs with
        | nil => intro _; simp
        | cons q0 qs ih =>
          intro h
          rw [List.map_cons, List.map_cons, List.sum_cons, List.length_cons, Sx_len]
          have := ih fun x m => h x (List.mem_cons_of_mem _ m)
          have := h q0 List.mem_cons_self
          omega
      have hpl := parts_len n ts
      have hs2 := hsum (partsC n ts) fun q0 m => by
        unfold partsC at m
        rcases List.mem_append.mp m with m | m
        · split at m
          · rw [List.mem_singleton.mp m]; have := numC_le (p := n) (by omega); omega
          · cases m
        · obtain ⟨x, hx, rfl⟩ := List.mem_map.mp m
          have h1 := ht0 x hx
          have h2 := numC_le (p := x.2) (by omega)
          unfold termC
          rw [List.length_append]
          split
          · simp; omega
          · omega
      walk_at "st"
      have eB2 : HB l = some (.lst (((partsC n ts).map Sx).map V.str)) := by
        rw [eB]
        unfold partsC
        rw [List.map_map]; rfl
      refine r_joinS (SqL.of eB2) ?_ ?_
      · rw [List.length_map]
        have : (Str.ofString "+").length = 1 := rfl
        rw [this]
        omega
      · have : Txt.join (Str.ofString "+") ((partsC n ts).map Sx) = Sx (textC n ts) := SX.join_S [43] (partsC n ts)
        rw [this]
        exact q _ sm
end
local macro_rules | `(tactic| walk_at "ssz") => `(tactic| first | decide | exact str_small (by assumption) | (have : (1000000 : Nat) ≤ sizeLine := (by decide); omega))
local macro_rules | `(tactic| walk_at "st1") => `(tactic| first
  | with_reducible refine' r_nt ?_ | with_reducible refine' r_nf ?_
  | ((with_reducible refine r_lenS ?e1 ?_); (case e1 => walk_at "ssz"))
  | with_reducible refine r_inS ?_
  | with_reducible refine r_ninS ?_
  | ((with_reducible refine r_addS ?e1 ?_); (case e1 => walk_at "ssz"))
  | ((with_reducible refine' r_ixS ?e1 ?e2 ?_); (case e1 => walk_at "ssz"); (case e2 => first | assumption | rfl))
  | with_reducible refine r_istr ?_
  | with_reducible refine r_is ?_
  | with_reducible refine r_un ?_
  | with_reducible refine r_u ?_)
local macro_rules | `(tactic| walk_at "st1") => `(tactic| first
  | with_reducible refine r_par ?_
  | with_reducible refine r_parx ?_
  | ((with_reducible refine' r_gtup ?e1 ?e2 ?_); (case e1 => walk_at "sq"); (case e2 => rfl))
  | with_reducible refine r_gcons ?_
  | with_reducible refine r_gnil ?_
  | with_reducible refine r_disp ?_
  | with_reducible refine r_tp1 ?_
  | with_reducible refine r_tp0 ?_
  | ((with_reducible refine' r_dp1 ?e1 ?_); (case e1 => walk_at "hl"))
  | with_reducible refine r_dnewK ?_
  | with_reducible refine r_dget2 ?_
  | ((with_reducible refine' r_dg2 ?e1 ?_); (case e1 => walk_at "hl"))
  | ((with_reducible refine' r_dg3 ?e1 ?_); (case e1 => walk_at "hl"))
  | with_reducible refine r_dget ?_
  | ((with_reducible refine' r_dgv ?e1 ?e2 ?_); (case e1 => walk_at "hl"); (case e2 => assumption))
  | ((with_reducible refine' r_setD ?e1 ?e2 ?_); (case e1 => walk_at "hl"); (case e2 => omega)))
local macro_rules | `(tactic| walk_at "st1") => `(tactic| first
  | with_reducible refine r_tru ?_
  | ((with_reducible refine' r_truT ?e1 ?_); (case e1 => walk_at "sq"))
  | with_reducible refine r_isN ?_
  | with_reducible refine r_tyS ?_
  | with_reducible refine r_m1 ?_
  | with_reducible refine r_sx ?_
  | ((with_reducible refine r_strC ?e1 ?_); (case e1 => omega)))
def rGeS : R2 := fun x y H Q => ∃ i j, x = .str i ∧ y = .str j ∧ Q (.bl (!decide (i.cps.toList < j.cps.toList))) H
theorem op_geS {X : Cx} : OpR X (compareOp .GtE) rGeS := op_ge_str
theorem r_geS {H : Hp} {Q : VK} {i j : Str} (q : Q (.bl (!decide (i.cps.toList < j.cps.toList))) H) : rGeS (.str i) (.str j) H Q := ⟨i, j, rfl, rfl, q⟩
theorem r_par3 {D : Ends} {σ : L2.St} {H : Hp} {i j l : Nat} {ta : TA} (h : ta σ H fun vs H1 => ∃ v w u, vs = [v, w, u] ∧ D.nx (((σ.set i (some v)).set j (some w)).set l (some u)) H1) : tPar3 i j l ta D σ H := h
theorem r_par3x {v w u : V} {R : V → V → V → Prop} (h : R v w u) : ∃ v' w' u', [v, w, u] = [v', w', u'] ∧ R v' w' u' := ⟨v, w, u, rfl, h⟩
local macro_rules | `(tactic| walk_at "st1") => `(tactic| first
  | with_reducible refine r_par3 ?_
  | with_reducible refine r_par3x ?_
  | with_reducible refine r_geS ?_)
theorem tw_full {f : Nat → Bool} : ∀ {a : List Nat}, (a.takeWhile f).length = a.length ↔ a.all f = true
  | [] => ⟨fun _ => rfl, fun _ => rfl⟩
  | c :: a => by
    rw [List.takeWhile_cons, List.all_cons]
    cases h : f c with
    | false => exact ⟨fun e => by simp at e, fun e => by simp at e⟩
    | true =>
      rw [if_pos rfl, List.length_cons, List.length_cons, Bool.true_and, ← tw_full (a := a)]
      omega
theorem Trs.last {H : Hp} {us : List V} {ts : List Tr} (h : Trs H us ts) (ne : us ≠ []) : ∃ u y, us.getLast? = some u ∧ ts.getLast? = some y ∧ atI us (-1) = some u ∧ TrV H u y := by
  obtain ⟨ui, u, rfl⟩ : ∃ ui u, us = ui ++ [u] := ⟨us.dropLast, us.getLast ne, (List.dropLast_concat_getLast ne).symm⟩
  have l := h.1
  rw [List.length_append] at l
  obtain ⟨y, ey, hy⟩ := h.2 ui.length u (by simp)
  refine ⟨u, y, by simp, ?_, atI_last _ _, hy⟩
  rw [List.getLast?_eq_getElem?]
  have : ts.length - 1 = ui.length := by simp at l; omega
  rw [this]; exact ey
def sp_law_read (_ : PySem.W.Frag) : Sp := fun vs H Q _ => (∃ (a : List Nat) (q : Int), vs = [.str (Sx a), .int q] ∧ a.length ≤ 10000 ∧ (2 ≤ q ∧ q ≤ 997) ∧ (∀ (v : V) (n : Int) (ts : List Tr) (H' : Hp), Same H H' → FormOk q n ts → textC n ts = a → FrmV H' v n ts → Q v H') ∧ ((∀ n ts, FormOk q n ts → textC n ts ≠ a) → ∀ H', Same H H' → Q .non H')) ∨
  ∃ (S : List Addr) (v : V) (o : O) (p : Int), vs = [v, .int p] ∧ Rep S H v o ∧ noStr o ∧ Q .non H
section
variable {P : Program} {w : World} {K : PySem.W.Frag} {mg : Str → Option Value} {base : Heap}
theorem ok_law_read (T : Tx K mg) {f_law_figures : Addr} {fd_law_figures : FuncData} (C_law_figures : Cal P w K mg base "_law_figures" 1 ["word"] (sp_law_figures K) s_law_figures f_law_figures fd_law_figures) {f_law_number : Addr} {fd_law_number : FuncData} (C_law_number : Cal P w K mg base "_law_number" 1 ["word", "q"] (sp_law_number K) s_law_number f_law_number fd_law_number) {f_law_term : Addr} {fd_law_term : FuncData} (C_law_term : Cal P w K mg base "_law_term" 2 ["piece", "q"] (sp_law_term K) s_law_term f_law_term fd_law_term) {f : Addr} {fd : FuncData} (F : Here K mg "_law_read" s_law_read ["word", "q"] f fd) : Cal P w K mg base "_law_read" 3 ["word", "q"] (sp_law_read K) s_law_read f fd := by
  refine F.cal sc_law_read (fun vs H Q E h => ?_) (fun cdv A outer s H vs Q E hr h => ?_)
  · rcases h with ⟨a, p, rfl, _⟩ | ⟨S, v, o, p, rfl, _⟩ <;> rfl
  · refine ⟨_, (pss_cons (ps_if (pt_not (pt_val (pe_callB (cr_isiK (K := K)) (by rfl) T.m_isinstance (by decide +kernel) (pa_cons (pv 0) (pa_cons (pe_bltn (v := .ty "str") (by rfl) T.m_str (by decide +kernel) rfl) pa_nil))))) (pss_one (ps_ret pe_non)) pss_nil)
      (pss_cons (ps_par3 (i := 2) (j := 3) (l := 4) rfl sc_law_read.nd rfl rfl rfl (by decide) (by decide) (by decide) rfl rfl rfl (pa_cons (castBM (K := K) (pe_bm PySem.F.plainAttrs_str PySem.F.slot_str_split PySem.F.type_str_split mt_splK (pv 0) (pa_cons pe_str pa_nil))) (pa_cons pe_int (pa_cons (pe_lst pa_nil) pa_nil))) (by rfl))
      (pss_cons (ps_if (pt_cmpR op_eq (pe_call C_law_figures.ok (hr.mono (by decide)) (by rfl) C_law_figures.at_ C_law_figures.kp C_law_figures.b .nil pass0 (pa_cons (pe_ix (ix_listK (K := K)) (pv 2) pe_int (fun _ _ => rfl)) pa_nil)) (pe_callB cr_lenS (by rfl) T.m_len (by decide +kernel) (pa_cons (pe_ix (ix_listK (K := K)) (pv 2) pe_int (fun _ _ => rfl)) pa_nil)) (nomark _)) (pss_cons (ps_set (i := 3) sc_law_read.nd rfl (by first | exact .inl rfl | exact .inr rfl) (pe_call C_law_number.ok (hr.mono (by decide)) (by rfl) C_law_number.at_ C_law_number.kp C_law_number.b .nil pass0 (pa_cons (pe_ix (ix_listK (K := K)) (pv 2) pe_int (fun _ _ => rfl)) (pa_cons (pv 1) pa_nil))))
      (pss_cons (ps_if (PW.pt (pw_or (pt_cmpR op_isNn (pv 3) pe_non (nomark _)) (pw_or1 (PW.pt (pw_and (pt_cmpR op_eq (pv 3) pe_int (nomark _)) (pw_and1 (pt_cmpR op_gt (pe_callB (cr_lenK (K := K)) (by rfl) T.m_len (by decide +kernel) (pa_cons (pv 2) pa_nil)) pe_int (nomark _)))))))) (pss_one (ps_ret pe_non)) pss_nil)
      (pss_one (ps_set (i := 2) sc_law_read.nd rfl (by first | exact .inl rfl | exact .inr rfl) (pe_slice (sl_listK (K := K)) (pv 2) (po_some pe_int) po_none))))) pss_nil)
      (pss_cons (ps_for PassesOwn.never rfl (pi_listK (K := K) (pv 2)) (pg_name (i := 5) sc_law_read.nd rfl (by first | exact .inl rfl | exact .inr rfl)) (pss_cons (ps_set (i := 6) sc_law_read.nd rfl (by first | exact .inl rfl | exact .inr rfl) (pe_call C_law_term.ok (hr.mono (by decide)) (by rfl) C_law_term.at_ C_law_term.kp C_law_term.b .nil pass0 (pa_cons (pv 5) (pa_cons (pv 1) pa_nil))))
      (pss_cons (ps_if (PW.pt (pw_or (pt_cmpR op_isNn (pv 6) pe_non (nomark _)) (pw_or1 (PW.pt (pw_and (pt_cmpR (op_neNilK (K := K) (hu_of64 hr)) (pv 4) (pe_lst pa_nil) (nomark _)) (pw_and1 (pt_cmpR op_geS (pe_ix (ix_tupK (K := K)) (pe_ix (ix_listK (K := K)) (pv 4) (pe_un un_neg pe_int) (fun _ _ => rfl)) pe_int (fun _ _ => rfl)) (pe_ix (ix_tupK (K := K)) (pv 6) pe_int (fun _ _ => rfl)) (nomark _)))))))) (pss_one (ps_ret pe_non)) pss_nil)
      (pss_one (ps_expr (castBM (K := K) (pe_bm PySem.F.plainAttrs_list PySem.F.slot_list_append PySem.F.type_list_append mt_append (pv 4) (pa_cons (pv 6) pa_nil))))))))
      (pss_one (ps_ret (pe_tup (pa_cons (pv 3) (pa_cons (pe_callTy (cr_tupOfK (K := K)) (by rfl) T.m_tuple (by decide +kernel) (pa_cons (pv 4) pa_nil)) pa_nil))))))))), ?_⟩
    rcases h with ⟨a, p, rfl, la, hp, q1, q2⟩ | ⟨S, v, o, p, rfl, ro, no, q⟩
    rotate_left
    · cases ro <;> first | exact absurd no id | (walk_at "st"; walk_at "if"; exact q)
    have la2 : (Sx a).length ≤ 10000 := by rw [Sx_len]; exact la
    have es : Txt.split (Sx a) (Str.ofString "+") = (TL.spl [43] 0 [] a).map Sx := SX.split_S (a := a) (b := [43]) (by simp) (by decide)
    have wt := PyProof.Rows.split_weight (Sx a) (Str.ofString "+") (by decide)
    rw [es] at wt
    have hpart : ∀ b ∈ TL.spl [43] 0 [] a, b.length ≤ 10001 := fun b m => by
      have h1 : b.length ≤ (((TL.spl [43] 0 [] a).map Sx).map (·.length)).sum := by
        have m2 : b.length ∈ ((TL.spl [43] 0 [] a).map Sx).map (·.length) := List.mem_map.mpr ⟨Sx b, List.mem_map_of_mem m, Sx_len b⟩
        exact mem_le_sum m2
      omega
    have eR : ∀ n ts, lawRead a p = some (n, ts) ↔ FormOk p n ts ∧ textC n ts = a := fun n ts => lawRead_iff hp
    have none_of : lawRead a p = none → ∀ H', Same H H' → Q .non H' := fun e H' k => q2 (fun n ts f z => by
      have := (eR n ts).mpr ⟨f, z⟩
      rw [e] at this; cases this) H' k
    walk_at "st"
    walk_at "if"
    refine ⟨_, _, rfl, rfl, rfl, by have : (1000000 : Nat) ≤ sizeLine := (by decide); omega, fun l hl => ?_⟩
    rw [es]
    have lsp : (TL.spl [43] 0 [] a).length ≤ 10001 := by
      have h1 := wt
      have : ∀ zs : List (List Nat), zs.length ≤ zs.length := fun _ => Nat.le_refl _
      rw [List.length_map] at h1
      omega
    unfold lawRead at eR none_of
    generalize hsp : TL.spl [43] 0 [] a = parts at *
    cases parts with
    | nil => exact absurd hsp (spl_ne a [])
    | cons x0 rest =>
    have eR : ∀ n ts, (if x0.all digC = true then (lawNum x0 p).bind fun n => if n = 0 ∧ rest ≠ [] then none else (lawTerms p rest []).map fun ts => (n, ts) else (lawTerms p (x0 :: rest) []).map fun ts => ((0 : Int), ts)) = some (n, ts) ↔ FormOk p n ts ∧ textC n ts = a := eR
    have none_of : (if x0.all digC = true then (lawNum x0 p).bind fun n => if n = 0 ∧ rest ≠ [] then none else (lawTerms p rest []).map fun ts => (n, ts) else (lawTerms p (x0 :: rest) []).map fun ts => ((0 : Int), ts)) = none → ∀ H', Same H H' → Q .non H' := none_of
    have el : upd H l (.lst (((x0 :: rest).map Sx).map V.str)) l = some (.lst (((x0 :: rest).map Sx).map V.str)) := upd_same
    have s1 : Same H (upd H l (.lst (((x0 :: rest).map Sx).map V.str))) := Same.upd_new hl
    generalize upd H l (.lst (((x0 :: rest).map Sx).map V.str)) = H1 at *
    have ix : atI (((x0 :: rest).map Sx).map V.str) 0 = some (V.str (Sx x0)) := (show atI _ ((0 : Nat) : Int) = _ from atI_nat rfl)
    have lx0 := hpart x0 List.mem_cons_self
    have hl3 : (Sx x0).length ≤ sizeLine := by rw [Sx_len]; exact Nat.le_trans (show _ ≤ 10001 from lx0) (by decide)
    walk_at "st"
    intro lt hlt
    have s2 := s1.trans (Same.upd_new hlt (x := .lst []))
    have el2 := hl_new (u := .lst []) el hlt
    have elt : upd H1 lt (.lst []) lt = some (.lst []) := upd_same
    have nlt : H lt = none := s1.free hlt
    clear s1 el
    generalize upd H1 lt (.lst []) = H2 at *
    walk_at "st"
    refine r_join (fun σ' HB => ∃ (pl : Addr) (ps : List (List Nat)) (num : Int), σ' = [some (.str (Sx a)), some (.int p), some (.ref pl), some (.int num), some (.ref lt), none, none] ∧ Same H HB ∧ HB pl = some (.lst ((ps.map Sx).map V.str)) ∧ HB lt = some (.lst []) ∧ pl ≠ lt ∧ (∀ b ∈ ps, b.length ≤ 10001) ∧ ps.length ≤ 10001 ∧
      (∀ ts, lawTerms p ps [] = some ts → FormOk p num ts ∧ textC num ts = a) ∧ (lawTerms p ps [] = none → ∀ H', Same H H' → Q .non H')) (fun σ' HB g => ?_) (fun N hN => ?_)
    rotate_left
    · walk_at "if"
      refine ⟨x0, rfl, by omega, fun H3 s3 => ?_⟩
      have el3 := s3 _ _ el2
      have elt3 := s3 _ _ elt
      walk_at "st"
      rw [Sx_len]
      have ed : decide (V.int ((x0.takeWhile digC).length : Int) = V.int (x0.length : Int)) = x0.all digC := by
        rw [Bool.eq_iff_iff, decide_eq_true_iff, ← tw_full]
        constructor
        · intro z
          injection z with z
          omega
        · intro z
          rw [z]
      rw [ed]
      cases hd : x0.all digC with
      | false =>
        rw [hd] at eR none_of
        rw [if_neg (by decide)] at none_of
        walk_at "st"
        refine hN _ _ ⟨l, x0 :: rest, 0, rfl, s2.trans s3, el3, elt3, (fun e => by rw [e, elt3] at el3; cases el3), hpart, lsp, fun ts e => ?_, fun e => none_of (by rw [e]; rfl)⟩
        refine (eR 0 ts).mp ?_
        rw [if_neg (by decide), e]; rfl
      | true =>
        rw [hd] at eR none_of
        rw [if_pos rfl] at none_of
        walk_at "st"
        refine ⟨x0, p, rfl, by omega, hd, fun H4 s4 => ?_⟩
        have el4 := s4 _ _ el3
        have elt4 := s4 _ _ elt3
        cases hn : lawNum x0 p with
        | none =>
          rw [hn] at none_of
          rw [show optV none = V.non from rfl]
          walk_at "st"
          walk_at "if"
          refine r_iteB (fun _ => ?_) (fun h => by simp at h)
          walk_at "st"
          exact none_of rfl _ ((s2.trans s3).trans s4)
        | some v =>
          rw [hn] at none_of
          have none_of : (if v = 0 ∧ rest ≠ [] then none else (lawTerms p rest []).map fun ts => (v, ts)) = none → ∀ H', Same H H' → Q .non H' := none_of
          have eR : ∀ n ts, (if v = 0 ∧ rest ≠ [] then none else (lawTerms p rest []).map fun ts => (v, ts)) = some (n, ts) ↔ FormOk p n ts ∧ textC n ts = a := fun n ts => by
            have := eR n ts
            rw [if_pos rfl, hn] at this
            exact this
          rw [show optV (some v) = V.int v from rfl]
          walk_at "st"
          have go : ¬ (v = 0 ∧ rest ≠ []) → ∀ q, H4 q = none → N [some (.str (Sx a)), some (.int p), some (.ref q), some (.int v), some (.ref lt), none, none] (upd H4 q (.lst ((rest.map Sx).map V.str))) := fun nc q hq => by
            rw [if_neg nc] at none_of
            refine hN _ _ ⟨q, rest, v, rfl, ((s2.trans s3).trans s4).trans (Same.upd_new hq), upd_same, hl_new elt4 hq, (fun e => by rw [e, elt4] at hq; cases hq), fun b m => hpart b (List.mem_cons_of_mem _ m), by simp at lsp; omega, fun ts e => ?_, fun e => none_of (by rw [e]; rfl)⟩
            refine (eR v ts).mp ?_
            rw [if_neg nc, e]; rfl
          have ecut : cutV (((x0 :: rest).map Sx).map V.str) (some 1) none = (rest.map Sx).map V.str := by rw [cut_from1]; rfl
          walk_at "if"
          refine r_iteB (fun h => by simp at h) (fun _ => ?_)
          walk_at "st"
          have ev : decide (V.int v = V.int 0) = decide (v = 0) := decide_eq_decide.mpr ⟨fun h => by injection h, fun h => by rw [h]⟩
          rw [ev]
          refine r_ite (fun h0 => ?_) (fun h0 => ?_)
          · walk_at "st"
            refine r_ite (fun h1 => ?_) (fun h1 => ?_)
            · walk_at "st"
              have rn : rest ≠ [] := fun e => by rw [e] at h1; simp at h1
              exact none_of (by rw [if_pos ⟨h0, rn⟩]) _ ((s2.trans s3).trans s4)
            · have rn : rest = [] := by
                cases rest with
                | nil => rfl
                | cons _ _ => exfalso; apply h1; simp; omega
              walk_at "st"
              intro q hq
              rw [ecut]
              exact go (fun z => z.2 rn) q hq
          · walk_at "st"
            intro q hq
            rw [ecut]
            exact go (fun z => h0 z.1) q hq
    clear eR none_of elt el2 s2 hpart
    obtain ⟨pl, ps, num, rfl, sB, epl, elt, npl, hps, lps, yes, no⟩ := g
    walk_at "st"
    refine lp_by (walk_list (a := pl) (xs := (ps.map Sx).map V.str)) (fun i σ' HC => ∃ x5 x6 us ts, σ' = [some (.str (Sx a)), some (.int p), some (.ref pl), some (.int num), some (.ref lt), x5, x6] ∧ Same H HC ∧ HC pl = some (.lst ((ps.map Sx).map V.str)) ∧ HC lt = some (.lst us) ∧ Trs HC us ts ∧ ts.length ≤ i ∧ lawTerms p ps [] = lawTerms p (ps.drop i) ts)
      ⟨none, none, [], [], rfl, sB, epl, elt, Trs.nil, Nat.le_refl _, rfl⟩ (fun i σ' HC _ g => by obtain ⟨_, _, _, _, _, _, e, _⟩ := g; exact SqL.of e) (fun i x σ' HC HD hi g y => ?_) (fun σ' HC g => ?_)
    · obtain ⟨x5, x6, us, ts, rfl, sC, eC, ltC, tr, lts, eq⟩ := g
      obtain ⟨rfl, ex⟩ := y
      rw [List.map_map, List.getElem?_map] at ex
      cases eb : ps[i]? with
      | none => rw [eb] at ex; cases ex
      | some b =>
      rw [eb] at ex
      obtain rfl := Option.some.inj ex
      have mb := hps b (List.mem_of_getElem? eb)
      have dr : ps.drop i = b :: ps.drop (i + 1) := by
        obtain ⟨h1, h2⟩ := List.getElem?_eq_some_iff.mp eb
        rw [List.drop_eq_getElem_cons h1, h2]
      rw [dr] at eq
      have eq : lawTerms p ps [] = (lawTerm b p).bind fun t => if nextOk ts t = true then lawTerms p (ps.drop (i + 1)) (ts ++ [t]) else none := eq
      have i1 : i < 10001 := by rw [List.length_map, List.length_map] at hi; omega
      walk_at "st"
      refine ⟨b, p, rfl, by omega, fun HE sE e => ?_, fun x t HE sE e ht => ?_⟩
      · walk_at "st"
        walk_at "if"
        refine r_iteB (fun _ => ?_) (fun h => by simp at h)
        walk_at "st"
        exact no (by rw [eq, e]; rfl) _ (sC.trans sE)
      · rw [e] at eq
        have eq : lawTerms p ps [] = if nextOk ts x = true then lawTerms p (ps.drop (i + 1)) (ts ++ [x]) else none := eq
        have ltE := sE _ _ ltC
        have eE := sE _ _ eC
        have trE := tr.to (Tups.same sE)
        have lz : us.length < sizeLine := by rw [tr.1]; exact Nat.lt_of_le_of_lt lts (Nat.lt_of_lt_of_le i1 (by decide))
        have go : nextOk ts x = true → ∀ HF, Same HE HF → ∃ x5 x6 us_1 ts_1, [some (.str (Sx a)), some (.int p), some (.ref pl), some (.int num), some (.ref lt), some (V.str (Sx b)), some (V.ref t)] = [some (.str (Sx a)), some (.int p), some (.ref pl), some (.int num), some (.ref lt), x5, x6] ∧ Same H (upd HF lt (.lst (us ++ [.ref t]))) ∧
            (upd HF lt (.lst (us ++ [.ref t]))) pl = some (.lst ((ps.map Sx).map V.str)) ∧ (upd HF lt (.lst (us ++ [.ref t]))) lt = some (.lst us_1) ∧ Trs (upd HF lt (.lst (us ++ [.ref t]))) us_1 ts_1 ∧ ts_1.length ≤ i + 1 ∧ lawTerms p ps [] = lawTerms p (ps.drop (i + 1)) ts_1 := fun nk HF sF => by
          refine ⟨_, _, us ++ [.ref t], ts ++ [x], rfl, fun c o e => hl_set (ne_of_none e nlt) (sF _ _ (sE _ _ (sC _ _ e))), hl_set npl (sF _ _ eE), upd_same, ((trE.append (Trs.one ⟨t, rfl, ht⟩)).to (Tups.same sF)).to (Tups.lst (sF _ _ ltE)), by rw [List.length_append]; simp; omega, ?_⟩
          rw [eq, if_pos nk]
        walk_at "st"
        walk_at "if"
        refine r_iteB (fun h => by simp at h) (fun _ => ?_)
        walk_at "st"
        intro l0 hl0
        have ltF := hl_new (u := .lst []) ltE hl0
        have s0 : Same HE (upd HE l0 (.lst [])) := Same.upd_new hl0
        walk_at "st"
        by_cases hu : us = []
        · have hts : ts = [] := List.length_eq_zero_iff.mp (by rw [← tr.1, hu]; rfl)
          rw [show not us.isEmpty = false by rw [hu]; rfl]
          walk_at "st"
          exact go (by rw [hts]; rfl) _ s0
        · rw [show not us.isEmpty = true by cases us with | nil => exact absurd rfl hu | cons _ _ => rfl]
          obtain ⟨u, y, eu, ey, ea, tu, rfl, hu2⟩ := (trE.to (Tups.same s0)).last hu
          have htF := hl_new (u := .lst []) ht hl0
          walk_at "st"
          have nk : nextOk ts x = decide (cs y.1 < cs x.1) := by unfold nextOk; rw [ey]
          have e7 : decide (y.1.cps.toList < x.1.cps.toList) = decide (cs y.1 < cs x.1) := rfl
          rw [e7]
          cases hlt2 : decide (cs y.1 < cs x.1) with
          | true =>
            walk_at "st"
            exact go (by rw [nk, hlt2]) _ s0
          | false =>
            walk_at "st"
            exact no (by rw [eq, nk, hlt2]; rfl) _ (sC.trans (sE.trans s0))
    · obtain ⟨x5, x6, us, ts, rfl, sC, eC, ltC, tr, lts, eq⟩ := g
      rw [List.length_map, List.length_map, List.drop_length] at eq
      obtain ⟨f, et⟩ := yes ts eq
      walk_at "st"
      intro bt hbt
      walk_at "st"
      intro ft hft
      have S6 : Same HC (upd (upd HC bt (.tup us)) ft (.tup [V.int num, V.ref bt])) := (Same.upd_new hbt).trans (Same.upd_new hft)
      exact q1 _ num ts _ (sC.trans S6) f et ⟨ft, bt, us, rfl, upd_same, hl_new upd_same hft, tr.to (Tups.same S6)⟩
end
local macro_rules | `(tactic| walk_at "ssz") => `(tactic| first | decide | exact str_small (by assumption) | (have : (1000000 : Nat) ≤ sizeLine := (by decide); omega))
local macro_rules | `(tactic| walk_at "st1") => `(tactic| first
  | with_reducible refine' r_nt ?_ | with_reducible refine' r_nf ?_
  | ((with_reducible refine r_lenS ?e1 ?_); (case e1 => walk_at "ssz"))
  | with_reducible refine r_inS ?_
  | with_reducible refine r_ninS ?_
  | ((with_reducible refine r_addS ?e1 ?_); (case e1 => walk_at "ssz"))
  | ((with_reducible refine' r_ixS ?e1 ?e2 ?_); (case e1 => walk_at "ssz"); (case e2 => first | assumption | rfl))
  | with_reducible refine r_istr ?_
  | with_reducible refine r_is ?_
  | with_reducible refine r_un ?_
  | with_reducible refine r_u ?_)
local macro_rules | `(tactic| walk_at "st1") => `(tactic| first
  | with_reducible refine r_par ?_
  | with_reducible refine r_parx ?_
  | ((with_reducible refine' r_gtup ?e1 ?e2 ?_); (case e1 => walk_at "sq"); (case e2 => rfl))
  | with_reducible refine r_gcons ?_
  | with_reducible refine r_gnil ?_
  | with_reducible refine r_disp ?_
  | with_reducible refine r_tp1 ?_
  | with_reducible refine r_tp0 ?_
  | ((with_reducible refine' r_dp1 ?e1 ?_); (case e1 => walk_at "hl"))
  | with_reducible refine r_dnewK ?_
  | with_reducible refine r_dget2 ?_
  | ((with_reducible refine' r_dg2 ?e1 ?_); (case e1 => walk_at "hl"))
  | ((with_reducible refine' r_dg3 ?e1 ?_); (case e1 => walk_at "hl"))
  | with_reducible refine r_dget ?_
  | ((with_reducible refine' r_dgv ?e1 ?e2 ?_); (case e1 => walk_at "hl"); (case e2 => assumption))
  | ((with_reducible refine' r_setD ?e1 ?e2 ?_); (case e1 => walk_at "hl"); (case e2 => omega)))
local macro_rules | `(tactic| walk_at "st1") => `(tactic| first
  | with_reducible refine r_tru ?_
  | ((with_reducible refine' r_truT ?e1 ?_); (case e1 => walk_at "sq"))
  | with_reducible refine r_isN ?_
  | with_reducible refine r_tyS ?_
  | with_reducible refine r_m1 ?_
  | with_reducible refine r_sx ?_
  | ((with_reducible refine r_strC ?e1 ?_); (case e1 => omega)))
theorem cut_drop (xs : List V) (m : Nat) : cutV xs (some (m : Int)) none = xs.drop m := by
  unfold cutV
  have e1 : HT.sIx xs.length 0 (some (m : Int)) = min m xs.length := by
    simp [HT.sIx]; omega
  have e2 : HT.sIx xs.length xs.length none = xs.length := rfl
  rw [e1, e2]
  by_cases h : m ≤ xs.length
  · rw [Nat.min_eq_left h, List.take_of_length_le (by rw [List.length_drop]; omega)]
  · rw [Nat.min_eq_right (by omega), List.drop_of_length_le (show xs.length ≤ xs.length from Nat.le_refl _), List.drop_of_length_le (by omega)]; simp
theorem cut_take (xs : List V) (m : Nat) : cutV xs none (some (m : Int)) = xs.take m := by
  unfold cutV
  have e1 : HT.sIx xs.length 0 none = 0 := rfl
  have e2 : HT.sIx xs.length xs.length (some (m : Int)) = min m xs.length := by
    simp [HT.sIx]; omega
  rw [e1, e2, List.drop_zero, Nat.sub_zero]
  by_cases h : m ≤ xs.length
  · rw [Nat.min_eq_left h]
  · rw [Nat.min_eq_right (by omega), List.take_of_length_le (Nat.le_refl _), List.take_of_length_le (by omega)]
def wtS (zs : List Str) : Nat := (zs.map fun z => z.length + 1).sum
theorem wtS_eq : ∀ zs : List Str, wtS zs = (zs.map (·.length)).sum + zs.length
  | [] => rfl
  | z :: zs => by
    have ih := wtS_eq zs
    unfold wtS at ih ⊢
    rw [List.map_cons, List.sum_cons, ih, List.map_cons, List.sum_cons, List.length_cons]; omega
theorem wtS_app (a b : List Str) : wtS (a ++ b) = wtS a + wtS b := by unfold wtS; rw [List.map_append, List.sum_append]
theorem wtS_cons (z : Str) (b : List Str) : wtS (z :: b) = z.length + 1 + wtS b := by unfold wtS; rw [List.map_cons, List.sum_cons]
theorem wtS_mem {z : Str} : ∀ {zs : List Str}, z ∈ zs → z.length + 1 ≤ wtS zs
  | y :: zs, h => by
    rw [wtS_cons]
    rcases List.mem_cons.mp h with rfl | h
    · omega
    · have := wtS_mem h; omega
theorem wtS_len : ∀ zs : List Str, zs.length ≤ wtS zs
  | [] => Nat.le_refl _
  | z :: zs => by rw [wtS_cons, List.length_cons]; have := wtS_len zs; omega
theorem wtS_set : ∀ (zs : List Str) (i : Nat) (y x : Str), zs[i]? = some y → wtS (zs.set i x) + y.length = wtS zs + x.length
  | [], i, _, _, h => by simp at h
  | z :: zs, 0, y, x, h => by
    obtain rfl := Option.some.inj h
    rw [List.set_cons_zero, wtS_cons, wtS_cons]; omega
  | z :: zs, i + 1, y, x, h => by
    rw [List.set_cons_succ, wtS_cons, wtS_cons]
    have := wtS_set zs i y x (by simpa using h)
    omega
theorem join_wt (zs : List Str) : (Txt.join (Str.ofString "+") zs).length ≤ wtS zs := by
  have e : zs = (zs.map cs).map Sx := by
    rw [List.map_map]
    conv => lhs; rw [← List.map_id zs]
    exact List.map_congr_left fun z _ => (Sx_cs z).symm
  have e2 : Txt.join (Str.ofString "+") zs = Sx (TL.joinL [43] (zs.map cs)) := by
    conv => lhs; rw [e]
    exact SX.join_S [43] (zs.map cs)
  rw [e2, Sx_len]
  refine Nat.le_trans (join_len [43] (zs.map cs)) (Nat.le_of_eq ?_)
  unfold wtS
  rw [List.map_map]
  exact congrArg List.sum (List.map_congr_left fun z _ => by
    show (cs z).length + 1 = z.length + 1
    rw [cs_len])
theorem wtS_cut (zs : List Str) (n : Nat) : wtS zs = wtS (zs.take n) + wtS (zs.drop n) := by rw [← wtS_app, List.take_append_drop]
theorem wtS_drop : ∀ (zs : List Str) (n : Nat), wtS (zs.drop (n + 1)) ≤ wtS (zs.drop n)
  | [], n => by simp
  | z :: zs, 0 => by rw [List.drop_succ_cons, List.drop_zero, List.drop_zero, wtS_cons]; omega
  | z :: zs, n + 1 => by rw [List.drop_succ_cons, List.drop_succ_cons]; exact wtS_drop zs n
theorem ixN_at {n j : Nat} (h : j < n) : ixN n (j : Int) = some j := by
  unfold ixN
  rw [if_pos (by omega), if_pos (by omega)]; rfl
def sp_law_bent (_ : PySem.W.Frag) : Sp := fun vs H Q _ => ∃ (s c : Addr) (a : List Nat), vs = [.ref s, .str (Sx a)] ∧ St s c H ∧ a.length ≤ 2000 ∧ ∀ (z : Str) H', Kp [s, c] H H' → St s c H' → z.length ≤ 2 * a.length + 10 → Q (.str z) H'
local macro_rules | `(tactic| walk_at "st1") => `(tactic| first
  | ((with_reducible refine' r_gtup ?e1 ?e2 ?_); (case e1 => walk_at "sq"); (case e2 => rfl)))
section
variable {P : Program} {w : World} {K : PySem.W.Frag} {mg : Str → Option Value} {base : Heap}
theorem ok_law_bent (T : Tx K mg) {f_law_draw : Addr} {fd_law_draw : FuncData} (C_law_draw : Cal P w K mg base "_law_draw" 1 ["state", "many"] (sp_law_draw K) s_law_draw f_law_draw fd_law_draw) {f : Addr} {fd : FuncData} (F : Here K mg "_law_bent" s_law_bent ["state", "word"] f fd) : Cal P w K mg base "_law_bent" 2 ["state", "word"] (sp_law_bent K) s_law_bent f fd := by
  refine F.cal sc_law_bent (fun vs H Q E h => ?_) (fun cdv A outer s H vs Q E hr h => ?_)
  · obtain ⟨s, c, a, rfl, _⟩ := h
    rfl
  · obtain ⟨s, c, a, rfl, st0, la, q⟩ := h
    have sl : (1000000 : Nat) ≤ sizeLine := by decide
    have la2 : (Sx a).length ≤ 2000 := by rw [Sx_len]; exact la
    have hla : (Sx a).length ≤ sizeLine := by omega
    refine ⟨_, (pss_cons (ps_par (i := 2) (j := 3) rfl sc_law_bent.nd rfl rfl (by decide) rfl rfl (pa_cons (pe_call C_law_draw.ok (hr.mono (by decide)) (by rfl) C_law_draw.at_ C_law_draw.kp C_law_draw.b .nil pass0 (pa_cons (pv 0) (pa_cons pe_int pa_nil))) (pa_cons (pe_call C_law_draw.ok (hr.mono (by decide)) (by rfl) C_law_draw.at_ C_law_draw.kp C_law_draw.b .nil pass0 (pa_cons (pv 0) (pa_cons (pe_op op_add (pe_callB cr_lenS (by rfl) T.m_len (by decide +kernel) (pa_cons (pv 1) pa_nil)) pe_int) pa_nil))) pa_nil)) (by rfl))
      (pss_cons (ps_set (i := 4) sc_law_bent.nd rfl (by first | exact .inl rfl | exact .inr rfl) (pe_ix ix_str pe_str (pe_call C_law_draw.ok (hr.mono (by decide)) (by rfl) C_law_draw.at_ C_law_draw.kp C_law_draw.b .nil pass0 (pa_cons (pv 0) (pa_cons pe_int pa_nil))) (fun _ _ => rfl)))
      (pss_cons (ps_set (i := 5) sc_law_bent.nd rfl (by first | exact .inl rfl | exact .inr rfl) (castBM (K := K) (pe_bm PySem.F.plainAttrs_str PySem.F.slot_str_split PySem.F.type_str_split mt_splK (pv 1) (pa_cons pe_str pa_nil))))
      (pss_cons (ps_par (i := 6) (j := 7) rfl sc_law_bent.nd rfl rfl (by decide) rfl rfl (pa_cons (pe_call C_law_draw.ok (hr.mono (by decide)) (by rfl) C_law_draw.at_ C_law_draw.kp C_law_draw.b .nil pass0 (pa_cons (pv 0) (pa_cons (pe_callB (cr_lenK (K := K)) (by rfl) T.m_len (by decide +kernel) (pa_cons (pv 5) pa_nil)) pa_nil))) (pa_cons (pe_call C_law_draw.ok (hr.mono (by decide)) (by rfl) C_law_draw.at_ C_law_draw.kp C_law_draw.b .nil pass0 (pa_cons (pv 0) (pa_cons (pe_callB (cr_lenK (K := K)) (by rfl) T.m_len (by decide +kernel) (pa_cons (pv 5) pa_nil)) pa_nil))) pa_nil)) (by rfl))
      (pss_cons (ps_if (pt_cmpR op_lt (pv 2) pe_int (nomark _)) (pss_one (ps_ret (pe_op op_addS (pe_op op_addS (pe_slice sl_txtK (pv 1) po_none (po_some (pv 3))) (pe_ix (ix_listK (K := K)) (pe_lst (pa_cons (pv 4) (pa_cons pe_str (pa_cons (pv 4) pa_nil)))) (pv 2) (fun _ _ => rfl))) (pe_slice sl_txtK (pv 1) (po_some (pe_op op_add (pv 3) (pe_ix (ix_listK (K := K)) (pe_lst (pa_cons pe_int (pa_cons pe_int (pa_cons pe_int pa_nil)))) (pv 2) (fun _ _ => rfl)))) po_none)))) pss_nil)
      (pss_cons (ps_if (pt_cmpR op_eq (pv 2) pe_int (nomark _)) (pss_one (ps_asg (pe_tup (pa_cons (pe_ix (ix_listK (K := K)) (pv 5) (pv 7) (fun _ _ => rfl)) (pa_cons (pe_ix (ix_listK (K := K)) (pv 5) (pv 6) (fun _ _ => rfl)) pa_nil))) (castPG (K := K) (n := 2) (pg_tup rfl (pgs_cons (pg_sub (pv 5) (pv 6) set_list) (pgs_cons (pg_sub (pv 5) (pv 7) set_list) pgs_nil)))))) (pss_one (ps_if (pt_cmpR op_eq (pv 2) pe_int (nomark _)) (pss_one (ps_set (i := 5) sc_law_bent.nd rfl (by first | exact .inl rfl | exact .inr rfl) (pe_op op_cat (pe_slice (sl_listK (K := K)) (pv 5) po_none (po_some (pv 6))) (pe_slice (sl_listK (K := K)) (pv 5) (po_some (pe_op op_add (pv 6) pe_int)) po_none)))) (pss_one (ps_if (pt_cmpR op_eq (pv 2) pe_int (nomark _)) (pss_one (ps_set (i := 5) sc_law_bent.nd rfl (by first | exact .inl rfl | exact .inr rfl) (pe_op op_cat (pe_op op_cat (pe_slice (sl_listK (K := K)) (pv 5) po_none (po_some (pv 6))) (pe_lst (pa_cons (pe_ix (ix_listK (K := K)) (pv 5) (pv 7) (fun _ _ => rfl)) pa_nil))) (pe_slice (sl_listK (K := K)) (pv 5) (po_some (pv 6)) po_none)))) (pss_one (ps_if (pt_cmpR op_eq (pv 2) pe_int (nomark _)) (pss_one (ps_asg (pe_op op_addS (pe_ix (ix_listK (K := K)) (pe_lst (pa_cons pe_str (pa_cons pe_str (pa_cons pe_str (pa_cons pe_str (pa_cons pe_str pa_nil)))))) (pe_call C_law_draw.ok (hr.mono (by decide)) (by rfl) C_law_draw.at_ C_law_draw.kp C_law_draw.b .nil pass0 (pa_cons (pv 0) (pa_cons pe_int pa_nil))) (fun _ _ => rfl)) (pe_ix (ix_listK (K := K)) (pv 5) (pv 6) (fun _ _ => rfl))) (pg_sub (pv 5) (pv 6) set_list))) (pss_one (ps_if (pt_cmpR op_eq (pv 2) pe_int (nomark _)) (pss_one (ps_set (i := 5) sc_law_bent.nd rfl (by first | exact .inl rfl | exact .inr rfl) (pe_op op_cat (pe_lst (pa_cons (pe_ix (ix_listK (K := K)) (pe_lst (pa_cons pe_str (pa_cons pe_str (pa_cons pe_str (pa_cons pe_str pa_nil))))) (pe_call C_law_draw.ok (hr.mono (by decide)) (by rfl) C_law_draw.at_ C_law_draw.kp C_law_draw.b .nil pass0 (pa_cons (pv 0) (pa_cons pe_int pa_nil))) (fun _ _ => rfl)) pa_nil)) (pv 5)))) (pss_one (ps_set (i := 5) sc_law_bent.nd rfl (by first | exact .inl rfl | exact .inr rfl) (pe_op op_cat (pv 5) (pe_lst (pa_cons (pe_ix (ix_listK (K := K)) (pe_lst (pa_cons pe_str (pa_cons pe_str (pa_cons pe_str (pa_cons pe_str pa_nil))))) (pe_call C_law_draw.ok (hr.mono (by decide)) (by rfl) C_law_draw.at_ C_law_draw.kp C_law_draw.b .nil pass0 (pa_cons (pv 0) (pa_cons pe_int pa_nil))) (fun _ _ => rfl)) pa_nil))))))))))))))
      (pss_one (ps_ret (castM1 (K := K) (pe_join pe_str (pv 5))))))))))), ?_⟩
    walk_at "st"
    refine ⟨s, c, 9, rfl, st0, by omega, fun way H1 k1 st1 hw => ?_⟩
    walk_at "st"
    rw [Sx_len]
    refine ⟨s, c, _, rfl, st1, by omega, fun at0 H2 k2 st2 hat => ?_⟩
    obtain ⟨at1, rfl⟩ : ∃ n : Nat, at0 = n := ⟨at0.toNat, by omega⟩
    walk_at "st"
    refine ⟨s, c, 19, rfl, st2, by omega, fun d3 H3 k3 st3 hd3 => ?_⟩
    obtain ⟨c3, ec3, mc3⟩ := atI_in (xs := (Str.ofString "0123456789+ab.xz-A ").cps.toList) hd3.1 (by show d3 < 19; exact hd3.2)
    have K3 : Kp [s, c] H H3 := (k1.trans k2).trans k3
    clear k1 k2 k3 st1 st2
    walk_at "st"
    have es : Txt.split (Sx a) (Str.ofString "+") = (TL.spl [43] 0 [] a).map Sx := SX.split_S (a := a) (b := [43]) (by simp) (by decide)
    have wt := PyProof.Rows.split_weight (Sx a) (Str.ofString "+") (by decide)
    rw [es] at wt
    have p1 := PyProof.Rows.split_pos (Sx a) (Str.ofString "+")
    rw [es, List.length_map] at p1
    refine ⟨_, _, rfl, rfl, rfl, by omega, fun l hl => ?_⟩
    rw [es]
    generalize hzs : (TL.spl [43] 0 [] a).map Sx = zs at *
    have lz : 1 ≤ zs.length := by rw [← hzs, List.length_map]; omega
    have wz : wtS zs ≤ a.length + 1 := by
      have this := wtS_eq zs
      rw [this]
      rw [Sx_len] at wt
      omega
    have lz2 := wtS_len zs
    have ol := st3.out hl
    have el : upd H3 l (.lst (zs.map V.str)) l = some (.lst (zs.map V.str)) := upd_same
    have st4 := st3.new hl (x := .lst (zs.map V.str))
    have K4 : Kp [s, c] H (upd H3 l (.lst (zs.map V.str))) := K3.trans (Kp.new hl)
    have nl : H l = none := K3.free hl ol
    clear K3 st3
    generalize upd H3 l (.lst (zs.map V.str)) = H4 at *
    walk_at "st"
    rw [List.length_map]
    refine ⟨s, c, _, rfl, st4, by omega, fun one H5 k5 st5 h1 => ?_⟩
    replace el := k5 _ _ el ol
    walk_at "st"
    rw [List.length_map]
    refine ⟨s, c, _, rfl, st5, by omega, fun other H6 k6 st6 h2 => ?_⟩
    replace el := k6 _ _ el ol
    have K6 : Kp [s, c] H H6 := (K4.trans k5).trans k6
    clear k5 k6 st4 st5 K4
    obtain ⟨i1, rfl⟩ : ∃ n : Nat, one = n := ⟨one.toNat, by omega⟩
    obtain ⟨i2, rfl⟩ : ∃ n : Nat, other = n := ⟨other.toNat, by omega⟩
    obtain ⟨z1, e1⟩ : ∃ z, zs[i1]? = some z := ⟨zs[i1]'(by omega), List.getElem?_eq_getElem (by omega)⟩
    obtain ⟨z2, e2⟩ : ∃ z, zs[i2]? = some z := ⟨zs[i2]'(by omega), List.getElem?_eq_getElem (by omega)⟩
    have m1 := wtS_mem (List.mem_of_getElem? e1)
    have m2 := wtS_mem (List.mem_of_getElem? e2)
    have ix1 : atI (zs.map V.str) (i1 : Int) = some (.str z1) := atI_nat (by rw [List.getElem?_map, e1]; rfl)
    have ix2 : atI (zs.map V.str) (i2 : Int) = some (.str z2) := atI_nat (by rw [List.getElem?_map, e2]; rfl)
    walk_at "st"
    walk_at "if"
    refine r_ite (fun hw3 => ?_) (fun hw3 => ?_)
    · have cases3 : way = 0 ∨ way = 1 ∨ way = 2 := by omega
      have fin : ∀ (y : Str) (d : Nat) H', Same H6 H' → y.length ≤ 1 → Q (.str (Sx (a.take at1) ++ y ++ Sx (a.drop (at1 + d)))) H' := fun y d H' k hy => by
        refine q _ _ (K6.trans (Kp.ofSame k)) (st6.same k) ?_
        rw [← cs_len, cs_append, cs_append, cs_Sx (a.take at1), cs_Sx (a.drop (at1 + d)), List.length_append, List.length_append, List.length_take, List.length_drop, cs_len]
        omega
      have lt1 : (Sx (a.take at1)).length ≤ 2000 := by rw [Sx_len, List.length_take]; omega
      have run : ∀ (y : Str) (d : Nat), y.length ≤ 1 → ∀ H', Same H6 H' → rAddS (.str (Sx (a.take at1) ++ y)) (.str (Sx (a.drop (at1 + d)))) H' Q := fun y d hy H' k => by
        refine r_addS ?_ (fin y d H' k hy)
        rw [← cs_len, ← cs_len, cs_append, cs_Sx (a.take at1), cs_Sx (a.drop (at1 + d)), List.length_append, List.length_take, List.length_drop, cs_len]
        omega
      have one1 : (⟨#[c3]⟩ : Str).length ≤ 1 := Nat.le_refl _
      rcases cases3 with rfl | rfl | rfl
      · walk_at "st"
        refine r_slTo (by omega) (by omega) ?_
        rw [Int.toNat_natCast]
        walk_at "st"
        intro l1 hl1
        walk_at "st"
        intro l2 hl2
        walk_at "st"
        refine r_slFrom (by omega) (by omega) ?_
        rw [show ((at1 : Int) + 0).toNat = at1 + 0 by omega]
        exact run _ 0 one1 _ ((Same.upd_new hl1).trans (Same.upd_new hl2))
      · walk_at "st"
        refine r_slTo (by omega) (by omega) ?_
        rw [Int.toNat_natCast]
        walk_at "st"
        intro l1 hl1
        walk_at "st"
        refine r_addS (show _ + 0 ≤ _ by omega) ?_
        walk_at "st"
        intro l2 hl2
        walk_at "st"
        refine r_slFrom (by omega) (by omega) ?_
        rw [show ((at1 : Int) + 1).toNat = at1 + 1 by omega]
        exact run _ 1 (Nat.zero_le _) _ ((Same.upd_new hl1).trans (Same.upd_new hl2))
      · walk_at "st"
        refine r_slTo (by omega) (by omega) ?_
        rw [Int.toNat_natCast]
        walk_at "st"
        intro l1 hl1
        walk_at "st"
        intro l2 hl2
        walk_at "st"
        refine r_slFrom (by omega) (by omega) ?_
        rw [show ((at1 : Int) + 1).toNat = at1 + 1 by omega]
        exact run _ 1 one1 _ ((Same.upd_new hl1).trans (Same.upd_new hl2))
    · walk_at "st"
      refine r_join (fun σ' H' => ∃ (pl : Addr) (ys : List Str), σ' = [some (.ref s), some (.str (Sx a)), some (.int way), some (.int at1), some (.str ⟨#[c3]⟩), some (.ref pl), some (.int i1), some (.int i2)] ∧ Kp [s, c] H H' ∧ St s c H' ∧ H' pl = some (.lst (ys.map V.str)) ∧ wtS ys ≤ 2 * a.length + 10) (fun σ' H' g => ?_) (fun N hN => ?_)
      · obtain ⟨pl, ys, rfl, kk, stt, epl, wy⟩ := g
        walk_at "st"
        refine r_joinS (SqL.of epl) ?_ ?_
        · have : (Str.ofString "+").length = 1 := rfl
          rw [this]
          have e := wtS_eq ys
          omega
        · exact q _ _ kk stt (Nat.le_trans (join_wt ys) wy)
      · walk_at "if"
        have ev : ∀ k : Int, decide (V.int way = V.int k) = decide (way = k) := fun k => decide_eq_decide.mpr ⟨fun h => by injection h, fun h => by rw [h]⟩
        have hi1 : i1 < zs.length := by omega
        have hi2 : i2 < zs.length := by omega
        have lmz : (zs.map V.str).length ≤ 3000 := by rw [List.length_map]; omega
        have bound : wtS zs ≤ a.length + 1 := wz
        rw [ev]
        refine r_ite (fun h => ?_) (fun h => ?_)
        · have hix1 : ixN (zs.map V.str).length (i1 : Int) = some i1 := ixN_at (by rw [List.length_map]; exact hi1)
          have hix2 : ixN ((zs.map V.str).set i1 (V.str z2)).length (i2 : Int) = some i2 := ixN_at (by rw [List.length_set, List.length_map]; exact hi2)
          walk_at "st"
          intro pt hpt
          have elp := hl_new (u := .tup [V.str z2, V.str z1]) el hpt
          have ept : upd H6 pt (.tup [V.str z2, V.str z1]) pt = some (.tup [V.str z2, V.str z1]) := upd_same
          have stp := st6.new hpt (x := .tup [V.str z2, V.str z1])
          have Kp6 := K6.trans (Kp.new hpt (x := .tup [V.str z2, V.str z1]))
          generalize upd H6 pt (.tup [V.str z2, V.str z1]) = H7 at *
          walk_at "st"
          have e3 : (zs.set i1 z2)[i2]? = some z2 := by
            rw [List.getElem?_set]
            by_cases c : i1 = i2
            · rw [if_pos c, if_pos hi1]
            · rw [if_neg c]; exact e2
          have w1 := wtS_set zs i1 z1 z2 e1
          have w2 := wtS_set (zs.set i1 z2) i2 z2 z1 e3
          refine hN _ _ ⟨l, (zs.set i1 z2).set i2 z1, rfl, (Kp6.own nl).own nl, (stp.set ol).set ol, ?_, by omega⟩
          rw [upd_same, List.map_set, List.map_set]
        · walk_at "st"
          walk_at "if"
          rw [ev]
          refine r_ite (fun h => ?_) (fun h => ?_)
          · walk_at "st"
            intro p1 hp1
            rw [cut_take, ← List.map_take]
            have el1 := hl_new (u := .lst ((zs.take i1).map V.str)) el hp1
            walk_at "st"
            intro p2 hp2
            rw [show (i1 : Int) + 1 = ((i1 + 1 : Nat) : Int) by omega, cut_drop, ← List.map_drop]
            refine r_cat (hl_new upd_same hp2) upd_same (by rw [List.length_map, List.length_map, List.length_take, List.length_drop]; omega) fun p3 hp3 => ?_
            walk_at "st"
            have wc := wtS_cut zs i1
            have wd := wtS_drop zs i1
            refine hN _ _ ⟨p3, zs.take i1 ++ zs.drop (i1 + 1), rfl, ((K6.trans (Kp.new hp1)).trans (Kp.new hp2)).trans (Kp.new hp3), ((st6.new hp1).new hp2).new hp3, by rw [upd_same, List.map_append], by rw [wtS_app]; omega⟩
          · walk_at "st"
            walk_at "if"
            rw [ev]
            refine r_ite (fun h => ?_) (fun h => ?_)
            · walk_at "st"
              intro p1 hp1
              rw [cut_take, ← List.map_take]
              have el1 := hl_new (u := .lst ((zs.take i1).map V.str)) el hp1
              walk_at "st"
              intro p2 hp2
              have el2 := hl_new (u := .lst [V.str z2]) el1 hp2
              refine r_cat (hl_new upd_same hp2) upd_same (by rw [List.length_map, List.length_take]; simp; omega) fun p3 hp3 => ?_
              have el3 := hl_new (u := .lst ((zs.take i1).map V.str ++ [V.str z2])) el2 hp3
              walk_at "st"
              intro p4 hp4
              rw [cut_drop, ← List.map_drop]
              refine r_cat (hl_new upd_same hp4) upd_same (by rw [List.length_append, List.length_map, List.length_map, List.length_take, List.length_drop]; simp; omega) fun p5 hp5 => ?_
              walk_at "st"
              have wc := wtS_cut zs i1
              refine hN _ _ ⟨p5, zs.take i1 ++ [z2] ++ zs.drop i1, rfl, ((((K6.trans (Kp.new hp1)).trans (Kp.new hp2)).trans (Kp.new hp3)).trans (Kp.new hp4)).trans (Kp.new hp5), ((((st6.new hp1).new hp2).new hp3).new hp4).new hp5, by rw [upd_same, List.map_append, List.map_append]; rfl, ?_⟩
              rw [wtS_app, wtS_app, wtS_cons]
              show wtS (zs.take i1) + (z2.length + 1 + 0) + wtS (zs.drop i1) ≤ _
              omega
            · walk_at "st"
              walk_at "if"
              rw [ev]
              refine r_ite (fun h => ?_) (fun h => ?_)
              · have hix1 : ixN (zs.map V.str).length (i1 : Int) = some i1 := ixN_at (by rw [List.length_map]; exact hi1)
                walk_at "st"
                intro p1 hp1
                have op1 := st6.out hp1
                walk_at "st"
                refine ⟨s, c, 5, rfl, st6.new hp1, by omega, fun d H7 k7 st7 hd => ?_⟩
                obtain ⟨v, ev2, mv⟩ := atI_in (xs := [V.str (Str.ofString "0"), V.str (Str.ofString "1"), V.str (Str.ofString "01"), V.str (Str.ofString "00"), V.str (Str.ofString "")]) hd.1 (by simpa using hd.2)
                obtain ⟨y, rfl, ly⟩ : ∃ y : Str, v = .str y ∧ y.length ≤ 2 := by
                  simp at mv
                  rcases mv with h | h | h | h | h
                  · exact ⟨_, h, by decide⟩
                  · exact ⟨_, h, by decide⟩
                  · exact ⟨_, h, by decide⟩
                  · exact ⟨_, h, by decide⟩
                  · exact ⟨_, h, by decide⟩
                have ep1 := k7 _ _ upd_same op1
                have el7 := k7 _ _ (hl_new el hp1) ol
                walk_at "st"
                have lz1s : z1.length ≤ 2001 := by omega
                have lyz : (y ++ z1).length = y.length + z1.length := by rw [← cs_len, cs_append, List.length_append, cs_len, cs_len]
                walk_at "st"
                have w1 := wtS_set zs i1 z1 (y ++ z1) e1
                refine hN _ _ ⟨l, zs.set i1 (y ++ z1), rfl, ((K6.trans (Kp.new hp1)).trans k7).own nl, st7.set ol, by rw [upd_same, List.map_set], by omega⟩
              · walk_at "st"
                walk_at "if"
                rw [ev]
                refine r_ite (fun h => ?_) (fun h => ?_)
                · walk_at "st"
                  intro p1 hp1
                  have op1 := st6.out hp1
                  walk_at "st"
                  refine ⟨s, c, 4, rfl, st6.new hp1, by omega, fun d H7 k7 st7 hd => ?_⟩
                  obtain ⟨v, ev2, mv⟩ := atI_in (xs := [V.str (Str.ofString "0"), V.str (Str.ofString "1"), V.str (Str.ofString "996"), V.str (Str.ofString "1000")]) hd.1 (by simpa using hd.2)
                  obtain ⟨y, rfl, ly⟩ : ∃ y : Str, v = .str y ∧ y.length ≤ 4 := by
                    simp at mv
                    rcases mv with h | h | h | h
                    · exact ⟨_, h, by decide⟩
                    · exact ⟨_, h, by decide⟩
                    · exact ⟨_, h, by decide⟩
                    · exact ⟨_, h, by decide⟩
                  have ep1 := k7 _ _ upd_same op1
                  have el7 := k7 _ _ (hl_new el hp1) ol
                  walk_at "st"
                  intro p2 hp2
                  walk_at "st"
                  refine r_cat upd_same (hl_new el7 hp2) (by show 1 + (zs.map V.str).length ≤ sizeLine; omega) fun p3 hp3 => ?_
                  walk_at "st"
                  refine hN _ _ ⟨p3, [y] ++ zs, rfl, (((K6.trans (Kp.new hp1)).trans k7).trans (Kp.new hp2)).trans (Kp.new hp3), (st7.new hp2).new hp3, by rw [upd_same, List.map_append]; rfl, ?_⟩
                  rw [wtS_app, wtS_cons]
                  show y.length + 1 + 0 + wtS zs ≤ _
                  omega
                · walk_at "st"
                  intro p1 hp1
                  have op1 := st6.out hp1
                  walk_at "st"
                  refine ⟨s, c, 4, rfl, st6.new hp1, by omega, fun d H7 k7 st7 hd => ?_⟩
                  obtain ⟨v, ev2, mv⟩ := atI_in (xs := [V.str (Str.ofString "zzz"), V.str (Str.ofString ""), V.str (Str.ofString "0"), V.str (Str.ofString "2zz.0")]) hd.1 (by simpa using hd.2)
                  obtain ⟨y, rfl, ly⟩ : ∃ y : Str, v = .str y ∧ y.length ≤ 5 := by
                    simp at mv
                    rcases mv with h | h | h | h
                    · exact ⟨_, h, by decide⟩
                    · exact ⟨_, h, by decide⟩
                    · exact ⟨_, h, by decide⟩
                    · exact ⟨_, h, by decide⟩
                  have ep1 := k7 _ _ upd_same op1
                  have el7 := k7 _ _ (hl_new el hp1) ol
                  walk_at "st"
                  intro p2 hp2
                  refine r_cat (hl_new el7 hp2) upd_same (by show (zs.map V.str).length + 1 ≤ sizeLine; omega) fun p3 hp3 => ?_
                  walk_at "st"
                  refine hN _ _ ⟨p3, zs ++ [y], rfl, (((K6.trans (Kp.new hp1)).trans k7).trans (Kp.new hp2)).trans (Kp.new hp3), (st7.new hp2).new hp3, by rw [upd_same, List.map_append]; rfl, ?_⟩
                  rw [wtS_app, wtS_cons]
                  show wtS zs + (y.length + 1 + 0) ≤ _
                  omega
end
/-! ### repr of a list of data, where nothing is being shown -/
def rRepr (K : PySem.W.Frag) : List V → Hp → VK → Prop := fun xs H Q => ∃ (a : Addr) (d : PyData), xs = [.ref a] ∧ Dp K H (.ref a) d ∧ d.showable = true ∧ d.hasDict = false ∧ d.depth ≤ 40 ∧ d.shown.length ≤ sizeLine ∧ Q (.str d.shown) H
theorem cr_repr {X : Cx} (hg : X.A.guards = some []) (hu : X.A.units + 64 < cLine) : CallR X (.builtin "repr") (rRepr X.K) := by
  intro pins s σ H xs us Q I r h
  obtain ⟨a, d, rfl, hd, sh, nd, dep, sz, q⟩ := h
  rw [Vals.ref1 r]
  obtain ⟨as, rr⟩ := Dp.reads I d _ _ hd (show L2.RelV (.ref a) (Value.ref a) from rfl)
  exact repr_of_reads' rr sh (fun z => by rw [nd] at z; cases z) hg (by omega) (fun _ _ e => e) (fun h' u tk kp => ⟨.str _, H, I.kept kp, ⟨_, rfl⟩, q⟩) sz
theorem cr_reprK {X : Cx} {K : PySem.W.Frag} (hg : X.A.guards = some []) (hu : X.A.units + 64 < cLine) (q : X.K = K := by rfl) : CallR X (.builtin "repr") (rRepr K) := q ▸ cr_repr hg hu
def show2 (b1 b2 : Bool) : Str := PyData.shown (.list [.bool b1, .bool b2])
def show4 (b1 b2 b3 b4 : Bool) : Str := PyData.shown (.list [.bool b1, .bool b2, .bool b3, .bool b4])
theorem show2_len (b1 b2 : Bool) : (show2 b1 b2).length ≤ sizeLine := by cases b1 <;> cases b2 <;> decide +kernel
theorem show4_len (b1 b2 b3 b4 : Bool) : (show4 b1 b2 b3 b4).length ≤ sizeLine := by cases b1 <;> cases b2 <;> cases b3 <;> cases b4 <;> decide +kernel
section
variable {K : PySem.W.Frag} {H : Hp} {Q : VK}
theorem r_repr2 {a : Addr} {b1 b2 : Bool} (h : SqL K H a [.bl b1, .bl b2]) (q : Q (.str (show2 b1 b2)) H) : rRepr K [.ref a] H Q :=
  ⟨a, _, rfl, .lst h (.cons (.bl b1) (.cons (.bl b2) .nil)), rfl, rfl, Nat.le_of_ble_eq_true rfl, show2_len b1 b2, q⟩
theorem r_repr4 {a : Addr} {b1 b2 b3 b4 : Bool} (h : SqL K H a [.bl b1, .bl b2, .bl b3, .bl b4]) (q : Q (.str (show4 b1 b2 b3 b4)) H) : rRepr K [.ref a] H Q :=
  ⟨a, _, rfl, .lst h (.cons (.bl b1) (.cons (.bl b2) (.cons (.bl b3) (.cons (.bl b4) .nil)))), rfl, rfl, Nat.le_of_ble_eq_true rfl, show4_len b1 b2 b3 b4, q⟩
end
/-! ### forms as data: compared, shown -/
theorem eqvAll_map {α : Type} [DecidableEq α] {g : α → PyData} (h : ∀ x y, PyData.eqv (g x) (g y) = decide (x = y)) : ∀ a b : List α, PyData.eqvAll (a.map g) (b.map g) = decide (a = b)
  | [], [] => by simp [PyData.eqvAll]
  | [], y :: b => by simp [PyData.eqvAll]
  | x :: a, [] => by simp [PyData.eqvAll]
  | x :: a, y :: b => by
    rw [List.map_cons, List.map_cons, PyData.eqvAll, h, eqvAll_map h a b]
    simp [List.cons.injEq]
theorem canLay_all {ds : List PyData} (h : ∀ d ∈ ds, d.canLay0 = true) : PyData.canLayAll0 ds = true := by
  induction ds with
  | nil => rw [PyData.canLayAll0]
  | cons d ds ih => rw [PyData.canLayAll0, h d List.mem_cons_self, ih fun e m => h e (List.mem_cons_of_mem _ m)]; rfl
theorem depth_all {ds : List PyData} {n : Nat} (h : ∀ d ∈ ds, d.depth ≤ n) : PyData.depthAll ds ≤ n := by
  induction ds with
  | nil => rw [PyData.depthAll]; exact Nat.zero_le _
  | cons d ds ih => rw [PyData.depthAll]; exact Nat.max_le.mpr ⟨h d List.mem_cons_self, ih fun e m => h e (List.mem_cons_of_mem _ m)⟩
theorem weight_all {ds : List PyData} {n : Nat} (h : ∀ d ∈ ds, d.weight ≤ n) : PyData.weightAll ds ≤ (n + 1) * ds.length := by
  induction ds with
  | nil => rw [PyData.weightAll]; exact Nat.zero_le _
  | cons d ds ih =>
    rw [PyData.weightAll, List.length_cons, Nat.mul_add]
    have := h d List.mem_cons_self
    have := ih fun e m => h e (List.mem_cons_of_mem _ m)
    omega
theorem show_all {ds : List PyData} (h : ∀ d ∈ ds, d.showable = true) : PyData.showableAll ds = true := by
  induction ds with
  | nil => rw [PyData.showableAll]
  | cons d ds ih => rw [PyData.showableAll, h d List.mem_cons_self, ih fun e m => h e (List.mem_cons_of_mem _ m)]; rfl
theorem short_all {ds : List PyData} (h : ∀ d ∈ ds, d.intsShort 13 = true) : PyData.intsShortAll 13 ds = true := by
  induction ds with
  | nil => rw [PyData.intsShortAll]
  | cons d ds ih => rw [PyData.intsShortAll, h d List.mem_cons_self, ih fun e m => h e (List.mem_cons_of_mem _ m)]; rfl
/-- what is wanted of data that is compared and shown -/
structure Nice (m W : Nat) (d : PyData) : Prop where
  lay : d.canLay0 = true
  depth : d.depth ≤ m
  weight : d.weight ≤ W
  sh : d.showable = true
  short : d.intsShort 13 = true
theorem ints_nice : ((List.range 1000).all fun n => decide ((PyData.shown (.int n)).length ≤ 13) && decide (((n : Int)).natAbs.log2 < 1920) && decide ((PyData.int n).weight ≤ 40)) = true := by decide +kernel
theorem Nice.int {i : Int} (h0 : 0 ≤ i) (h1 : i < 1000) : Nice 0 40 (.int i) := by
  obtain ⟨n, rfl⟩ : ∃ n : Nat, i = n := ⟨i.toNat, by omega⟩
  have := List.all_eq_true.mp ints_nice n (List.mem_range.mpr (by omega))
  simp only [Bool.and_eq_true, decide_eq_true_eq] at this
  refine ⟨by rw [PyData.canLay0], by rw [PyData.depth]; exact Nat.le_refl _, this.2, by rw [PyData.showable]; exact decide_eq_true this.1.2, by rw [PyData.intsShort]; exact decide_eq_true this.1.1⟩
theorem signs_ok : signsL.all (fun c => decide (c < 0x110000)) = true := by decide +kernel
theorem Nice.str {z : Str} (h : goodW (cs z)) : Nice 0 40 (.str z) := by
  refine ⟨?_, by rw [PyData.depth]; exact Nat.le_refl _, ?_, by rw [PyData.showable], by rw [PyData.intsShort]⟩
  · rw [PyData.canLay0]
    unfold PyData.strOk
    rw [← Array.all_toList]
    exact List.all_eq_true.mpr fun c m => decide_eq_true (of_decide_eq_true (List.all_eq_true.mp signs_ok c (h.2.2.2 c m)))
  · rw [PyData.weight]
    have := h.2.1
    rw [cs_len] at this
    exact this
theorem Nice.tup {m W n : Nat} {ds : List PyData} (h : ∀ d ∈ ds, Nice m W d) (l : ds.length ≤ n) : Nice (m + 1) ((W + 1) * n) (.tuple ds) := by
  have wa := weight_all fun d k => (h d k).weight
  refine ⟨by rw [PyData.canLay0]; exact canLay_all fun d k => (h d k).lay, by rw [PyData.depth]; exact Nat.succ_le_succ (depth_all fun d k => (h d k).depth), ?_, by rw [PyData.showable]; exact show_all fun d k => (h d k).sh, by rw [PyData.intsShort]; exact short_all fun d k => (h d k).short⟩
  rw [PyData.weight]
  exact Nat.le_trans wa (Nat.mul_le_mul (Nat.le_refl _) l)
theorem Nice.lst {m W n : Nat} {ds : List PyData} (h : ∀ d ∈ ds, Nice m W d) (l : ds.length ≤ n) : Nice (m + 1) ((W + 1) * n) (.list ds) := by
  have wa := weight_all fun d k => (h d k).weight
  refine ⟨by rw [PyData.canLay0]; exact canLay_all fun d k => (h d k).lay, by rw [PyData.depth]; exact Nat.succ_le_succ (depth_all fun d k => (h d k).depth), ?_, by rw [PyData.showable]; exact show_all fun d k => (h d k).sh, by rw [PyData.intsShort]; exact short_all fun d k => (h d k).short⟩
  rw [PyData.weight]
  exact Nat.le_trans wa (Nat.mul_le_mul (Nat.le_refl _) l)
theorem Nice.up {m n W X : Nat} {d : PyData} (h : Nice m W d) (l : m ≤ n) (k : W ≤ X) : Nice n X d :=
  ⟨h.lay, Nat.le_trans h.depth l, Nat.le_trans h.weight k, h.sh, h.short⟩
def trD (x : Tr) : PyData := .tuple [.str x.1, .int x.2]
def frmD (n : Int) (ts : List Tr) : PyData := .tuple [.int n, .tuple (ts.map trD)]
theorem frm_nice {q n : Int} {ts : List Tr} (h : FormOk q n ts) (hq : q ≤ 997) (l : ts.length < 64) : Nice 3 11000 (frmD n ts) := by
  refine (Nice.tup (m := 2) (W := 5313) (n := 2) (fun d m => ?_) (by simp)).up (Nat.le_refl _) (by decide)
  rcases List.mem_cons.mp m with rfl | m
  · exact (Nice.int h.num.1 (by have := h.num.2; omega)).up (by decide) (by decide)
  · rw [List.mem_singleton.mp m]
    refine (Nice.tup (m := 1) (W := 82) (n := 64) (fun d m => ?_) (by rw [List.length_map]; omega)).up (Nat.le_refl _) (by decide)
    obtain ⟨x, hx, rfl⟩ := List.mem_map.mp m
    have g := h.ok.ok x hx
    refine Nice.tup (m := 0) (W := 40) (n := 2) (fun d m => ?_) (by simp)
    rcases List.mem_cons.mp m with rfl | m
    · exact Nice.str g.1
    · rw [List.mem_singleton.mp m]; exact Nice.int (by omega) (by omega)
theorem Nice.shaped {m W : Nat} {d : PyData} (h : Nice m W d) (l : m ≤ 64) : SeqAt.shaped d = true := by
  unfold SeqAt.shaped
  rw [h.lay, Bool.true_and]
  exact decide_eq_true (Nat.le_trans h.depth l)
theorem Nice.shown {d : PyData} (h : Nice 3 11000 d) : d.showable = true ∧ d.hasDict = false ∧ d.depth ≤ 40 ∧ d.shown.length ≤ sizeLine := by
  refine ⟨h.sh, PyData.hasDict_of_canLay d h.lay, Nat.le_trans h.depth (by decide), ?_⟩
  have hl : PyData.layable0 d = true := by
    unfold PyData.layable0
    rw [h.lay, decide_eq_true (show d.depth ≤ 64 from Nat.le_trans h.depth (by decide)), decide_eq_true (show d.weight ≤ 2 ^ 20 from Nat.le_trans h.weight (by decide))]; rfl
  exact Nat.le_trans (PyProof.Rows.shown_le13 hl h.short) (by decide)
theorem eqv_frm (n m : Int) (a b : List Tr) : PyData.eqv (frmD n a) (frmD m b) = decide (n = m ∧ a = b) := by
  unfold frmD
  rw [PyData.eqv, PyData.eqvAll, PyData.eqvAll, PyData.eqvAll, PyData.eqv, PyData.eqv, eqvAll_map (g := trD) (fun x y => ?_) a b]
  · by_cases c : n = m <;> by_cases d : a = b <;> simp [c, d]
  · unfold trD
    obtain ⟨x1, x2⟩ := x
    obtain ⟨y1, y2⟩ := y
    rw [PyData.eqv, PyData.eqvAll, PyData.eqvAll, PyData.eqvAll, PyData.eqv, PyData.eqv]
    by_cases c : x1 = y1 <;> by_cases d : x2 = y2 <;> simp [c, d]
theorem DpAll.trs {K : PySem.W.Frag} {H : Hp} : ∀ {us : List V} {ts : List Tr}, Trs H us ts → DpAll K H us (ts.map trD)
  | [], [], _ => .nil
  | [], _ :: _, h => by have := h.1; simp at this
  | _ :: _, [], h => by have := h.1; simp at this
  | u :: us, x :: ts, h => by
    obtain ⟨y, e, t, rfl, ht⟩ := h.2 0 u rfl
    obtain rfl : x = y := Option.some.inj e
    exact .cons (.tup (SqT.of ht) (.cons (.str _) (.cons (.int _) .nil))) (DpAll.trs ⟨by have := h.1; simp at this; exact this, fun i v e => h.2 (i + 1) v (by simpa using e)⟩)
theorem Dp.frm {K : PySem.W.Frag} {H : Hp} {v : V} {n : Int} {ts : List Tr} (h : FrmV H v n ts) : Dp K H v (frmD n ts) := by
  obtain ⟨a, b, us, rfl, h1, h2, h3⟩ := h
  exact .tup (SqT.of h1) (.cons (.int n) (.cons (.tup (SqT.of h2) (DpAll.trs h3)) .nil))
theorem op_eqDK {X : Cx} {K : PySem.W.Frag} (hu : X.A.units + 64 < cLine) (q : X.K = K := by rfl) : OpR X (compareOp .Eq) (rEqD K) := q ▸ op_eqD hu
theorem op_neDK {X : Cx} {K : PySem.W.Frag} (hu : X.A.units + 64 < cLine) (q : X.K = K := by rfl) : OpR X (compareOp .NotEq) (rNeD K) := q ▸ op_neD hu
section
variable {K : PySem.W.Frag} {H : Hp} {Q : VK} {v w : V} {n m q : Int} {a b : List Tr}
theorem r_eqF (h1 : FrmV H v n a) (h2 : FrmV H w m b) (n1 : Nice 3 11000 (frmD n a)) (n2 : Nice 3 11000 (frmD m b)) (k : Q (.bl (decide (n = m ∧ a = b))) H) : rEqD K v w H Q :=
  ⟨_, _, Dp.frm h1, Dp.frm h2, n1.shaped (by decide), n2.shaped (by decide), by rw [eqv_frm]; exact k⟩
theorem r_neF (h1 : FrmV H v n a) (h2 : FrmV H w m b) (n1 : Nice 3 11000 (frmD n a)) (n2 : Nice 3 11000 (frmD m b)) (k : Q (.bl (!decide (n = m ∧ a = b))) H) : rNeD K v w H Q :=
  ⟨_, _, Dp.frm h1, Dp.frm h2, n1.shaped (by decide), n2.shaped (by decide), by rw [eqv_frm]; exact k⟩
end
local macro_rules | `(tactic| walk_at "ssz") => `(tactic| first | decide | exact str_small (by assumption) | (have : (1000000 : Nat) ≤ sizeLine := (by decide); omega))
local macro_rules | `(tactic| walk_at "st1") => `(tactic| first
  | with_reducible refine' r_nt ?_ | with_reducible refine' r_nf ?_
  | ((with_reducible refine r_lenS ?e1 ?_); (case e1 => walk_at "ssz"))
  | with_reducible refine r_inS ?_
  | with_reducible refine r_ninS ?_
  | ((with_reducible refine r_addS ?e1 ?_); (case e1 => walk_at "ssz"))
  | ((with_reducible refine' r_ixS ?e1 ?e2 ?_); (case e1 => walk_at "ssz"); (case e2 => first | assumption | rfl))
  | with_reducible refine r_istr ?_
  | with_reducible refine r_is ?_
  | with_reducible refine r_un ?_
  | with_reducible refine r_u ?_)
local macro_rules | `(tactic| walk_at "st1") => `(tactic| first
  | with_reducible refine r_par ?_
  | with_reducible refine r_parx ?_
  | ((with_reducible refine' r_gtup ?e1 ?e2 ?_); (case e1 => walk_at "sq"); (case e2 => rfl))
  | with_reducible refine r_gcons ?_
  | with_reducible refine r_gnil ?_
  | with_reducible refine r_disp ?_
  | with_reducible refine r_tp1 ?_
  | with_reducible refine r_tp0 ?_
  | ((with_reducible refine' r_dp1 ?e1 ?_); (case e1 => walk_at "hl"))
  | with_reducible refine r_dnewK ?_
  | with_reducible refine r_dget2 ?_
  | ((with_reducible refine' r_dg2 ?e1 ?_); (case e1 => walk_at "hl"))
  | ((with_reducible refine' r_dg3 ?e1 ?_); (case e1 => walk_at "hl"))
  | with_reducible refine r_dget ?_
  | ((with_reducible refine' r_dgv ?e1 ?e2 ?_); (case e1 => walk_at "hl"); (case e2 => assumption))
  | ((with_reducible refine' r_setD ?e1 ?e2 ?_); (case e1 => walk_at "hl"); (case e2 => omega)))
local macro_rules | `(tactic| walk_at "st1") => `(tactic| first
  | with_reducible refine r_tru ?_
  | ((with_reducible refine' r_truT ?e1 ?_); (case e1 => walk_at "sq"))
  | with_reducible refine r_isN ?_
  | with_reducible refine r_tyS ?_
  | with_reducible refine r_m1 ?_
  | with_reducible refine r_sx ?_
  | ((with_reducible refine r_strC ?e1 ?_); (case e1 => omega)))
/-! ### repr of a thing of any kind; long texts -/
def rReprA (K : PySem.W.Frag) : List V → Hp → VK → Prop := fun xs H Q => (∃ (a : Addr) (d : PyData), xs = [.ref a] ∧ Dp K H (.ref a) d ∧ d.showable = true ∧ d.hasDict = false ∧ d.depth ≤ 40 ∧ d.shown.length ≤ sizeLine ∧ Q (.str d.shown) H) ∨ (xs = [.non] ∧ Q (.str (Str.ofString "None")) H)
theorem cr_reprA {X : Cx} (hg : X.A.guards = some []) (hu : X.A.units + 64 < cLine) : CallR X (.builtin "repr") (rReprA X.K) := by
  intro pins s σ H xs us Q I r h
  rcases h with ⟨a, d, rfl, hd, sh, nd, dep, sz, q⟩ | ⟨rfl, q⟩
  · rw [Vals.ref1 r]
    obtain ⟨as, rr⟩ := Dp.reads I d _ _ hd (show L2.RelV (.ref a) (Value.ref a) from rfl)
    exact repr_of_reads' rr sh (fun z => by rw [nd] at z; cases z) hg (by omega) (fun _ _ e => e) (fun h' u tk kp => ⟨.str _, H, I.kept kp, ⟨_, rfl⟩, q⟩) sz
  · obtain ⟨u, rfl, rx⟩ := vals1 r
    cases (show u = Value.none from rx)
    exact PySem.P.repr_of_none ⟨.str (Str.ofString "None"), H, I.tok _, ⟨_, rfl⟩, q⟩
theorem cr_reprAK {X : Cx} {K : PySem.W.Frag} (hg : X.A.guards = some []) (hu : X.A.units + 64 < cLine) (q : X.K = K := by rfl) : CallR X (.builtin "repr") (rReprA K) := q ▸ cr_reprA hg hu
def rIsNNn : R2 := fun x y H Q => y = .non ∧ Q (.bl (!decide (x = .non))) H
theorem op_isNNn {X : Cx} : OpR X (compareOp .IsNot) rIsNNn := op_notN
theorem r_isNN {x : V} {H : Hp} {Q : VK} (q : Q (.bl (!decide (x = .non))) H) : rIsNNn x .non H Q := ⟨rfl, q⟩
local macro_rules | `(tactic| walk_at "st1") => `(tactic| first
  | with_reducible refine r_isNN ?_)
def repS (z : Str) (n : Nat) : Str := ⟨(List.replicate n z.cps).foldl (· ++ ·) #[]⟩
def rMulL : R2 := fun x y H Q => ∃ (z : Str) (k : Int), x = .str z ∧ y = .int k ∧ (2 ≤ k ∧ k ≤ 10000) ∧ (1 ≤ z.length ∧ z.length ≤ 100) ∧ (repS z k.toNat).length ≤ sizeLine ∧ Q (.str (repS z k.toNat)) H
theorem op_mulL {X : Cx} : OpR X (binaryOp .Mult) rMulL := by
  intro pins s σ H x y v u Q I rx ry h
  obtain ⟨z, k, rfl, rfl, hk, hz, hl, q⟩ := h
  obtain ⟨t, rfl⟩ := rx
  obtain ⟨t', rfl⟩ := ry
  have c1 : ¬ k < 1 := by omega
  have c2 : (k == 1 || z.length == 0) = false := by
    rw [Bool.or_eq_false_iff]
    exact ⟨beq_eq_false_iff_ne.mpr (by omega), beq_eq_false_iff_ne.mpr (by omega)⟩
  refine PySem.P.mul_str ?_ (fun _ _ => ?_) (fun _ _ => ?_) ?_
  · rw [decide_eq_false (by omega), decide_eq_false (by omega)]; rfl
  · have : (1000 : Int) ≤ (2 ^ 63 - 1) / k := (Int.le_ediv_iff_mul_le (by omega)).mpr (by omega)
    omega
  · exact decide_eq_false (Nat.not_lt.mpr (Nat.le_trans (Nat.mul_le_mul hz.2 (show k.toNat ≤ 10000 by omega)) (by decide)))
  · rw [if_neg c1, if_neg (by rw [c2]; decide)]
    exact ⟨hl, ⟨.str (repS z k.toNat), H, I.tok _, ⟨_, rfl⟩, q⟩⟩
theorem cs_rep (c n : Nat) : cs (repS ⟨#[c]⟩ n) = List.replicate n c := by
  have gen : ∀ (m : Nat) (b : Array Nat), ((List.replicate m (#[c] : Array Nat)).foldl (· ++ ·) b).toList = b.toList ++ List.replicate m c := fun m => by
    induction m with
    | zero => intro b; simp
    | succ m ih =>
      intro b
      rw [List.replicate_succ, List.foldl_cons, ih, Array.toList_append, List.append_assoc, List.replicate_succ]; rfl
  show (List.foldl _ #[] (List.replicate n #[c])).toList = _
  exact (gen n #[]).trans (by simp)
theorem Nice.shownW {W : Nat} {d : PyData} (h : Nice 3 W d) (l : W ≤ 2 ^ 20) : d.showable = true ∧ d.hasDict = false ∧ d.depth ≤ 40 ∧ d.shown.length ≤ sizeLine := by
  refine ⟨h.sh, PyData.hasDict_of_canLay d h.lay, Nat.le_trans h.depth (by decide), ?_⟩
  have hl : PyData.layable0 d = true := by
    unfold PyData.layable0
    rw [h.lay, decide_eq_true (show d.depth ≤ 64 from Nat.le_trans h.depth (by decide)), decide_eq_true (show d.weight ≤ 2 ^ 20 from Nat.le_trans h.weight l)]; rfl
  exact Nat.le_trans (PyProof.Rows.shown_le13 hl h.short) (by decide)
theorem frm_niceL {q n : Int} {ts : List Tr} (h : FormOk q n ts) (hq : q ≤ 997) (l : ts.length ≤ 1000) : Nice 3 200000 (frmD n ts) := by
  refine (Nice.tup (m := 2) (W := 83000) (n := 2) (fun d m => ?_) (by simp)).up (Nat.le_refl _) (by decide)
  rcases List.mem_cons.mp m with rfl | m
  · exact (Nice.int h.num.1 (by have := h.num.2; omega)).up (by decide) (by decide)
  · rw [List.mem_singleton.mp m]
    refine (Nice.tup (m := 1) (W := 82) (n := 1000) (fun d m => ?_) (by rw [List.length_map]; exact l)).up (Nat.le_refl _) (by decide)
    obtain ⟨x, hx, rfl⟩ := List.mem_map.mp m
    have g := h.ok.ok x hx
    refine Nice.tup (m := 0) (W := 40) (n := 2) (fun d m => ?_) (by simp)
    rcases List.mem_cons.mp m with rfl | m
    · exact Nice.str g.1
    · rw [List.mem_singleton.mp m]; exact Nice.int (by omega) (by omega)
theorem Nice.strT {z : Str} (h : ∀ c ∈ cs z, c < 0x110000) (l : z.length ≤ 2000) : Nice 0 2000 (.str z) := by
  refine ⟨?_, by rw [PyData.depth]; exact Nat.le_refl _, ?_, by rw [PyData.showable], by rw [PyData.intsShort]⟩
  · rw [PyData.canLay0]
    unfold PyData.strOk
    rw [← Array.all_toList]
    exact List.all_eq_true.mpr fun c m => decide_eq_true (h c m)
  · rw [PyData.weight]; exact l
section
variable {K : PySem.W.Frag} {H : Hp} {Q : VK}
theorem r_reprS2 {x : Addr} {y z : Str} (h : H x = some (.lst [.str y, .str z])) (hy : Nice 0 2000 (.str y)) (hz : Nice 0 2000 (.str z)) (k : Q (.str (PyData.list [.str y, .str z]).shown) H) : rRepr K [.ref x] H Q := by
  have n1 : Nice 3 5000 (.list [.str y, .str z]) := (Nice.lst (m := 0) (W := 2000) (n := 2) (fun d m => by
    rcases List.mem_cons.mp m with rfl | m
    · exact hy
    · rw [List.mem_singleton.mp m]; exact hz) (by simp)).up (by decide) (by decide)
  have s := n1.shownW (by decide)
  exact ⟨x, _, rfl, .lst (SqL.of h) (.cons (.str y) (.cons (.str z) .nil)), s.1, s.2.1, s.2.2.1, s.2.2.2, k⟩
theorem r_reprFA {v : V} {n q : Int} {ts : List Tr} (h : FrmV H v n ts) (ok : FormOk q n ts) (hq : q ≤ 997) (l : ts.length ≤ 1000) (k : Q (.str (frmD n ts).shown) H) : rReprA K [v] H Q := by
  have s := (frm_niceL ok hq l).shownW (by decide)
  obtain ⟨a, b, us, rfl, h2⟩ := id h
  exact .inl ⟨a, _, rfl, Dp.frm h, s.1, s.2.1, s.2.2.1, s.2.2.2, k⟩
theorem r_reprNA (k : Q (.str (Str.ofString "None")) H) : rReprA K [.non] H Q := .inr ⟨rfl, k⟩
end
theorem mem_joinL {c : Nat} : ∀ {ps : List (List Nat)}, c ∈ TL.joinL [43] ps → c = 43 ∨ ∃ p ∈ ps, c ∈ p
  | [], h => by cases h
  | [p], h => .inr ⟨p, List.mem_cons_self, h⟩
  | p :: q :: ps, h => by
    have e : TL.joinL [43] (p :: q :: ps) = p ++ ([43] ++ TL.joinL [43] (q :: ps)) := rfl
    rw [e] at h
    rcases List.mem_append.mp h with h | h
    · exact .inr ⟨p, List.mem_cons_self, h⟩
    · rcases List.mem_append.mp h with h | h
      · exact .inl (List.mem_singleton.mp h)
      · rcases mem_joinL h with h | ⟨r, hr, h⟩
        · exact .inl h
        · exact .inr ⟨r, List.mem_cons_of_mem _ hr, h⟩
theorem num_code {n : Int} {c : Nat} (h : c ∈ numC n) : c < 0x110000 := by
  have := digC_le (List.all_eq_true.mp (numC_digits n) c h)
  omega
theorem sign_code {z : Str} (h : goodW (cs z)) {c : Nat} (m : c ∈ cs z) : c < 0x110000 := of_decide_eq_true (List.all_eq_true.mp signs_ok c (h.2.2.2 c m))
theorem text_code {p n : Int} {ts : List Tr} (h : FormOk p n ts) : ∀ c ∈ textC n ts, c < 0x110000 := fun c m => by
  rcases mem_joinL m with rfl | ⟨q, hq, hc⟩
  · decide
  · unfold partsC at hq
    rcases List.mem_append.mp hq with hq | hq
    · split at hq
      · rw [List.mem_singleton.mp hq] at hc; exact num_code hc
      · cases hq
    · obtain ⟨x, hx, rfl⟩ := List.mem_map.mp hq
      unfold termC at hc
      rcases List.mem_append.mp hc with hc | hc
      · split at hc
        · cases hc
        · exact num_code hc
      · exact sign_code (h.ok.ok x hx).1 hc
theorem text_len {p n : Int} {ts : List Tr} (h : FormOk p n ts) (hp : p ≤ 997) : (textC n ts).length ≤ 4 + 44 * ts.length := by
  have l3 : ∀ k : Int, 0 ≤ k → k < 997 → (numC k).length ≤ 3 := fun k h0 hk => (num_small (v := k) (by omega)).2.1
  refine Nat.le_trans (join_len [43] (partsC n ts)) ?_
  unfold partsC
  rw [List.map_append, List.sum_append]
  have h1 : ((if n ≠ 0 ∨ ts = [] then [numC n] else []).map fun p => p.length + [43].length).sum ≤ 4 := by
    split
    · show (numC n).length + 1 + 0 ≤ 4
      have := l3 n h.num.1 (by have := h.num.2; omega)
      omega
    · exact Nat.zero_le _
  have h2 : ((ts.map termC).map fun p => p.length + [43].length).sum ≤ 44 * ts.length := by
    have := sum_le (b := 44) (l := (ts.map termC).map fun p => p.length + [43].length) fun y m => by
      obtain ⟨q, hq, rfl⟩ := List.mem_map.mp m
      obtain ⟨x, hx, rfl⟩ := List.mem_map.mp hq
      have g := h.ok.ok x hx
      have g2 := g.1.2.1
      have g3 := l3 x.2 (by omega) (by omega)
      show (termC x).length + 1 ≤ 44
      unfold termC
      rw [List.length_append]
      split
      · show 0 + _ + 1 ≤ 44; omega
      · omega
    rw [List.length_map, List.length_map] at this
    omega
  omega
theorem spl_small {a : List Nat} : ((TL.spl [43] 0 [] a).map (·.length)).sum + (TL.spl [43] 0 [] a).length ≤ a.length + 1 := by
  have es : Txt.split (Sx a) (Str.ofString "+") = (TL.spl [43] 0 [] a).map Sx := SX.split_S (a := a) (b := [43]) (by simp) (by decide)
  have wt := PyProof.Rows.split_weight (Sx a) (Str.ofString "+") (by decide)
  rw [es, List.map_map, List.length_map] at wt
  have e : (TL.spl [43] 0 [] a).map ((fun x : Str => x.length) ∘ Sx) = (TL.spl [43] 0 [] a).map (·.length) := List.map_congr_left fun b _ => Sx_len b
  have wt2 := wt
  rw [e, Sx_len] at wt2
  omega
theorem small_of {a : List Nat} (h : a.length ≤ 940) : a.length ≤ 10000 ∧ (TL.spl [43] 0 [] a).length ≤ 1000 ∧ ∀ b ∈ TL.spl [43] 0 [] a, (b.dropWhile digC).length ≤ 1000 := by
  have s := spl_small (a := a)
  refine ⟨by omega, by omega, fun b m => ?_⟩
  have := mem_le_sum (List.mem_map_of_mem (f := fun b : List Nat => b.length) m)
  have := drop_len digC b
  omega
theorem terms_small {p n : Int} {ts : List Tr} {a : List Nat} (h : FormOk p n ts) (e : textC n ts = a) (l : a.length ≤ 940) : ts.length ≤ 1000 := by
  have s := spl_small (a := a)
  rw [← e, split_text h.good] at s
  have : (partsC n ts).length ≥ ts.length := by unfold partsC; rw [List.length_append, List.length_map]; omega
  rw [e] at s
  omega
/-- a text with a piece that is too long is no form's -/
theorem long_none {p n : Int} {ts : List Tr} {a : List Nat} (h : FormOk p n ts) (hp : p ≤ 997) {b : List Nat} (m : b ∈ TL.spl [43] 0 [] a) (l : 100 ≤ b.length) : textC n ts ≠ a := fun e => by
  rw [← e, split_text h.good] at m
  have := part_len h hp b m
  omega
theorem join_e (zs : List Str) : (Txt.join (Str.ofString "") zs).length ≤ (zs.map (·.length)).sum := by
  have e : zs = (zs.map cs).map Sx := by
    rw [List.map_map]
    conv => lhs; rw [← List.map_id zs]
    exact List.map_congr_left fun z _ => (Sx_cs z).symm
  have e2 : Txt.join (Str.ofString "") zs = Sx (TL.joinL [] (zs.map cs)) := by
    conv => lhs; rw [e]
    exact SX.join_S [] (zs.map cs)
  rw [e2, Sx_len]
  refine Nat.le_trans (join_len [] (zs.map cs)) (Nat.le_of_eq ?_)
  rw [List.map_map]
  exact congrArg List.sum (List.map_congr_left fun z _ => by
    show (cs z).length + 0 = z.length
    rw [cs_len]; rfl)
section
variable {H : Hp} {Q : VK}
theorem r_nines (q : ∀ G : Str, cs G = List.replicate 5000 57 → Q (.str G) H) : rMulL (.str (Str.ofString "9")) (.int 5000) H Q := by
  have e : Str.ofString "9" = ⟨#[57]⟩ := by rfl
  have c := cs_rep 57 5000
  rw [e]
  refine ⟨_, 5000, rfl, rfl, by omega, by decide, ?_, q _ c⟩
  have l := congrArg List.length c
  rw [cs_len, List.length_replicate] at l
  show (repS ⟨#[57]⟩ 5000).length ≤ sizeLine
  rw [l]
  decide
end
theorem spl_snoc (b : List Nat) : ∀ (a acc : List Nat), TL.spl [43] 0 acc (a ++ 43 :: b) = TL.spl [43] 0 acc a ++ TL.spl [43] 0 [] b
  | [], acc => by
    rw [List.nil_append, TL.spl_hit (by simp [TL.pre]), TL.spl_nil]; rfl
  | c :: a, acc => by
    by_cases h : c = 43
    · subst h
      rw [List.cons_append, TL.spl_hit (by simp [TL.pre]), TL.spl_hit (by simp [TL.pre])]
      show acc :: TL.spl [43] 0 [] (a ++ 43 :: b) = _ :: TL.spl [43] 0 [] a ++ _
      rw [spl_snoc b a []]; rfl
    · rw [List.cons_append, TL.spl_miss (by simp [TL.pre, h]), TL.spl_miss (by simp [TL.pre, h])]
      exact spl_snoc b a _
theorem spl_free : ∀ (a acc : List Nat), (∀ c ∈ a, c ≠ 43) → TL.spl [43] 0 acc a = [acc ++ a]
  | [], acc, _ => by rw [TL.spl_nil, List.append_nil]
  | c :: a, acc, h => by
    have h1 := h c List.mem_cons_self
    rw [TL.spl_miss (by simp [TL.pre, h1]), spl_free a _ fun x m => h x (List.mem_cons_of_mem _ m), List.append_assoc]; rfl
theorem drop_rep (t : List Nat) : ∀ n, ((List.replicate n 57 ++ t).dropWhile digC).length ≤ t.length
  | 0 => by rw [List.replicate_zero, List.nil_append]; exact drop_len digC t
  | n + 1 => by
    rw [List.replicate_succ, List.cons_append, List.dropWhile_cons, if_pos (by decide)]
    exact drop_rep t n
def isLong (a : List Nat) : Prop := (a.length ≤ 10000 ∧ (TL.spl [43] 0 [] a).length ≤ 1000 ∧ ∀ b ∈ TL.spl [43] 0 [] a, (b.dropWhile digC).length ≤ 1000) ∧ ∃ b ∈ TL.spl [43] 0 [] a, 100 ≤ b.length
theorem nines_free {t : List Nat} (h : ∀ c ∈ t, c ≠ 43) : ∀ c ∈ List.replicate 5000 57 ++ t, c ≠ 43 := fun c m => by
  rcases List.mem_append.mp m with m | m
  · rw [(List.mem_replicate.mp m).2]; decide
  · exact h c m
theorem long_one {t : List Nat} (h : ∀ c ∈ t, c ≠ 43) (l : t.length ≤ 1) : isLong (List.replicate 5000 57 ++ t) := by
  unfold isLong
  rw [spl_free _ [] (nines_free h), List.nil_append]
  refine ⟨⟨by rw [List.length_append, List.length_replicate]; omega, by show 1 ≤ 1000; decide, fun b m => ?_⟩, _, List.mem_singleton.mpr rfl, by rw [List.length_append, List.length_replicate]; omega⟩
  rw [List.mem_singleton.mp m]
  have := drop_rep t 5000
  omega
theorem long_two {a t : List Nat} (h : ∀ c ∈ t, c ≠ 43) (l : t.length ≤ 1) (la : a.length ≤ 900) : isLong (a ++ 43 :: (List.replicate 5000 57 ++ t)) := by
  unfold isLong
  have s := small_of (a := a) (by omega)
  have s2 := spl_small (a := a)
  rw [spl_snoc, spl_free _ [] (nines_free h), List.nil_append]
  refine ⟨⟨by rw [List.length_append, List.length_cons, List.length_append, List.length_replicate]; omega, by rw [List.length_append]; show _ + 1 ≤ 1000; omega, fun b m => ?_⟩, _, List.mem_append_right _ (List.mem_singleton.mpr rfl), by rw [List.length_append, List.length_replicate]; omega⟩
  rcases List.mem_append.mp m with m | m
  · exact s.2.2 b m
  · rw [List.mem_singleton.mp m]
    have := drop_rep t 5000
    omega
theorem str_app (x y : Str) : (x ++ y).length = x.length + y.length := by rw [← cs_len, cs_append, List.length_append, cs_len, cs_len]
theorem longs_of {G w : Str} (hG : cs G = List.replicate 5000 57) (hw : (cs w).length ≤ 900) : ∀ z ∈ [G, G ++ Str.ofString "x", Str.ofString "1+" ++ G ++ Str.ofString "y", w ++ Str.ofString "+" ++ G], isLong (cs z) := fun z m => by
  have ex : cs (Str.ofString "x") = [120] := by rfl
  have ey : cs (Str.ofString "y") = [121] := by rfl
  have ep : cs (Str.ofString "+") = [43] := by rfl
  have e1 : cs (Str.ofString "1+") = [49] ++ [43] := by rfl
  simp only [List.mem_cons, List.not_mem_nil, or_false] at m
  rcases m with rfl | rfl | rfl | rfl
  · have := long_one (t := []) (by simp) (by simp)
    rw [hG]; rwa [List.append_nil] at this
  · rw [cs_append, hG, ex]; exact long_one (by simp) (by simp)
  · rw [cs_append, cs_append, hG, e1, ey, List.append_assoc, List.append_assoc, List.singleton_append (l := List.replicate 5000 57 ++ [121])]; exact long_two (by simp) (by simp) (by simp)
  · have := long_two (t := []) (a := cs w) (by simp) (by simp) hw
    rw [List.append_nil] at this
    rw [cs_append, cs_append, hG, ep, List.append_assoc, List.singleton_append]; exact this
theorem FrmV.sm {H H' : Hp} {v : V} {n : Int} {ts : List Tr} (h : FrmV H v n ts) (k : Same H H') : FrmV H' v n ts := h.to (Tups.same k)
def sp_law (K : PySem.W.Frag) : Sp := fun vs H Q _ => ∃ (a : Addr) (ns : List Int), vs = [.ref a] ∧ SqL K H a (ns.map .int) ∧ ns.length ≤ 63 ∧ ∀ H', Q (.bl true) H'
theorem prime14_in {q : Int} (h : q ∈ primes14) : 2 ≤ q ∧ q ≤ 997 := by
  simp [primes14] at h
  omega
section
variable {P : Program} {w : World} {K : PySem.W.Frag} {mg : Str → Option Value} {base : Heap}
set_option maxHeartbeats 0 in
theorem ok_law (T : Tx K mg) {f_law_begun : Addr} {fd_law_begun : FuncData} (C_law_begun : Cal P w K mg base "_law_begun" 1 ["script"] (sp_law_begun K) s_law_begun f_law_begun fd_law_begun) {f_law_form : Addr} {fd_law_form : FuncData} (C_law_form : Cal P w K mg base "_law_form" 2 ["state", "places", "q"] (sp_law_form K) s_law_form f_law_form fd_law_form) {f_law_written : Addr} {fd_law_written : FuncData} (C_law_written : Cal P w K mg base "_law_written" 1 ["lot"] (sp_law_written K) s_law_written f_law_written fd_law_written) {f_law_prime : Addr} {fd_law_prime : FuncData} (C_law_prime : Cal P w K mg base "_law_prime" 2 ["state"] (sp_law_prime K) s_law_prime f_law_prime fd_law_prime) {f_law_places : Addr} {fd_law_places : FuncData} (C_law_places : Cal P w K mg base "_law_places" 3 ["state", "many"] (sp_law_places K) s_law_places f_law_places fd_law_places) {f_law_bent : Addr} {fd_law_bent : FuncData} (C_law_bent : Cal P w K mg base "_law_bent" 2 ["state", "word"] (sp_law_bent K) s_law_bent f_law_bent fd_law_bent) {f_read_form : Addr} {fd_read_form : FuncData} (C_read_form : Cal P w K mg base "read_form" 5 ["text", "p"] (sp_read_form K) s_read_form f_read_form fd_read_form) {f_law_draw : Addr} {fd_law_draw : FuncData} (C_law_draw : Cal P w K mg base "_law_draw" 1 ["state", "many"] (sp_law_draw K) s_law_draw f_law_draw fd_law_draw) {f_law_read : Addr} {fd_law_read : FuncData} (C_law_read : Cal P w K mg base "_law_read" 3 ["word", "q"] (sp_law_read K) s_law_read f_law_read fd_law_read) {f_form_text : Addr} {fd_form_text : FuncData} (C_form_text : Cal P w K mg base "form_text" 1 ["form"] (sp_form_text K) s_form_text f_form_text fd_form_text) {f_is_form : Addr} {fd_is_form : FuncData} (C_is_form : Cal P w K mg base "is_form" 4 ["thing", "p"] (sp_is_form K) s_is_form f_is_form fd_is_form) {f : Addr} {fd : FuncData} (F : Here K mg "law" s_law ["script"] f fd) : FnG P w K mg base 6 f fd ["script"] (sp_law K) := by
  refine fnG_of F.fn sc_law (fun vs H Q E h => ?_) (fun cdv A outer s H vs Q E hga hr h => ?_)
  · obtain ⟨a, ns, rfl, _⟩ := h
    rfl
  · obtain ⟨a, ns, rfl, hS, hlen, q⟩ := h
    refine ⟨_, (pss_cons (ps_set (i := 1) sc_law.nd rfl (by first | exact .inl rfl | exact .inr rfl) (pe_call C_law_begun.ok (hr.mono (by decide)) (by rfl) C_law_begun.at_ C_law_begun.kp C_law_begun.b .nil pass0 (pa_cons (pv 0) pa_nil)))
      (pss_cons (ps_for PassesOwn.never rfl (pi_range1 (by rfl) T.m_range (pa_cons pe_int pa_nil)) (pg_name (i := 2) sc_law.nd rfl (by first | exact .inl rfl | exact .inr rfl)) (pss_cons (ps_asg (pe_tup (pa_cons (pe_call C_law_prime.ok (hr.mono (by decide)) (by rfl) C_law_prime.at_ C_law_prime.kp C_law_prime.b .nil pass0 (pa_cons (pv 1) pa_nil)) (pa_cons (pe_call C_law_prime.ok (hr.mono (by decide)) (by rfl) C_law_prime.at_ C_law_prime.kp C_law_prime.b .nil pass0 (pa_cons (pv 1) pa_nil)) pa_nil))) (castPG (K := K) (n := 2) (pg_tup rfl (pgs_cons (pg_name (i := 3) sc_law.nd rfl (by first | exact .inl rfl | exact .inr rfl)) (pgs_cons (pg_name (i := 4) sc_law.nd rfl (by first | exact .inl rfl | exact .inr rfl)) pgs_nil)))))
      (pss_cons (ps_set (i := 5) sc_law.nd rfl (by first | exact .inl rfl | exact .inr rfl) (pe_call C_law_form.ok (hr.mono (by decide)) (by rfl) C_law_form.at_ C_law_form.kp C_law_form.b .nil pass0 (pa_cons (pv 1) (pa_cons (pe_call C_law_places.ok (hr.mono (by decide)) (by rfl) C_law_places.at_ C_law_places.kp C_law_places.b .nil pass0 (pa_cons (pv 1) (pa_cons (pe_call C_law_draw.ok (hr.mono (by decide)) (by rfl) C_law_draw.at_ C_law_draw.kp C_law_draw.b .nil pass0 (pa_cons (pv 1) (pa_cons pe_int pa_nil))) pa_nil))) (pa_cons (pv 3) pa_nil)))))
      (pss_cons (ps_set (i := 6) sc_law.nd rfl (by first | exact .inl rfl | exact .inr rfl) (pe_call C_law_written.ok (hr.mono (by decide)) (by rfl) C_law_written.at_ C_law_written.kp C_law_written.b .nil pass0 (pa_cons (pv 5) pa_nil)))
      (pss_cons (ps_if (PW.pt (pw_or (pt_cmpR op_ne (pe_callB (cr_reprK (K := K) hga (hu_of64 hr)) (by rfl) T.m_repr (by decide +kernel) (pa_cons (pe_lst (pa_cons (pe_call C_form_text.ok (hr.mono (by decide)) (by rfl) C_form_text.at_ C_form_text.kp C_form_text.b .nil pass0 (pa_cons (pv 5) pa_nil)) (pa_cons (pe_callK0 C_form_text.ok (hr.mono (by decide)) (by rfl) C_form_text.at_ C_form_text.kp (kb_perm (us0 := 0) (ws0 := 1) (is := [0]) (by simp) (fun us ws h1 h2 => kb_form_text_0 C_form_text.fn us ws h1 h2)) pass0 (pk_cons (pv 5) pk_nil)) pa_nil))) pa_nil)) (pe_callB (cr_reprK (K := K) hga (hu_of64 hr)) (by rfl) T.m_repr (by decide +kernel) (pa_cons (pe_lst (pa_cons (pv 6) (pa_cons (pv 6) pa_nil))) pa_nil)) (nomark _)) (pw_or1 (pt_cmpR (op_neDK (K := K) (hu_of64 hr)) (pe_call C_read_form.ok (hr.mono (by decide)) (by rfl) C_read_form.at_ C_read_form.kp C_read_form.b .nil pass0 (pa_cons (pv 6) (pa_cons (pv 3) pa_nil))) (pv 5) (nomark _))))) (pss_one (ps_ret pe_bl)) pss_nil)
      (pss_cons (ps_set (i := 7) sc_law.nd rfl (by first | exact .inl rfl | exact .inr rfl) (pe_lst (pa_cons (pv 6) (pa_cons (castM1 (K := K) (pe_join pe_str (pe_lc rfl sc_law.nd (pi_range1 (by rfl) T.m_range (pa_cons (pe_call C_law_draw.ok (hr.mono (by decide)) (by rfl) C_law_draw.at_ C_law_draw.kp C_law_draw.b .nil pass0 (pa_cons (pv 1) (pa_cons pe_int pa_nil))) pa_nil)) (blkOk_by (own := [("k", 8)]) (N := ["script", "state", "turn", "q", "other", "lot", "word", "texts", "k", "bent", "what", "prime", "told", "owed", "great", "longs", "one"]) (sc := (defScope s_law)) (by decide +kernel)) (fun _ _ _ _ _ => (pg_name (i := 8) sc_law.nd rfl (by first | exact .inl rfl | exact .inr rfl))) (fun _ _ _ _ _ => pts_nil) (fun _ _ _ _ _ => (pe_ix ix_str pe_str (pe_call C_law_draw.ok (hr.mono (by decide)) (by rfl) C_law_draw.at_ C_law_draw.kp C_law_draw.b .nil pass0 (pa_cons (pv 1) (pa_cons pe_int pa_nil))) (fun _ _ => rfl)))))) pa_nil))))
      (pss_cons (ps_for PassesOwn.never rfl (pi_range1 (by rfl) T.m_range (pa_cons pe_int pa_nil)) (pg_name (i := 8) sc_law.nd rfl (by first | exact .inl rfl | exact .inr rfl)) (pss_cons (ps_set (i := 9) sc_law.nd rfl (by first | exact .inl rfl | exact .inr rfl) (pe_call C_law_bent.ok (hr.mono (by decide)) (by rfl) C_law_bent.at_ C_law_bent.kp C_law_bent.b .nil pass0 (pa_cons (pv 1) (pa_cons (pv 6) pa_nil))))
      (pss_one (ps_expr (castBM (K := K) (pe_bm PySem.F.plainAttrs_list PySem.F.slot_list_append PySem.F.type_list_append mt_append (pv 7) (pa_cons (pe_ifExp (pt_cmpR op_eq (pe_op op_mod (pv 8) pe_int) pe_int (nomark _)) (pv 9) (pe_call C_law_bent.ok (hr.mono (by decide)) (by rfl) C_law_bent.at_ C_law_bent.kp C_law_bent.b .nil pass0 (pa_cons (pv 1) (pa_cons (pv 9) pa_nil)))) pa_nil)))))))
      (pss_cons (ps_for PassesOwn.never rfl (pi_listK (K := K) (pe_op op_cat (pv 7) (pe_lst (pa_cons pe_non (pa_cons pe_int (pa_cons pe_bl (pa_cons (pe_tup (pa_cons (pv 6) pa_nil)) (pa_cons (pe_lst (pa_cons (pv 6) pa_nil)) (pa_cons pe_dnewK (pa_cons (pv 5) pa_nil)))))))))) (pg_name (i := 10) sc_law.nd rfl (by first | exact .inl rfl | exact .inr rfl)) (pss_one (ps_for PassesOwn.never rfl (pi_listK (K := K) (pe_lst (pa_cons (pv 3) (pa_cons (pv 4) pa_nil)))) (pg_name (i := 11) sc_law.nd rfl (by first | exact .inl rfl | exact .inr rfl)) (pss_cons (ps_par (i := 12) (j := 13) rfl sc_law.nd rfl rfl (by decide) rfl rfl (pa_cons (pe_call C_read_form.ok (hr.mono (by decide)) (by rfl) C_read_form.at_ C_read_form.kp C_read_form.b .nil pass0 (pa_cons (pv 10) (pa_cons (pv 11) pa_nil))) (pa_cons (pe_call C_law_read.ok (hr.mono (by decide)) (by rfl) C_law_read.at_ C_law_read.kp C_law_read.b .nil pass0 (pa_cons (pv 10) (pa_cons (pv 11) pa_nil))) pa_nil)) (by rfl))
      (pss_one (ps_if (PW.pt (pw_or (pt_cmpR op_ne (pe_callB (cr_reprAK (K := K) hga (hu_of64 hr)) (by rfl) T.m_repr (by decide +kernel) (pa_cons (pv 12) pa_nil)) (pe_callB (cr_reprAK (K := K) hga (hu_of64 hr)) (by rfl) T.m_repr (by decide +kernel) (pa_cons (pv 13) pa_nil)) (nomark _)) (pw_or1 (PW.pt (pw_and (pt_cmpR op_isNNn (pv 12) pe_non (nomark _)) (pw_and1 (pt_not (pt_val (pe_call C_is_form.ok (hr.mono (by decide)) (by rfl) C_is_form.at_ C_is_form.kp C_is_form.b .nil pass0 (pa_cons (pv 12) (pa_cons (pv 11) pa_nil))))))))))) (pss_one (ps_ret pe_bl)) pss_nil))))))
      (pss_cons (ps_if (pt_cmpR (op_neDK (K := K) (hu_of64 hr)) (pe_callK0 C_read_form.ok (hr.mono (by decide)) (by rfl) C_read_form.at_ C_read_form.kp (kb_perm (us0 := 0) (ws0 := 2) (is := [1, 0]) (by simp) (fun us ws h1 h2 => kb_read_form_1_0 C_read_form.fn us ws h1 h2)) pass0 (pk_cons (pv 3) (pk_cons (pv 6) pk_nil))) (pv 5) (nomark _)) (pss_one (ps_ret pe_bl)) pss_nil)
      (pss_cons (ps_set (i := 14) sc_law.nd rfl (by first | exact .inl rfl | exact .inr rfl) (pe_op op_mulL pe_str pe_int))
      (pss_cons (ps_set (i := 15) sc_law.nd rfl (by first | exact .inl rfl | exact .inr rfl) (pe_lst (pa_cons (pv 14) (pa_cons (pe_op op_addS (pv 14) pe_str) (pa_cons (pe_op op_addS (pe_op op_addS pe_str (pv 14)) pe_str) (pa_cons (pe_op op_addS (pe_op op_addS (pv 6) pe_str) (pv 14)) pa_nil))))))
      (pss_one (ps_if (pt_cmpR (op_neNilK (K := K) (hu_of64 hr)) (pe_lc rfl sc_law.nd (pi_listK (K := K) (pv 15)) (blkOk_by (own := [("one", 16)]) (N := ["script", "state", "turn", "q", "other", "lot", "word", "texts", "k", "bent", "what", "prime", "told", "owed", "great", "longs", "one"]) (sc := (defScope s_law)) (by decide +kernel)) (fun _ _ _ _ _ => (pg_name (i := 16) sc_law.nd rfl (by first | exact .inl rfl | exact .inr rfl))) (fun _ _ _ _ _ => (pts_one (pt_cmpR op_isNNn (pe_call C_read_form.ok (hr.mono (by decide)) (by rfl) C_read_form.at_ C_read_form.kp C_read_form.b .nil pass0 (pa_cons (pv 16) (pa_cons (pv 3) pa_nil))) pe_non (nomark _)))) (fun _ _ _ _ _ => (pv 16))) (pe_lst pa_nil) (nomark _)) (pss_one (ps_ret pe_bl)) pss_nil)))))))))))))
      (pss_one (ps_ret pe_bl)))), ?_⟩
    walk_at "st"
    refine ⟨a, ns, rfl, hS, hlen, fun s c H1 s1 st1 => ?_⟩
    walk_at "st"
    refine lp_by (walk_range (lo := 0) (n := Int.toNat 3)) (fun i σ' H' => ∃ x2 x3 x4 x5 x6 x7 x8 x9 x10 x11 x12 x13 x14 x15 x16, σ' = [some (.ref a), some (.ref s), x2, x3, x4, x5, x6, x7, x8, x9, x10, x11, x12, x13, x14, x15, x16] ∧ St s c H') ⟨_, _, _, _, _, _, _, _, _, _, _, _, _, _, _, rfl, st1⟩ (fun _ _ _ _ _ => trivial) (fun i x σ' H2 H2' hi p y => ?_) (fun σ' H2 p => ?_)
    · obtain ⟨x2, x3, x4, x5, x6, x7, x8, x9, x10, x11, x12, x13, x14, x15, x16, rfl, st2⟩ := p
      obtain ⟨rfl, rfl⟩ := y
      walk_at "st"
      refine ⟨s, c, rfl, st2, fun q1 H3 k3 st3 hq1 => ?_⟩
      walk_at "st"
      refine ⟨s, c, rfl, st3, fun q2 H4 k4 st4 hq2 => ?_⟩
      have p1 := prime14_in hq1
      have p2 := prime14_in hq2
      walk_at "st"
      intro pt hpt
      have st5 := st4.new hpt (x := .tup [.int q1, .int q2])
      have ept : upd H4 pt (.tup [.int q1, .int q2]) pt = some (.tup [.int q1, .int q2]) := upd_same
      generalize upd H4 pt (.tup [.int q1, .int q2]) = H5 at *
      clear k3 k4 st2 st3 st4
      walk_at "st"
      refine ⟨s, c, 6, rfl, st5, by omega, fun d6 H6 k6 st6 hd6 => ?_⟩
      walk_at "st"
      refine ⟨s, c, d6, rfl, st6, by omega, fun l zs H7 k7 st7 nl el ln nd gz => ?_⟩
      have ol : l ∉ [s, c] := st6.out nl
      walk_at "st"
      refine ⟨s, c, l, q1, zs, rfl, st7, el, ol, nd, by omega, gz, p1, fun lot n ts H8 k8 st8 fl ok mz lt => ?_⟩
      have lts : ts.length ≤ 5 := by omega
      clear k6 k7 k8 st6 st7 el ol mz nd gz
      walk_at "st"
      have g1 : 0 ≤ n ∧ n ≤ 1000 := by have := ok.num; omega
      have g2 : ∀ x ∈ ts, (cs x.1).length ≤ 100 ∧ 1 ≤ x.2 ∧ x.2 ≤ 1000 := fun x m => by
        have g := ok.ok.ok x m
        have g2 := g.1.2.1
        exact ⟨by omega, by omega, by omega⟩
      have g3 : ∀ x ∈ ts, (cs x.1).length ≤ 100 ∧ 0 ≤ x.2 ∧ x.2 ≤ 1000 := fun x m => by have := g2 x m; omega
      refine ⟨lot, n, ts, rfl, fl, g1, g2, by omega, fun H9 s9 => ?_⟩
      replace fl := fl.sm s9
      have st9 := st8.same s9
      clear st8 s9 st5
      have lw : (textC n ts).length ≤ 224 := by have := text_len ok (by omega); omega
      have cw : ∀ c ∈ cs (Sx (textC n ts)), c < 0x110000 := fun c m => text_code ok c m
      have nw : Nice 0 2000 (.str (Sx (textC n ts))) := Nice.strT cw (by rw [Sx_len]; omega)
      walk_at "st"
      walk_at "if"
      refine ⟨lot, n, ts, rfl, fl, g1, g3, by omega, fun HA sA => ?_⟩
      replace fl := fl.sm sA
      have stA := st9.same sA
      clear st9 sA
      walk_at "st"
      refine ⟨lot, n, ts, rfl, fl, g1, g3, by omega, fun HB sB => ?_⟩
      replace fl := fl.sm sB
      have stB := stA.same sB
      clear stA sB
      walk_at "st"
      intro pa hpa
      have eA : upd HB pa (.lst [.str (Sx (textC n ts)), .str (Sx (textC n ts))]) pa = some (.lst [.str (Sx (textC n ts)), .str (Sx (textC n ts))]) := upd_same
      have stC := stB.new hpa (x := .lst [.str (Sx (textC n ts)), .str (Sx (textC n ts))])
      replace fl := fl.sm (Same.upd_new hpa (x := .lst [.str (Sx (textC n ts)), .str (Sx (textC n ts))]))
      generalize upd HB pa (.lst [.str (Sx (textC n ts)), .str (Sx (textC n ts))]) = HC at *
      clear stB hpa
      walk_at "st"
      refine r_reprS2 eA nw nw ?_
      walk_at "st"
      intro pb hpb
      have eB : upd HC pb (.lst [.str (Sx (textC n ts)), .str (Sx (textC n ts))]) pb = some (.lst [.str (Sx (textC n ts)), .str (Sx (textC n ts))]) := upd_same
      have stD := stC.new hpb (x := .lst [.str (Sx (textC n ts)), .str (Sx (textC n ts))])
      replace fl := fl.sm (Same.upd_new hpb (x := .lst [.str (Sx (textC n ts)), .str (Sx (textC n ts))]))
      generalize upd HC pb (.lst [.str (Sx (textC n ts)), .str (Sx (textC n ts))]) = HD at *
      clear stC hpb eA
      walk_at "st"
      refine r_reprS2 eB nw nw ?_
      clear eB
      walk_at "st"
      rw [if_neg (by simp)]
      have nf : Nice 3 11000 (frmD n ts) := frm_nice ok (by omega) (by omega)
      walk_at "st"
      refine .inl ⟨textC n ts, q1, rfl, small_of (by omega), p1, fun v n' ts' HE sE fo e fv => ?_, fun h => absurd rfl (h n ts ok)⟩
      have e2 := text_inj fo ok (by omega) e
      rw [e2.1, e2.2] at fv
      replace fl := fl.sm sE
      have stE := stD.same sE
      clear stD sE fo e e2
      walk_at "st"
      refine r_neF fv fl nf nf ?_
      clear fv
      walk_at "st"
      rw [if_neg (by simp)]
      walk_at "st"
      refine ⟨s, c, 9, rfl, stE, by omega, fun d9 HF kF stF hd9 => ?_⟩
      replace fl := fl.to (Tups.st kF stE)
      clear stE kF
      walk_at "st"
      intro D hD
      have oD := stF.out hD
      refine lc_by (walk_range (lo := 0) (n := d9.toNat)) (fun j H' => St s c H' ∧ FrmV H' (.ref lot) n ts ∧ ∃ ys : List Str, ys.length = j ∧ H' D = some (.lst (ys.map V.str)) ∧ ∀ y ∈ ys, y.length = 1) ⟨stF.new hD, fl.sm (Same.upd_new hD), [], rfl, upd_same, fun y m => by cases m⟩ (fun _ _ _ _ => trivial) (fun j x HG HG' hj p y => ?_) (fun HG p => ?_)
      · obtain ⟨stG, fG, ys, ly, eD, h1⟩ := p
        obtain ⟨rfl, rfl⟩ := y
        walk_at "st"
        refine ⟨rfl, ?_⟩
        walk_at "st"
        refine ⟨s, c, 8, rfl, stG, by omega, fun d8 HI kI stI hd8 => ?_⟩
        obtain ⟨c8, ec8, _⟩ := atI_in (xs := (Str.ofString "+0129ax.").cps.toList) hd8.1 (by show d8 < 8; exact hd8.2)
        walk_at "st"
        have e1 := kI _ _ eD oD
        refine ⟨ys.map V.str, e1, by rw [List.length_map]; have : (1000000 : Nat) ≤ sizeLine := (by decide); omega, stI.set oD, (fG.to (Tups.st kI stG)).to (Tups.lst e1), ys ++ [⟨#[c8]⟩], by rw [List.length_append]; simp [ly], by rw [List.map_append]; exact upd_same, fun y m => ?_⟩
        rcases List.mem_append.mp m with m | m
        · exact h1 y m
        · rw [List.mem_singleton.mp m]; rfl
      obtain ⟨stG, fG, ys, ly, eD, h1⟩ := p
      have l8 : ys.length ≤ 8 := by omega
      have ls : (ys.map (·.length)).sum ≤ 8 := by
        have := sum_le (b := 1) (l := ys.map (·.length)) fun x m => by
          obtain ⟨y, hy, rfl⟩ := List.mem_map.mp m
          have := h1 y hy
          omega
        rw [List.length_map] at this
        omega
      have lj := join_e ys
      clear fl stF hD h1
      refine r_joinS (SqL.of eD) (by show _ + _ * 0 ≤ _; omega) ?_
      generalize Txt.join (Str.ofString "") ys = any at *
      clear eD oD ly
      walk_at "st"
      intro pt7 hp7
      have ot := stG.out hp7
      have e7 : upd HG pt7 (.lst [.str (Sx (textC n ts)), .str any]) pt7 = some (.lst ([Sx (textC n ts), any].map V.str)) := upd_same
      have st7 := stG.new hp7 (x := .lst [.str (Sx (textC n ts)), .str any])
      replace fG := fG.sm (Same.upd_new hp7 (x := .lst [.str (Sx (textC n ts)), .str any]))
      generalize upd HG pt7 (.lst [.str (Sx (textC n ts)), .str any]) = H7 at *
      clear stG hp7
      walk_at "st"
      refine lp_by (walk_range (lo := 0) (n := Int.toNat 8)) (fun j σ' H' => ∃ x8 x9, σ' = [some (.ref a), some (.ref s), some (.int (0 + (i : Int))), some (.int q1), some (.int q2), some (.ref lot), some (.str (Sx (textC n ts))), some (.ref pt7), x8, x9, x10, x11, x12, x13, x14, x15, x16] ∧ St s c H' ∧ FrmV H' (.ref lot) n ts ∧ ∃ zs : List Str, zs.length = 2 + j ∧ H' pt7 = some (.lst (zs.map V.str)) ∧ ∀ y ∈ zs, y.length ≤ 930) ⟨_, _, rfl, st7, fG, [Sx (textC n ts), any], rfl, e7, fun y m => ?_⟩ (fun _ _ _ _ _ => trivial) (fun j x σ' HJ HJ' hj p y => ?_) (fun σ' HJ p => ?_)
      · rcases List.mem_cons.mp m with rfl | m
        · rw [Sx_len]; omega
        · rw [List.mem_singleton.mp m]; omega
      · obtain ⟨x8, x9, rfl, stJ, fJ, zs, lz, ez, hz⟩ := p
        obtain ⟨rfl, rfl⟩ := y
        walk_at "st"
        refine ⟨s, c, textC n ts, rfl, stJ, by omega, fun bent HK kK stK lb => ?_⟩
        replace ez := kK _ _ ez ot
        replace fJ := fJ.to (Tups.st kK stJ)
        walk_at "st"
        split
        · walk_at "st"
          refine ⟨_, _, rfl, stK.set ot, fJ.to (Tups.lst ez), zs ++ [bent], by rw [List.length_append]; show zs.length + 1 = _; omega, by rw [List.map_append]; exact upd_same, fun y m => ?_⟩
          rcases List.mem_append.mp m with m | m
          · exact hz y m
          · rw [List.mem_singleton.mp m]; omega
        · walk_at "st"
          refine ⟨s, c, cs bent, by rw [Sx_cs]; rfl, stK, by rw [cs_len]; omega, fun bent2 HL kL stL lb2 => ?_⟩
          replace ez := kL _ _ ez ot
          replace fJ := fJ.to (Tups.st kL stK)
          walk_at "st"
          rw [cs_len] at lb2
          refine ⟨_, _, rfl, stL.set ot, fJ.to (Tups.lst ez), zs ++ [bent2], by rw [List.length_append]; show zs.length + 1 = _; omega, by rw [List.map_append]; exact upd_same, fun y m => ?_⟩
          rcases List.mem_append.mp m with m | m
          · exact hz y m
          · rw [List.mem_singleton.mp m]; omega
      obtain ⟨x8, x9, rfl, stJ, fJ, zs, lz, ez, hz⟩ := p
      clear st7 fG e7
      walk_at "st"
      intro ja hja
      have ea : upd HJ ja (.tup [.str (Sx (textC n ts))]) ja = some (.tup [.str (Sx (textC n ts))]) := upd_same
      have sa : Same HJ (upd HJ ja (.tup [.str (Sx (textC n ts))])) := Same.upd_new hja
      generalize upd HJ ja (.tup [.str (Sx (textC n ts))]) = HK at *
      walk_at "st"
      intro jb hjb
      have eb : upd HK jb (.lst [.str (Sx (textC n ts))]) jb = some (.lst [.str (Sx (textC n ts))]) := upd_same
      have sb : Same HK (upd HK jb (.lst [.str (Sx (textC n ts))])) := Same.upd_new hjb
      generalize upd HK jb (.lst [.str (Sx (textC n ts))]) = HL at *
      walk_at "st"
      intro jc hjc
      have ec : upd HL jc (.dK (encT [])) jc = some (.dK (encT [])) := upd_same
      have sc : Same HL (upd HL jc (.dK (encT []))) := Same.upd_new hjc
      generalize upd HL jc (.dK (encT [])) = HM at *
      walk_at "st"
      intro jd hjd
      have ed : upd HM jd (.lst [.non, .int 5, .bl true, .ref ja, .ref jb, .ref jc, .ref lot]) jd = some (.lst [.non, .int 5, .bl true, .ref ja, .ref jb, .ref jc, .ref lot]) := upd_same
      have sd : Same HM (upd HM jd (.lst [.non, .int 5, .bl true, .ref ja, .ref jb, .ref jc, .ref lot])) := Same.upd_new hjd
      generalize upd HM jd (.lst [.non, .int 5, .bl true, .ref ja, .ref jb, .ref jc, .ref lot]) = HN at *
      have sn : Same HJ HN := ((sa.trans sb).trans sc).trans sd
      replace ez := sn _ _ ez
      refine r_cat ez ed (by rw [List.length_map]; have : (1000000 : Nat) ≤ sizeLine := (by decide); show _ + 7 ≤ _; omega) fun je hje => ?_
      generalize hits : zs.map V.str ++ [V.non, .int 5, .bl true, .ref ja, .ref jb, .ref jc, .ref lot] = its at *
      have ee : upd HN je (.lst its) je = some (.lst its) := upd_same
      have se : Same HN (upd HN je (.lst its)) := Same.upd_new hje
      generalize upd HN je (.lst its) = HO at *
      have item : ∀ v ∈ its, (∃ z : Str, v = .str z ∧ z.length ≤ 930) ∨ ∃ (o : O), Rep [] HO v o ∧ noStr o := fun v m => by
        rw [← hits] at m
        rcases List.mem_append.mp m with m | m
        · obtain ⟨z, mz, rfl⟩ := List.mem_map.mp m
          exact .inl ⟨z, rfl, hz z mz⟩
        · refine .inr ?_
          simp only [List.mem_cons, List.not_mem_nil, or_false] at m
          rcases m with rfl | rfl | rfl | rfl | rfl | rfl | rfl
          · exact ⟨_, .non, trivial⟩
          · exact ⟨_, .int 5, trivial⟩
          · exact ⟨_, .bl true, trivial⟩
          · exact ⟨_, .tup ((((sb.trans sc).trans sd).trans se) _ _ ea) List.not_mem_nil (.cons (.str _) .nil), trivial⟩
          · exact ⟨_, .lst (((sc.trans sd).trans se) _ _ eb) List.not_mem_nil (.cons (.str _) .nil), trivial⟩
          · exact ⟨_, .dct ((sd.trans se) _ _ ec) List.not_mem_nil, trivial⟩
          · exact ⟨_, (fJ.sm (sn.trans se)).repD, trivial⟩
      have fO := fJ.sm (sn.trans se)
      have stO := stJ.same (sn.trans se)
      have lits : its.length ≤ 20 := by
        rw [← hits, List.length_append, List.length_map]
        show _ + 7 ≤ 20
        have : zs.length = 10 := lz
        omega
      clear hits ea eb ec ed sa sb sc sd sn se hja hjb hjc hjd hje ez fJ stJ
      walk_at "st"
      refine lp_by (walk_list (a := je) (xs := its)) (fun j σ' H' => ∃ x10 x11 x12 x13, σ' = [some (.ref a), some (.ref s), some (.int (0 + (i : Int))), some (.int q1), some (.int q2), some (.ref lot), some (.str (Sx (textC n ts))), some (.ref pt7), x8, x9, x10, x11, x12, x13, x14, x15, x16] ∧ Same HO H') ⟨_, _, _, _, rfl, Same.refl _⟩ (fun _ _ _ _ g => by obtain ⟨_, _, _, _, _, g⟩ := g; exact SqL.of (g _ _ ee)) (fun j x σ' HP HP' hj p y => ?_) (fun σ' HP p => ?_)
      · obtain ⟨x10, x11, x12, x13, rfl, sP⟩ := p
        obtain ⟨rfl, ex⟩ := y
        walk_at "st"
        intro jq hjq
        have eq : upd HP' jq (.lst [.int q1, .int q2]) jq = some (.lst [.int q1, .int q2]) := upd_same
        have sQ : Same HO (upd HP' jq (.lst [.int q1, .int q2])) := sP.trans (Same.upd_new hjq)
        generalize upd HP' jq (.lst [.int q1, .int q2]) = HQ at *
        clear sP hjq
        have hit := item x (List.mem_of_getElem? ex)
        walk_at "st"
        refine lp_by (walk_list (a := jq) (xs := [V.int q1, .int q2])) (fun j σ' H' => ∃ x11 x12 x13, σ' = [some (.ref a), some (.ref s), some (.int (0 + (i : Int))), some (.int q1), some (.int q2), some (.ref lot), some (.str (Sx (textC n ts))), some (.ref pt7), x8, x9, some x, x11, x12, x13, x14, x15, x16] ∧ Same HQ H') ⟨_, _, _, rfl, Same.refl _⟩ (fun _ _ _ _ g => by obtain ⟨_, _, _, _, g⟩ := g; exact SqL.of (g _ _ eq)) (fun k y σ' HR HR' hk p y2 => ?_) (fun σ' HR p => ?_)
        · obtain ⟨x11, x12, x13, rfl, sR⟩ := p
          obtain ⟨rfl, ey⟩ := y2
          obtain ⟨pr, rfl, hp⟩ : ∃ pr : Int, y = .int pr ∧ (2 ≤ pr ∧ pr ≤ 997) := by
            have m := List.mem_of_getElem? ey
            simp only [List.mem_cons, List.not_mem_nil, or_false] at m
            rcases m with rfl | rfl
            · exact ⟨_, rfl, p1⟩
            · exact ⟨_, rfl, p2⟩
          walk_at "st"
          rcases hit with ⟨z, rfl, lz2⟩ | ⟨o, ro, no⟩
          · have lzc : (cs z).length ≤ 940 := by rw [cs_len]; omega
            refine .inl ⟨cs z, pr, by rw [Sx_cs]; rfl, small_of lzc, hp, fun v n' ts' HS sS fo e fv => ?_, fun none HS sS => ?_⟩
            · have lts' : ts'.length ≤ 1000 := terms_small fo e lzc
              walk_at "st"
              refine .inl ⟨cs z, pr, by rw [Sx_cs]; rfl, by omega, hp, fun v2 n2 ts2 HT sT fo2 e2 fv2 => ?_, fun h => absurd e (h _ _ fo)⟩
              have eq2 := text_inj fo2 fo (by omega) (e2.trans e.symm)
              rw [eq2.1, eq2.2] at fv2
              replace fv := fv.sm sT
              have sU := (sR.trans sS).trans sT
              clear fo2 e2 eq2 sS sT
              walk_at "st"
              walk_at "if"
              refine r_reprFA fv fo hp.2 lts' ?_
              walk_at "st"
              refine r_reprFA fv2 fo hp.2 lts' ?_
              walk_at "st"
              rw [if_neg (by simp)]
              walk_at "st"
              obtain ⟨av, bv, uv, rfl, _⟩ := id fv
              rw [if_pos (by simp)]
              walk_at "st"
              refine ⟨[], .ref av, dataO n' (someP ts'), pr, rfl, fv.repD, small_data fo.good lts', fun HU sV => ?_⟩
              rw [data_ok fo]
              walk_at "st"
              exact ⟨_, _, _, rfl, sU.trans sV⟩
            · walk_at "st"
              refine .inl ⟨cs z, pr, by rw [Sx_cs]; rfl, by omega, hp, fun v2 n2 ts2 HT sT fo2 e2 fv2 => absurd e2 (none _ _ fo2), fun _ HT sT => ?_⟩
              have sU := (sR.trans sS).trans sT
              walk_at "st"
              walk_at "if"
              refine r_reprNA ?_
              walk_at "st"
              refine r_reprNA ?_
              walk_at "st"
              rw [if_neg (by simp)]
              walk_at "st"
              exact ⟨_, _, _, rfl, sU⟩
          · replace ro := ro.to (Lft.same (sQ.trans sR))
            refine .inr ⟨[], x, o, pr, rfl, ro, no, ?_⟩
            walk_at "st"
            refine .inr ⟨[], x, o, pr, rfl, ro, no, ?_⟩
            walk_at "st"
            walk_at "if"
            refine r_reprNA ?_
            walk_at "st"
            refine r_reprNA ?_
            walk_at "st"
            rw [if_neg (by simp)]
            walk_at "st"
            exact ⟨_, _, _, rfl, sR⟩
        · obtain ⟨x11, x12, x13, rfl, sR⟩ := p
          walk_at "st"
          exact ⟨_, _, _, _, rfl, sQ.trans sR⟩
      obtain ⟨x10, x11, x12, x13, rfl, sP⟩ := p
      walk_at "st"
      walk_at "if"
      refine .inl ⟨textC n ts, q1, rfl, small_of (by omega), p1, fun v n' ts' HE sE fo e fv => ?_, fun h => absurd rfl (h n ts ok)⟩
      have e2 := text_inj fo ok (by omega) e
      rw [e2.1, e2.2] at fv
      have fL := fO.sm (sP.trans sE)
      have stL := stO.same (sP.trans sE)
      clear fO stO sP sE fo e e2
      walk_at "st"
      refine r_neF fv fL nf nf ?_
      clear fv fL
      walk_at "st"
      rw [if_neg (by simp)]
      walk_at "st"
      refine r_nines fun G hG => ?_
      have lG : G.length = 5000 := by rw [← cs_len, hG, List.length_replicate]
      walk_at "st"
      have s6 : (6000 : Nat) ≤ sizeLine := by decide
      have L := longs_of hG (w := Sx (textC n ts)) (by rw [cs_Sx]; omega)
      refine r_addS (by show G.length + 1 ≤ _; omega) ?_
      walk_at "st"
      refine r_addS (by show 2 + G.length ≤ _; omega) ?_
      walk_at "st"
      refine r_addS (by rw [str_app]; show 2 + G.length + 1 ≤ _; omega) ?_
      walk_at "st"
      refine r_addS (by rw [Sx_len]; show _ + 1 ≤ _; omega) ?_
      walk_at "st"
      refine r_addS (by rw [str_app, Sx_len]; show _ + 1 + _ ≤ _; omega) ?_
      walk_at "st"
      intro jl hjl
      have el : upd HE jl (.lst [.str G, .str (G ++ Str.ofString "x"), .str (Str.ofString "1+" ++ G ++ Str.ofString "y"), .str (Sx (textC n ts) ++ Str.ofString "+" ++ G)]) jl = some (.lst ([G, G ++ Str.ofString "x", Str.ofString "1+" ++ G ++ Str.ofString "y", Sx (textC n ts) ++ Str.ofString "+" ++ G].map V.str)) := upd_same
      have stM := stL.new hjl (x := .lst [.str G, .str (G ++ Str.ofString "x"), .str (Str.ofString "1+" ++ G ++ Str.ofString "y"), .str (Sx (textC n ts) ++ Str.ofString "+" ++ G)])
      generalize upd HE jl (.lst [.str G, .str (G ++ Str.ofString "x"), .str (Str.ofString "1+" ++ G ++ Str.ofString "y"), .str (Sx (textC n ts) ++ Str.ofString "+" ++ G)]) = HF at *
      have ll : [G, G ++ Str.ofString "x", Str.ofString "1+" ++ G ++ Str.ofString "y", Sx (textC n ts) ++ Str.ofString "+" ++ G].length = 4 := rfl
      generalize [G, G ++ Str.ofString "x", Str.ofString "1+" ++ G ++ Str.ofString "y", Sx (textC n ts) ++ Str.ofString "+" ++ G] = ls at *
      clear stL hjl
      walk_at "if"
      intro jm hjm
      refine lc_filt (walk_list (a := jl) (xs := ls.map V.str)) (by rw [List.length_map]; omega) hjm (fun _ => false) (fun H' k => SqL.of (k _ _ el)) (fun i H1 x H2 y => by rw [y.1]; exact Same.refl _)
        (fun j x HB HC Y No hj sm y _ hNo => ?_) (fun ys HB ey ly sm eD => ?_)
      · obtain ⟨rfl, ex⟩ := y
        obtain ⟨z, ez, rfl⟩ := getElem?_map_str ex
        obtain ⟨big, b, mb, lb⟩ := L z (List.mem_of_getElem? ez)
        walk_at "st"
        refine ⟨rfl, ?_⟩
        walk_at "st"
        refine .inl ⟨cs z, q1, by rw [Sx_cs]; rfl, big, p1, fun v n' ts' HS sS fo e fv => absurd e (long_none fo p1.2 mb lb), fun _ HS sS => ?_⟩
        walk_at "st"
        exact hNo rfl _ sS
      have ey2 : ys.isEmpty = true := by rw [ey]; simp
      have stN := stM.same sm
      walk_at "st"
      intro jn hjn
      have eD4 := hl_new (u := .lst []) eD hjn
      have stO := stN.new hjn (x := .lst [])
      walk_at "st"
      rw [ey2]
      walk_at "st"
      exact ⟨_, _, _, _, _, _, _, _, _, _, _, _, _, _, _, rfl, stO⟩
    · obtain ⟨x2, x3, x4, x5, x6, x7, x8, x9, x10, x11, x12, x13, x14, x15, x16, rfl, st2⟩ := p
      walk_at "st"
      exact q _
end
/-! ### what the top has written; the law -/
theorem all_mk {l : PySem.W.OpenLaw} {w : World} {K : PySem.W.Frag} {h : Heap} {mg : Str → Option Value} {fa : Addr} (X : K.In h) (G : h.Ns mainGlobals mg) (hfa : mg "law" = some (.ref fa))
    {od1 an1 : Option Addr} {sl1 : Array (Option Value)} {oc1 kV1 dc1 pm1 cd1 ct1 : Value} {f1 : Addr}
    {od2 an2 : Option Addr} {sl2 : Array (Option Value)} {oc2 kV2 dc2 pm2 cd2 ct2 : Value} {f2 : Addr}
    {od3 an3 : Option Addr} {sl3 : Array (Option Value)} {oc3 kV3 dc3 pm3 cd3 ct3 : Value} {f3 : Addr}
    {od4 an4 : Option Addr} {sl4 : Array (Option Value)} {oc4 kV4 dc4 pm4 cd4 ct4 : Value} {f4 : Addr}
    {od5 an5 : Option Addr} {sl5 : Array (Option Value)} {oc5 kV5 dc5 pm5 cd5 ct5 : Value} {f5 : Addr}
    {od6 an6 : Option Addr} {sl6 : Array (Option Value)} {oc6 kV6 dc6 pm6 cd6 ct6 : Value} {f6 : Addr}
    {od7 an7 : Option Addr} {sl7 : Array (Option Value)} {oc7 kV7 dc7 pm7 cd7 ct7 : Value} {f7 : Addr}
    {od8 an8 : Option Addr} {sl8 : Array (Option Value)} {oc8 kV8 dc8 pm8 cd8 ct8 : Value} {f8 : Addr}
    {od9 an9 : Option Addr} {sl9 : Array (Option Value)} {oc9 kV9 dc9 pm9 cd9 ct9 : Value} {f9 : Addr}
    {od10 an10 : Option Addr} {sl10 : Array (Option Value)} {oc10 kV10 dc10 pm10 cd10 ct10 : Value} {f10 : Addr}
    {od11 an11 : Option Addr} {sl11 : Array (Option Value)} {oc11 kV11 dc11 pm11 cd11 ct11 : Value} {f11 : Addr}
    {od12 an12 : Option Addr} {sl12 : Array (Option Value)} {oc12 kV12 dc12 pm12 cd12 ct12 : Value} {f12 : Addr}
    {od13 an13 : Option Addr} {sl13 : Array (Option Value)} {oc13 kV13 dc13 pm13 cd13 ct13 : Value} {f13 : Addr}
    {od14 an14 : Option Addr} {sl14 : Array (Option Value)} {oc14 kV14 dc14 pm14 cd14 ct14 : Value} {f14 : Addr}
    {od15 an15 : Option Addr} {sl15 : Array (Option Value)} {oc15 kV15 dc15 pm15 cd15 ct15 : Value} {f15 : Addr}
    {od16 an16 : Option Addr} {sl16 : Array (Option Value)} {oc16 kV16 dc16 pm16 cd16 ct16 : Value} {f16 : Addr}
    {od17 an17 : Option Addr} {sl17 : Array (Option Value)} {oc17 kV17 dc17 pm17 cd17 ct17 : Value} {f17 : Addr}
    {od18 an18 : Option Addr} {sl18 : Array (Option Value)} {oc18 kV18 dc18 pm18 cd18 ct18 : Value} {f18 : Addr}
    {od19 an19 : Option Addr} {sl19 : Array (Option Value)} {oc19 kV19 dc19 pm19 cd19 ct19 : Value} {f19 : Addr}
    {od20 an20 : Option Addr} {sl20 : Array (Option Value)} {oc20 kV20 dc20 pm20 cd20 ct20 : Value} {f20 : Addr}
    {od21 an21 : Option Addr} {sl21 : Array (Option Value)} {oc21 kV21 dc21 pm21 cd21 ct21 : Value} {f21 : Addr}
    {od22 an22 : Option Addr} {sl22 : Array (Option Value)} {oc22 kV22 dc22 pm22 cd22 ct22 : Value} {f22 : Addr}
    {od23 an23 : Option Addr} {sl23 : Array (Option Value)} {oc23 kV23 dc23 pm23 cd23 ct23 : Value} {f23 : Addr}
    {od24 an24 : Option Addr} {sl24 : Array (Option Value)} {oc24 kV24 dc24 pm24 cd24 ct24 : Value} {f24 : Addr}
    {od25 an25 : Option Addr} {sl25 : Array (Option Value)} {oc25 kV25 dc25 pm25 cd25 ct25 : Value} {f25 : Addr}
    (a1 : PySem.W.nsIn K mainGlobals "is_whole" = some (some (.ref f1))) (l1 : K.lookup f1 = some ⟨oc1, od1, .func (PySem.W.fnOf "is_whole" "is_whole" (defArgs s_is_whole) (defBody s_is_whole) (defScope s_is_whole) .none kV1 dc1 pm1 an1 cd1 ct1), sl1⟩) (c1 : PySem.W.codeIn K cd1 "is_whole" = true) (k1 : PySem.W.keepIn K (.ref f1) = true)
    (a2 : PySem.W.nsIn K mainGlobals "is_number" = some (some (.ref f2))) (l2 : K.lookup f2 = some ⟨oc2, od2, .func (PySem.W.fnOf "is_number" "is_number" (defArgs s_is_number) (defBody s_is_number) (defScope s_is_number) .none kV2 dc2 pm2 an2 cd2 ct2), sl2⟩) (c2 : PySem.W.codeIn K cd2 "is_number" = true) (k2 : PySem.W.keepIn K (.ref f2) = true)
    (a3 : PySem.W.nsIn K mainGlobals "is_place" = some (some (.ref f3))) (l3 : K.lookup f3 = some ⟨oc3, od3, .func (PySem.W.fnOf "is_place" "is_place" (defArgs s_is_place) (defBody s_is_place) (defScope s_is_place) .none kV3 dc3 pm3 an3 cd3 ct3), sl3⟩) (c3 : PySem.W.codeIn K cd3 "is_place" = true) (k3 : PySem.W.keepIn K (.ref f3) = true)
    (a4 : PySem.W.nsIn K mainGlobals "has_only" = some (some (.ref f4))) (l4 : K.lookup f4 = some ⟨oc4, od4, .func (PySem.W.fnOf "has_only" "has_only" (defArgs s_has_only) (defBody s_has_only) (defScope s_has_only) .none kV4 dc4 pm4 an4 cd4 ct4), sl4⟩) (c4 : PySem.W.codeIn K cd4 "has_only" = true) (k4 : PySem.W.keepIn K (.ref f4) = true)
    (a5 : PySem.W.nsIn K mainGlobals "read_figures" = some (some (.ref f5))) (l5 : K.lookup f5 = some ⟨oc5, od5, .func (PySem.W.fnOf "read_figures" "read_figures" (defArgs s_read_figures) (defBody s_read_figures) (defScope s_read_figures) .none kV5 dc5 pm5 an5 cd5 ct5), sl5⟩) (c5 : PySem.W.codeIn K cd5 "read_figures" = true) (k5 : PySem.W.keepIn K (.ref f5) = true)
    (a6 : PySem.W.nsIn K mainGlobals "is_tuple" = some (some (.ref f6))) (l6 : K.lookup f6 = some ⟨oc6, od6, .func (PySem.W.fnOf "is_tuple" "is_tuple" (defArgs s_is_tuple) (defBody s_is_tuple) (defScope s_is_tuple) .none kV6 dc6 pm6 an6 cd6 ct6), sl6⟩) (c6 : PySem.W.codeIn K cd6 "is_tuple" = true) (k6 : PySem.W.keepIn K (.ref f6) = true)
    (a7 : PySem.W.nsIn K mainGlobals "do_rise" = some (some (.ref f7))) (l7 : K.lookup f7 = some ⟨oc7, od7, .func (PySem.W.fnOf "do_rise" "do_rise" (defArgs s_do_rise) (defBody s_do_rise) (defScope s_do_rise) .none kV7 dc7 pm7 an7 cd7 ct7), sl7⟩) (c7 : PySem.W.codeIn K cd7 "do_rise" = true) (k7 : PySem.W.keepIn K (.ref f7) = true)
    (a8 : PySem.W.nsIn K mainGlobals "is_form" = some (some (.ref f8))) (l8 : K.lookup f8 = some ⟨oc8, od8, .func (PySem.W.fnOf "is_form" "is_form" (defArgs s_is_form) (defBody s_is_form) (defScope s_is_form) .none kV8 dc8 pm8 an8 cd8 ct8), sl8⟩) (c8 : PySem.W.codeIn K cd8 "is_form" = true) (k8 : PySem.W.keepIn K (.ref f8) = true)
    (a9 : PySem.W.nsIn K mainGlobals "is_term" = some (some (.ref f9))) (l9 : K.lookup f9 = some ⟨oc9, od9, .func (PySem.W.fnOf "is_term" "is_term" (defArgs s_is_term) (defBody s_is_term) (defScope s_is_term) .none kV9 dc9 pm9 an9 cd9 ct9), sl9⟩) (c9 : PySem.W.codeIn K cd9 "is_term" = true) (k9 : PySem.W.keepIn K (.ref f9) = true)
    (a10 : PySem.W.nsIn K mainGlobals "form_text" = some (some (.ref f10))) (l10 : K.lookup f10 = some ⟨oc10, od10, .func (PySem.W.fnOf "form_text" "form_text" (defArgs s_form_text) (defBody s_form_text) (defScope s_form_text) .none kV10 dc10 pm10 an10 cd10 ct10), sl10⟩) (c10 : PySem.W.codeIn K cd10 "form_text" = true) (k10 : PySem.W.keepIn K (.ref f10) = true)
    (a11 : PySem.W.nsIn K mainGlobals "read_form" = some (some (.ref f11))) (l11 : K.lookup f11 = some ⟨oc11, od11, .func (PySem.W.fnOf "read_form" "read_form" (defArgs s_read_form) (defBody s_read_form) (defScope s_read_form) .none kV11 dc11 pm11 an11 cd11 ct11), sl11⟩) (c11 : PySem.W.codeIn K cd11 "read_form" = true) (k11 : PySem.W.keepIn K (.ref f11) = true)
    (a12 : PySem.W.nsIn K mainGlobals "term_of" = some (some (.ref f12))) (l12 : K.lookup f12 = some ⟨oc12, od12, .func (PySem.W.fnOf "term_of" "term_of" (defArgs s_term_of) (defBody s_term_of) (defScope s_term_of) .none kV12 dc12 pm12 an12 cd12 ct12), sl12⟩) (c12 : PySem.W.codeIn K cd12 "term_of" = true) (k12 : PySem.W.keepIn K (.ref f12) = true)
    (a13 : PySem.W.nsIn K mainGlobals "_law_begun" = some (some (.ref f13))) (l13 : K.lookup f13 = some ⟨oc13, od13, .func (PySem.W.fnOf "_law_begun" "_law_begun" (defArgs s_law_begun) (defBody s_law_begun) (defScope s_law_begun) .none kV13 dc13 pm13 an13 cd13 ct13), sl13⟩) (c13 : PySem.W.codeIn K cd13 "_law_begun" = true) (k13 : PySem.W.keepIn K (.ref f13) = true)
    (a14 : PySem.W.nsIn K mainGlobals "_law_draw" = some (some (.ref f14))) (l14 : K.lookup f14 = some ⟨oc14, od14, .func (PySem.W.fnOf "_law_draw" "_law_draw" (defArgs s_law_draw) (defBody s_law_draw) (defScope s_law_draw) .none kV14 dc14 pm14 an14 cd14 ct14), sl14⟩) (c14 : PySem.W.codeIn K cd14 "_law_draw" = true) (k14 : PySem.W.keepIn K (.ref f14) = true)
    (a15 : PySem.W.nsIn K mainGlobals "_law_prime" = some (some (.ref f15))) (l15 : K.lookup f15 = some ⟨oc15, od15, .func (PySem.W.fnOf "_law_prime" "_law_prime" (defArgs s_law_prime) (defBody s_law_prime) (defScope s_law_prime) .none kV15 dc15 pm15 an15 cd15 ct15), sl15⟩) (c15 : PySem.W.codeIn K cd15 "_law_prime" = true) (k15 : PySem.W.keepIn K (.ref f15) = true)
    (a16 : PySem.W.nsIn K mainGlobals "_law_place" = some (some (.ref f16))) (l16 : K.lookup f16 = some ⟨oc16, od16, .func (PySem.W.fnOf "_law_place" "_law_place" (defArgs s_law_place) (defBody s_law_place) (defScope s_law_place) .none kV16 dc16 pm16 an16 cd16 ct16), sl16⟩) (c16 : PySem.W.codeIn K cd16 "_law_place" = true) (k16 : PySem.W.keepIn K (.ref f16) = true)
    (a17 : PySem.W.nsIn K mainGlobals "_law_places" = some (some (.ref f17))) (l17 : K.lookup f17 = some ⟨oc17, od17, .func (PySem.W.fnOf "_law_places" "_law_places" (defArgs s_law_places) (defBody s_law_places) (defScope s_law_places) .none kV17 dc17 pm17 an17 cd17 ct17), sl17⟩) (c17 : PySem.W.codeIn K cd17 "_law_places" = true) (k17 : PySem.W.keepIn K (.ref f17) = true)
    (a18 : PySem.W.nsIn K mainGlobals "_law_form" = some (some (.ref f18))) (l18 : K.lookup f18 = some ⟨oc18, od18, .func (PySem.W.fnOf "_law_form" "_law_form" (defArgs s_law_form) (defBody s_law_form) (defScope s_law_form) .none kV18 dc18 pm18 an18 cd18 ct18), sl18⟩) (c18 : PySem.W.codeIn K cd18 "_law_form" = true) (k18 : PySem.W.keepIn K (.ref f18) = true)
    (a19 : PySem.W.nsIn K mainGlobals "_law_written" = some (some (.ref f19))) (l19 : K.lookup f19 = some ⟨oc19, od19, .func (PySem.W.fnOf "_law_written" "_law_written" (defArgs s_law_written) (defBody s_law_written) (defScope s_law_written) .none kV19 dc19 pm19 an19 cd19 ct19), sl19⟩) (c19 : PySem.W.codeIn K cd19 "_law_written" = true) (k19 : PySem.W.keepIn K (.ref f19) = true)
    (a20 : PySem.W.nsIn K mainGlobals "_law_figures" = some (some (.ref f20))) (l20 : K.lookup f20 = some ⟨oc20, od20, .func (PySem.W.fnOf "_law_figures" "_law_figures" (defArgs s_law_figures) (defBody s_law_figures) (defScope s_law_figures) .none kV20 dc20 pm20 an20 cd20 ct20), sl20⟩) (c20 : PySem.W.codeIn K cd20 "_law_figures" = true) (k20 : PySem.W.keepIn K (.ref f20) = true)
    (a21 : PySem.W.nsIn K mainGlobals "_law_number" = some (some (.ref f21))) (l21 : K.lookup f21 = some ⟨oc21, od21, .func (PySem.W.fnOf "_law_number" "_law_number" (defArgs s_law_number) (defBody s_law_number) (defScope s_law_number) .none kV21 dc21 pm21 an21 cd21 ct21), sl21⟩) (c21 : PySem.W.codeIn K cd21 "_law_number" = true) (k21 : PySem.W.keepIn K (.ref f21) = true)
    (a22 : PySem.W.nsIn K mainGlobals "_law_term" = some (some (.ref f22))) (l22 : K.lookup f22 = some ⟨oc22, od22, .func (PySem.W.fnOf "_law_term" "_law_term" (defArgs s_law_term) (defBody s_law_term) (defScope s_law_term) .none kV22 dc22 pm22 an22 cd22 ct22), sl22⟩) (c22 : PySem.W.codeIn K cd22 "_law_term" = true) (k22 : PySem.W.keepIn K (.ref f22) = true)
    (a23 : PySem.W.nsIn K mainGlobals "_law_read" = some (some (.ref f23))) (l23 : K.lookup f23 = some ⟨oc23, od23, .func (PySem.W.fnOf "_law_read" "_law_read" (defArgs s_law_read) (defBody s_law_read) (defScope s_law_read) .none kV23 dc23 pm23 an23 cd23 ct23), sl23⟩) (c23 : PySem.W.codeIn K cd23 "_law_read" = true) (k23 : PySem.W.keepIn K (.ref f23) = true)
    (a24 : PySem.W.nsIn K mainGlobals "_law_bent" = some (some (.ref f24))) (l24 : K.lookup f24 = some ⟨oc24, od24, .func (PySem.W.fnOf "_law_bent" "_law_bent" (defArgs s_law_bent) (defBody s_law_bent) (defScope s_law_bent) .none kV24 dc24 pm24 an24 cd24 ct24), sl24⟩) (c24 : PySem.W.codeIn K cd24 "_law_bent" = true) (k24 : PySem.W.keepIn K (.ref f24) = true)
    (a25 : PySem.W.nsIn K mainGlobals "law" = some (some (.ref f25))) (l25 : K.lookup f25 = some ⟨oc25, od25, .func (PySem.W.fnOf "law" "law" (defArgs s_law) (defBody s_law) (defScope s_law) .none kV25 dc25 pm25 an25 cd25 ct25), sl25⟩) (c25 : PySem.W.codeIn K cd25 "law" = true) (k25 : PySem.W.keepIn K (.ref f25) = true)
    (z_abs : PySem.W.nsIn K mainGlobals "abs" = some none)
    (z_all : PySem.W.nsIn K mainGlobals "all" = some none)
    (z_bool : PySem.W.nsIn K mainGlobals "bool" = some none)
    (z_int : PySem.W.nsIn K mainGlobals "int" = some none)
    (z_isinstance : PySem.W.nsIn K mainGlobals "isinstance" = some none)
    (z_len : PySem.W.nsIn K mainGlobals "len" = some none)
    (z_range : PySem.W.nsIn K mainGlobals "range" = some none)
    (z_repr : PySem.W.nsIn K mainGlobals "repr" = some none)
    (z_sorted : PySem.W.nsIn K mainGlobals "sorted" = some none)
    (z_str : PySem.W.nsIn K mainGlobals "str" = some none)
    (z_tuple : PySem.W.nsIn K mainGlobals "tuple" = some none)
    (z_zip : PySem.W.nsIn K mainGlobals "zip" = some none)
    {t_FIGURES : Tok} (y_FIGURES : PySem.W.nsIn K mainGlobals "FIGURES" = some (some (.str "0123456789" t_FIGURES)))
    {t_LETTERS : Tok} (y_LETTERS : PySem.W.nsIn K mainGlobals "LETTERS" = some (some (.str "abcdefghijklmnopqrstuvwxyz" t_LETTERS)))
    {t_LONGEST_PLACE : Tok} (y_LONGEST_PLACE : PySem.W.nsIn K mainGlobals "LONGEST_PLACE" = some (some (.int 40 t_LONGEST_PLACE))) :
    ∃ fd : FuncData, (∀ (s : Shared) (v : Value), BindsTo s fd ⟨[v], []⟩ [("script", v)]) ∧ ∀ base : Heap, K.In base → base.Ns mainGlobals mg → FnG l.prog w K mg base 6 fa fd ["script"] (sp_law K) := by
  have e := hfa.symm.trans (PySem.W.mg_of X G a25)
  cases e
  have G1 := fun_mk (st := s_is_whole) l1 c1 k1
  have F1 : Here K mg "is_whole" s_is_whole ["thing"] f1 _ := ⟨G1, PySem.W.mg_of X G a1, G1.binds (ps := ["thing"]) fun _ _ _ _ _ _ us hl => match us, hl with | [_], _ => rfl⟩
  have G2 := fun_mk (st := s_is_number) l2 c2 k2
  have F2 : Here K mg "is_number" s_is_number ["thing", "p"] f2 _ := ⟨G2, PySem.W.mg_of X G a2, G2.binds (ps := ["thing", "p"]) fun _ _ _ _ _ _ us hl => match us, hl with | [_, _], _ => rfl⟩
  have G3 := fun_mk (st := s_is_place) l3 c3 k3
  have F3 : Here K mg "is_place" s_is_place ["thing"] f3 _ := ⟨G3, PySem.W.mg_of X G a3, G3.binds (ps := ["thing"]) fun _ _ _ _ _ _ us hl => match us, hl with | [_], _ => rfl⟩
  have G4 := fun_mk (st := s_has_only) l4 c4 k4
  have F4 : Here K mg "has_only" s_has_only ["text", "signs"] f4 _ := ⟨G4, PySem.W.mg_of X G a4, G4.binds (ps := ["text", "signs"]) fun _ _ _ _ _ _ us hl => match us, hl with | [_, _], _ => rfl⟩
  have G5 := fun_mk (st := s_read_figures) l5 c5 k5
  have F5 : Here K mg "read_figures" s_read_figures ["text", "most"] f5 _ := ⟨G5, PySem.W.mg_of X G a5, G5.binds (ps := ["text", "most"]) fun _ _ _ _ _ _ us hl => match us, hl with | [_, _], _ => rfl⟩
  have G6 := fun_mk (st := s_is_tuple) l6 c6 k6
  have F6 : Here K mg "is_tuple" s_is_tuple ["thing", "least", "most"] f6 _ := ⟨G6, PySem.W.mg_of X G a6, G6.binds (ps := ["thing", "least", "most"]) fun _ _ _ _ _ _ us hl => match us, hl with | [_, _, _], _ => rfl⟩
  have G7 := fun_mk (st := s_do_rise) l7 c7 k7
  have F7 : Here K mg "do_rise" s_do_rise ["things"] f7 _ := ⟨G7, PySem.W.mg_of X G a7, G7.binds (ps := ["things"]) fun _ _ _ _ _ _ us hl => match us, hl with | [_], _ => rfl⟩
  have G8 := fun_mk (st := s_is_form) l8 c8 k8
  have F8 : Here K mg "is_form" s_is_form ["thing", "p"] f8 _ := ⟨G8, PySem.W.mg_of X G a8, G8.binds (ps := ["thing", "p"]) fun _ _ _ _ _ _ us hl => match us, hl with | [_, _], _ => rfl⟩
  have G9 := fun_mk (st := s_is_term) l9 c9 k9
  have F9 : Here K mg "is_term" s_is_term ["thing", "p"] f9 _ := ⟨G9, PySem.W.mg_of X G a9, G9.binds (ps := ["thing", "p"]) fun _ _ _ _ _ _ us hl => match us, hl with | [_, _], _ => rfl⟩
  have G10 := fun_mk (st := s_form_text) l10 c10 k10
  have F10 : Here K mg "form_text" s_form_text ["form"] f10 _ := ⟨G10, PySem.W.mg_of X G a10, G10.binds (ps := ["form"]) fun _ _ _ _ _ _ us hl => match us, hl with | [_], _ => rfl⟩
  have G11 := fun_mk (st := s_read_form) l11 c11 k11
  have F11 : Here K mg "read_form" s_read_form ["text", "p"] f11 _ := ⟨G11, PySem.W.mg_of X G a11, G11.binds (ps := ["text", "p"]) fun _ _ _ _ _ _ us hl => match us, hl with | [_, _], _ => rfl⟩
  have G12 := fun_mk (st := s_term_of) l12 c12 k12
  have F12 : Here K mg "term_of" s_term_of ["part", "p"] f12 _ := ⟨G12, PySem.W.mg_of X G a12, G12.binds (ps := ["part", "p"]) fun _ _ _ _ _ _ us hl => match us, hl with | [_, _], _ => rfl⟩
  have G13 := fun_mk (st := s_law_begun) l13 c13 k13
  have F13 : Here K mg "_law_begun" s_law_begun ["script"] f13 _ := ⟨G13, PySem.W.mg_of X G a13, G13.binds (ps := ["script"]) fun _ _ _ _ _ _ us hl => match us, hl with | [_], _ => rfl⟩
  have G14 := fun_mk (st := s_law_draw) l14 c14 k14
  have F14 : Here K mg "_law_draw" s_law_draw ["state", "many"] f14 _ := ⟨G14, PySem.W.mg_of X G a14, G14.binds (ps := ["state", "many"]) fun _ _ _ _ _ _ us hl => match us, hl with | [_, _], _ => rfl⟩
  have G15 := fun_mk (st := s_law_prime) l15 c15 k15
  have F15 : Here K mg "_law_prime" s_law_prime ["state"] f15 _ := ⟨G15, PySem.W.mg_of X G a15, G15.binds (ps := ["state"]) fun _ _ _ _ _ _ us hl => match us, hl with | [_], _ => rfl⟩
  have G16 := fun_mk (st := s_law_place) l16 c16 k16
  have F16 : Here K mg "_law_place" s_law_place ["state"] f16 _ := ⟨G16, PySem.W.mg_of X G a16, G16.binds (ps := ["state"]) fun _ _ _ _ _ _ us hl => match us, hl with | [_], _ => rfl⟩
  have G17 := fun_mk (st := s_law_places) l17 c17 k17
  have F17 : Here K mg "_law_places" s_law_places ["state", "many"] f17 _ := ⟨G17, PySem.W.mg_of X G a17, G17.binds (ps := ["state", "many"]) fun _ _ _ _ _ _ us hl => match us, hl with | [_, _], _ => rfl⟩
  have G18 := fun_mk (st := s_law_form) l18 c18 k18
  have F18 : Here K mg "_law_form" s_law_form ["state", "places", "q"] f18 _ := ⟨G18, PySem.W.mg_of X G a18, G18.binds (ps := ["state", "places", "q"]) fun _ _ _ _ _ _ us hl => match us, hl with | [_, _, _], _ => rfl⟩
  have G19 := fun_mk (st := s_law_written) l19 c19 k19
  have F19 : Here K mg "_law_written" s_law_written ["lot"] f19 _ := ⟨G19, PySem.W.mg_of X G a19, G19.binds (ps := ["lot"]) fun _ _ _ _ _ _ us hl => match us, hl with | [_], _ => rfl⟩
  have G20 := fun_mk (st := s_law_figures) l20 c20 k20
  have F20 : Here K mg "_law_figures" s_law_figures ["word"] f20 _ := ⟨G20, PySem.W.mg_of X G a20, G20.binds (ps := ["word"]) fun _ _ _ _ _ _ us hl => match us, hl with | [_], _ => rfl⟩
  have G21 := fun_mk (st := s_law_number) l21 c21 k21
  have F21 : Here K mg "_law_number" s_law_number ["word", "q"] f21 _ := ⟨G21, PySem.W.mg_of X G a21, G21.binds (ps := ["word", "q"]) fun _ _ _ _ _ _ us hl => match us, hl with | [_, _], _ => rfl⟩
  have G22 := fun_mk (st := s_law_term) l22 c22 k22
  have F22 : Here K mg "_law_term" s_law_term ["piece", "q"] f22 _ := ⟨G22, PySem.W.mg_of X G a22, G22.binds (ps := ["piece", "q"]) fun _ _ _ _ _ _ us hl => match us, hl with | [_, _], _ => rfl⟩
  have G23 := fun_mk (st := s_law_read) l23 c23 k23
  have F23 : Here K mg "_law_read" s_law_read ["word", "q"] f23 _ := ⟨G23, PySem.W.mg_of X G a23, G23.binds (ps := ["word", "q"]) fun _ _ _ _ _ _ us hl => match us, hl with | [_, _], _ => rfl⟩
  have G24 := fun_mk (st := s_law_bent) l24 c24 k24
  have F24 : Here K mg "_law_bent" s_law_bent ["state", "word"] f24 _ := ⟨G24, PySem.W.mg_of X G a24, G24.binds (ps := ["state", "word"]) fun _ _ _ _ _ _ us hl => match us, hl with | [_, _], _ => rfl⟩
  have G25 := fun_mk (st := s_law) l25 c25 k25
  have F25 : Here K mg "law" s_law ["script"] fa _ := ⟨G25, PySem.W.mg_of X G a25, G25.binds (ps := ["script"]) fun _ _ _ _ _ _ us hl => match us, hl with | [_], _ => rfl⟩
  have T : Tx K mg := ⟨⟨_, PySem.W.mg_of X G y_FIGURES⟩, ⟨_, PySem.W.mg_of X G y_LETTERS⟩, ⟨_, PySem.W.mg_of X G y_LONGEST_PLACE⟩, PySem.W.mg_none_of X G z_abs, PySem.W.mg_none_of X G z_all, PySem.W.mg_none_of X G z_bool, PySem.W.mg_none_of X G z_int, PySem.W.mg_none_of X G z_isinstance, PySem.W.mg_none_of X G z_len, PySem.W.mg_none_of X G z_range, PySem.W.mg_none_of X G z_repr, PySem.W.mg_none_of X G z_sorted, PySem.W.mg_none_of X G z_str, PySem.W.mg_none_of X G z_tuple, PySem.W.mg_none_of X G z_zip⟩
  refine ⟨PySem.W.fnOf "law" "law" (defArgs s_law) (defBody s_law) (defScope s_law) .none kV25 dc25 pm25 an25 cd25 ct25, fun s v => .of_eq rfl, fun base _ _ => ?_⟩
  have C_law_begun := ok_law_begun (P := l.prog) (w := w) (base := base) T  F13
  have C_law_draw := ok_law_draw (P := l.prog) (w := w) (base := base) T  F14
  have C_law_form := ok_law_form (P := l.prog) (w := w) (base := base) T C_law_draw F18
  have C_law_written := ok_law_written (P := l.prog) (w := w) (base := base) T  F19
  have C_law_prime := ok_law_prime (P := l.prog) (w := w) (base := base) T C_law_draw F15
  have C_law_place := ok_law_place (P := l.prog) (w := w) (base := base) T C_law_draw F16
  have C_law_places := ok_law_places (P := l.prog) (w := w) (base := base) T C_law_place C_law_draw F17
  have C_law_bent := ok_law_bent (P := l.prog) (w := w) (base := base) T C_law_draw F24
  have C_has_only := ok_has_only (P := l.prog) (w := w) (base := base) T  F4
  have C_read_figures := ok_read_figures (P := l.prog) (w := w) (base := base) T C_has_only F5
  have C_is_tuple := ok_is_tuple (P := l.prog) (w := w) (base := base) T  F6
  have C_do_rise := ok_do_rise (P := l.prog) (w := w) (base := base) T  F7
  have C_is_whole := ok_is_whole (P := l.prog) (w := w) (base := base) T  F1
  have C_is_number := ok_is_number (P := l.prog) (w := w) (base := base) T C_is_whole F2
  have C_is_place := ok_is_place (P := l.prog) (w := w) (base := base) T C_has_only F3
  have C_is_term := ok_is_term (P := l.prog) (w := w) (base := base) T C_is_tuple C_is_place C_is_number F9
  have C_is_form := ok_is_form (P := l.prog) (w := w) (base := base) T C_is_tuple C_do_rise C_is_number C_is_term F8
  have C_form_text := ok_form_text (P := l.prog) (w := w) (base := base) T  F10
  have C_term_of := ok_term_of (P := l.prog) (w := w) (base := base) T C_read_figures F12
  have C_read_form := ok_read_form (P := l.prog) (w := w) (base := base) T C_read_figures C_is_form C_form_text C_term_of F11
  have C_law_figures := ok_law_figures (P := l.prog) (w := w) (base := base) T  F20
  have C_law_number := ok_law_number (P := l.prog) (w := w) (base := base) T  F21
  have C_law_term := ok_law_term (P := l.prog) (w := w) (base := base) T C_law_figures C_law_number F22
  have C_law_read := ok_law_read (P := l.prog) (w := w) (base := base) T C_law_figures C_law_number C_law_term F23
  have C_law := ok_law (P := l.prog) (w := w) (base := base) T C_law_begun C_law_form C_law_written C_law_prime C_law_places C_law_bent C_read_form C_law_draw C_law_read C_form_text C_is_form F25
  exact C_law
end Z
open PySem PySem.W PyProof.Rows
set_option maxHeartbeats 0 in
theorem PySem.Challenge.cw_onetrace_k04_whole_texts_of_forms_holds : PySem.Challenge.rw_onetrace_k04_whole_texts_of_forms.Holds := by
  w_on; o_law; k_head; (case hw => w_witness2)
  k_fill
  refine Z.walkG_of (l := PySem.Challenge.rw_onetrace_k04_whole_texts_of_forms) (n := 63) (k := 6) (x := "script") (sp := fun w => Z.sp_law _) rfl (by decide) rfl ⟨rfl, by decide, by decide⟩ (fun w h Y => PySem.W.kIn_of Y) ?F (fun _ _ a ns hl _ hS => ⟨a, ns, rfl, hS, hl, fun _ => rfl⟩)
  case F =>
    intro w mg fa h KX G hmg
    refine' Z.all_mk KX G hmg ?a1 ?l1 ?c1 ?k1 ?a2 ?l2 ?c2 ?k2 ?a3 ?l3 ?c3 ?k3 ?a4 ?l4 ?c4 ?k4 ?a5 ?l5 ?c5 ?k5 ?a6 ?l6 ?c6 ?k6 ?a7 ?l7 ?c7 ?k7 ?a8 ?l8 ?c8 ?k8 ?a9 ?l9 ?c9 ?k9 ?a10 ?l10 ?c10 ?k10 ?a11 ?l11 ?c11 ?k11 ?a12 ?l12 ?c12 ?k12 ?a13 ?l13 ?c13 ?k13 ?a14 ?l14 ?c14 ?k14 ?a15 ?l15 ?c15 ?k15 ?a16 ?l16 ?c16 ?k16 ?a17 ?l17 ?c17 ?k17 ?a18 ?l18 ?c18 ?k18 ?a19 ?l19 ?c19 ?k19 ?a20 ?l20 ?c20 ?k20 ?a21 ?l21 ?c21 ?k21 ?a22 ?l22 ?c22 ?k22 ?a23 ?l23 ?c23 ?k23 ?a24 ?l24 ?c24 ?k24 ?a25 ?l25 ?c25 ?k25 ?z_abs ?z_all ?z_bool ?z_int ?z_isinstance ?z_len ?z_range ?z_repr ?z_sorted ?z_str ?z_tuple ?z_zip ?y_FIGURES ?y_LETTERS ?y_LONGEST_PLACE
    (case a1 => k_is)
    (case l1 => k_is)
    (case c1 => k_is)
    (case k1 => k_is)
    (case a2 => k_is)
    (case l2 => k_is)
    (case c2 => k_is)
    (case k2 => k_is)
    (case a3 => k_is)
    (case l3 => k_is)
    (case c3 => k_is)
    (case k3 => k_is)
    (case a4 => k_is)
    (case l4 => k_is)
    (case c4 => k_is)
    (case k4 => k_is)
    (case a5 => k_is)
    (case l5 => k_is)
    (case c5 => k_is)
    (case k5 => k_is)
    (case a6 => k_is)
    (case l6 => k_is)
    (case c6 => k_is)
    (case k6 => k_is)
    (case a7 => k_is)
    (case l7 => k_is)
    (case c7 => k_is)
    (case k7 => k_is)
    (case a8 => k_is)
    (case l8 => k_is)
    (case c8 => k_is)
    (case k8 => k_is)
    (case a9 => k_is)
    (case l9 => k_is)
    (case c9 => k_is)
    (case k9 => k_is)
    (case a10 => k_is)
    (case l10 => k_is)
    (case c10 => k_is)
    (case k10 => k_is)
    (case a11 => k_is)
    (case l11 => k_is)
    (case c11 => k_is)
    (case k11 => k_is)
    (case a12 => k_is)
    (case l12 => k_is)
    (case c12 => k_is)
    (case k12 => k_is)
    (case a13 => k_is)
    (case l13 => k_is)
    (case c13 => k_is)
    (case k13 => k_is)
    (case a14 => k_is)
    (case l14 => k_is)
    (case c14 => k_is)
    (case k14 => k_is)
    (case a15 => k_is)
    (case l15 => k_is)
    (case c15 => k_is)
    (case k15 => k_is)
    (case a16 => k_is)
    (case l16 => k_is)
    (case c16 => k_is)
    (case k16 => k_is)
    (case a17 => k_is)
    (case l17 => k_is)
    (case c17 => k_is)
    (case k17 => k_is)
    (case a18 => k_is)
    (case l18 => k_is)
    (case c18 => k_is)
    (case k18 => k_is)
    (case a19 => k_is)
    (case l19 => k_is)
    (case c19 => k_is)
    (case k19 => k_is)
    (case a20 => k_is)
    (case l20 => k_is)
    (case c20 => k_is)
    (case k20 => k_is)
    (case a21 => k_is)
    (case l21 => k_is)
    (case c21 => k_is)
    (case k21 => k_is)
    (case a22 => k_is)
    (case l22 => k_is)
    (case c22 => k_is)
    (case k22 => k_is)
    (case a23 => k_is)
    (case l23 => k_is)
    (case c23 => k_is)
    (case k23 => k_is)
    (case a24 => k_is)
    (case l24 => k_is)
    (case c24 => k_is)
    (case k24 => k_is)
    (case a25 => k_is)
    (case l25 => k_is)
    (case c25 => k_is)
    (case k25 => k_is)
    (case z_abs => k_is)
    (case z_all => k_is)
    (case z_bool => k_is)
    (case z_int => k_is)
    (case z_isinstance => k_is)
    (case z_len => k_is)
    (case z_range => k_is)
    (case z_repr => k_is)
    (case z_sorted => k_is)
    (case z_str => k_is)
    (case z_tuple => k_is)
    (case z_zip => k_is)
    (case y_FIGURES => k_is)
    (case y_LETTERS => k_is)
    (case y_LONGEST_PLACE => k_is)
