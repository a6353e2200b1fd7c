import PyProof.Rows.All
import Wide.All
import OpenK.AllK
import Wide.FinOn
import HandS.ForMost
import HandS.Wide
import HandS.Zip
import HandS.Walk
import HandS.IsInst
import HandS.TupAny
import HandS.Style
import HandS.SortOrd
import HandS.Remove
import KE.DataFind
import KE.GoesEnum
import HandS.TupMul
import HandS.More
import HandS.Small
import HandS.DictComp
import KE.KRevSl
import PyProof.StrOps2
import PyProof.NeKinds
import HandS.Codes
import HandS.Text
import HandS.FStr
import HandS.StrMore
import KE.KDictZip
import PySem.Challenge.RW_onetrace_k05_whole_forms_by_all_worths
set_option Elab.async false
set_option linter.all false
set_option maxRecDepth 100000
set_option maxHeartbeats 4000000
namespace Z
open PySem PySem.Spec PyProof.Rows L2 RZ
/-- a def that is called: where it stands, what it promises -/
structure Cal (P : Program) (w : World) (K : PySem.W.Frag) (mg : Str → Option Value) (base : Heap) (x : Str) (k : Nat) (ps : List Str) (sp : Sp) (st : Stmt) (f : Addr) (fd : FuncData) : Prop where
  ok : FnOk P w K mg base CX0 k f fd ps sp
  at_ : mg x = some (.ref f)
  kp : PySem.W.keepIn K (.ref f) = true
  b : Binds K fd ps []
  fn : Fun K x x st f fd
/-- a def as it stands behind the top -/
structure Here (K : PySem.W.Frag) (mg : Str → Option Value) (x : Str) (st : Stmt) (ps : List Str) (f : Addr) (fd : FuncData) : Prop where
  fn : Fun K x x st f fd
  at_ : mg x = some (.ref f)
  b : Binds K fd ps []
section
variable {P : Program} {w : World} {K : PySem.W.Frag} {mg : Str → Option Value} {base : Heap}
theorem Here.cal {x : Str} {st : Stmt} {ps N : List Str} {f : Addr} {fd : FuncData} {k : Nat} {sp : Sp} (F : Here K mg x st ps f fd) (S : FnScope N ps (defScope st)) (len : ∀ vs H Q E, sp vs H Q E → vs.length = ps.length)
    (hbody : ∀ (cdv : Value) (A : Around) (outer : List Env) (s : Shared) (H : Hp) (vs : List V) (Q : VK) (E : XK), Room k (A.deeper (envOfC x (defScope st) s.heap.objs.size f cdv)) → sp vs H Q E →
      ∃ t, PSs (cxOf CX0 P w K mg base N x (defScope st) f cdv A outer s H E).nox (defBody st) t ∧ t { nx := fun _ H' => Q .non H', rt := Q } (L2.start N vs) H) : Cal P w K mg base x (k + 1) ps sp st f fd :=
  ⟨F.fn.ok S len hbody, F.at_, F.fn.kp, F.b, F.fn⟩
end
/-! readings, rule by rule -/
def rLen (K : PySem.W.Frag) : List V → Hp → VK → Prop := fun xs H Q => ∃ p ys, xs = [.ref p] ∧ (SqL K H p ys ∨ SqT K H p ys) ∧ Q (.int ys.length) H
theorem cr_len {X : Cx} : CallR X (.builtin "len") (rLen X.K) := call_len_seq
theorem r_app0 {l : Addr} {xs : List V} {y : V} {H : Hp} {Q : VK} (h : H l = some (.lst xs)) (z : xs.length < sizeLine) (q : Q .non (upd H l (.lst (xs ++ [y])))) : rAppend (.ref l) [y] H Q := ⟨l, xs, y, rfl, rfl, h, z, q⟩
theorem r_ty {K : PySem.W.Frag} {l : Addr} {xs : List V} {H : Hp} {A : Prop} (h : H l = some (.lst xs)) (q : A) : tyV K "list" (.ref l) H ∧ A := ⟨.inl ⟨rfl, _, .inl (.inl h)⟩, q⟩
theorem r_all {K : PySem.W.Frag} {a : Addr} {bs : List Bool} {H : Hp} {Q : VK} (h : SqL K H a (bs.map V.bl)) (q : Q (.bl (bs.all id)) H) : rAll K [.ref a] H Q := ⟨a, bs, rfl, h, q⟩
theorem r_sum {K : PySem.W.Frag} {a : Addr} {ns : List Int} {H : Hp} {Q : VK} (h : SqL K H a (ns.map V.int)) (q : Q (.int ns.sum) H) : rSum K [.ref a] H Q := ⟨a, ns, rfl, h, q⟩
theorem r_isi {K : PySem.W.Frag} {x c : V} {t u : Value} {b : Bool} {H : Hp} {Q : VK} (h1 : ClsV c u) (h2 : TyX K H x t) (h3 : PySem.W.kitOne K t u = some b) (q : Q (.bl b) H) : rIsi K [x, c] H Q := ⟨x, c, t, u, b, rfl, h1, h2, h3, q⟩
def rAbs : List V → Hp → VK → Prop := fun xs H Q => ∃ i, xs = [.int i] ∧ Q (.int (if i < 0 then -i else i)) H
theorem cr_abs {X : Cx} : CallR X (.builtin "abs") rAbs := call_abs
def rListOf (K : PySem.W.Frag) : List V → Hp → VK → Prop := fun xs H Q => ∃ p ys, xs = [.ref p] ∧ (SqL K H p ys ∨ SqT K H p ys) ∧ ∀ l, H l = none → Q (.ref l) (upd H l (.lst ys))
theorem cr_listOf {X : Cx} : CallR X (.type "list") (rListOf X.K) := call_list_of
def rTupOf (K : PySem.W.Frag) : List V → Hp → VK → Prop := fun xs H Q => ∃ p ys, xs = [.ref p] ∧ ((SqL K H p ys ∧ ∀ l, H l = none → Q (.ref l) (upd H l (.tup ys))) ∨ (SqT K H p ys ∧ Q (.ref p) H))
theorem cr_tupOf {X : Cx} : CallR X (.type "tuple") (rTupOf X.K) := call_tuple_of
section
variable {K : PySem.W.Frag} {D : Ends} {σ : L2.St} {H : Hp} {Q : VK}
theorem r_seq {t u : TS} (h : t { D with nx := u D } σ H) : tSeq t u D σ H := h
theorem r_asg {te : TE} {g : TG} (h : te σ H fun x H1 => g x σ H1 D.nx) : tAsg te g D σ H := h
theorem r_gname {i : Nat} {v : V} {N : L2.St → Hp → Prop} (h : N (σ.set i (some v)) H) : gName i v σ H N := h
theorem r_var {i : Nat} {v : V} (e : σ[i]? = some (some v)) (h : Q v H) : tVar i σ H Q := ⟨v, e, h⟩
theorem r_c {v : V} (h : Q v H) : tC v σ H Q := h
theorem r_op {r : R2} {ta tb : TE} (h : ta σ H fun x H1 => tb σ H1 fun y H2 => r x y H2 Q) : tOp r ta tb σ H Q := h
theorem r_i0 {g : Int → Int → V} {i j : Int} (h : Q (g i j) H) : rI0 g (.int i) (.int j) H Q := ⟨i, j, rfl, rfl, h⟩
theorem r_i {C : Int → Int → Prop} {g : Int → Int → V} {i j : Int} (c : C i j) (h : Q (g i j) H) : rI C g (.int i) (.int j) H Q := ⟨i, j, rfl, rfl, c, h⟩
theorem r_ixl {p : Addr} {xs : List V} {i : Int} {v : V} (h : SqL K H p xs) (e : atI xs i = some v) (q : Q v H) : rIxL K (.ref p) (.int i) H Q := ⟨p, xs, i, v, rfl, rfl, h, e, q⟩
theorem r_ixt {p : Addr} {xs : List V} {i : Int} {v : V} (h : SqT K H p xs) (e : atI xs i = some v) (q : Q v H) : rIxT K (.ref p) (.int i) H Q := ⟨p, xs, i, v, rfl, rfl, h, e, q⟩
theorem r_cb {r : List V → Hp → VK → Prop} {t : TA} (h : t σ H fun vs H1 => r vs H1 Q) : tCB r t σ H Q := h
theorem r_cons {ta : TE} {tr : TA} {R : List V → Hp → Prop} (h : ta σ H fun x H1 => tr σ H1 fun xs H2 => R (x :: xs) H2) : tCons ta tr σ H R := h
theorem r_nil {R : List V → Hp → Prop} (h : R [] H) : tNil σ H R := h
theorem r_len {p : Addr} {ys : List V} (h : SqL K H p ys) (q : Q (.int ys.length) H) : rLen K [.ref p] H Q := ⟨p, ys, rfl, .inl h, q⟩
theorem r_lent {p : Addr} {ys : List V} (h : SqT K H p ys) (q : Q (.int ys.length) H) : rLen K [.ref p] H Q := ⟨p, ys, rfl, .inr h, q⟩
theorem r_abs {i : Int} (q : Q (.int (if i < 0 then -i else i)) H) : rAbs [.int i] H Q := ⟨i, rfl, q⟩
theorem r_listl {p : Addr} {ys : List V} (h : SqL K H p ys) (q : ∀ l, H l = none → Q (.ref l) (upd H l (.lst ys))) : rListOf K [.ref p] H Q := ⟨p, ys, rfl, .inl h, q⟩
theorem r_listt {p : Addr} {ys : List V} (h : SqT K H p ys) (q : ∀ l, H l = none → Q (.ref l) (upd H l (.lst ys))) : rListOf K [.ref p] H Q := ⟨p, ys, rfl, .inr h, q⟩
theorem r_tupl {p : Addr} {ys : List V} (h : SqL K H p ys) (q : ∀ l, H l = none → Q (.ref l) (upd H l (.tup ys))) : rTupOf K [.ref p] H Q := ⟨p, ys, rfl, .inl ⟨h, q⟩⟩
theorem r_tupt {p : Addr} {ys : List V} (h : SqT K H p ys) (q : Q (.ref p) H) : rTupOf K [.ref p] H Q := ⟨p, ys, rfl, .inr ⟨h, q⟩⟩
theorem r_if {c : TT} {t u : TS} (h : c σ H fun b H1 => if b = true then t D σ H1 else u D σ H1) : tIfS c t u D σ H := h
theorem r_ife {c : TT} {t u : TE} (h : c σ H fun b H1 => if b = true then t σ H1 Q else u σ H1 Q) : tIf c t u σ H Q := h
theorem r_test {te : TE} {R : Bool → Hp → Prop} (h : te σ H fun x H' => ∃ k, x = .bl k ∧ R k H') : tTest te σ H R := h
theorem r_bl {b : Bool} {R : Bool → Prop} (h : R b) : ∃ k, V.bl b = .bl k ∧ R k := ⟨b, rfl, h⟩
theorem r_ite {p : Prop} {inst : Decidable p} {A B : Prop} (h1 : p → A) (h2 : ¬p → B) : if decide p = true then A else B := by
  by_cases h : p
  · rw [if_pos (decide_eq_true h)]; exact h1 h
  · rw [if_neg (by simpa using h)]; exact h2 h
theorem r_tand {t u : TT} {R : Bool → Hp → Prop} (h : t σ H fun c H1 => if c = true then u σ H1 R else R false H1) : tAnd t u σ H R := h
theorem r_tor {t u : TT} {R : Bool → Hp → Prop} (h : t σ H fun c H1 => if c = true then R true H1 else u σ H1 R) : tOr t u σ H R := h
theorem r_tnot {t : TT} {R : Bool → Hp → Prop} (h : t σ H fun c H1 => R (!c) H1) : tNot t σ H R := h
theorem r_andv {ta tb : TE} (h : ta σ H fun x H1 => ∃ c, x = .bl c ∧ if c = true then tb σ H1 Q else Q (.bl false) H1) : tAndV ta tb σ H Q := h
theorem r_orv {ta tb : TE} (h : ta σ H fun x H1 => ∃ c, x = .bl c ∧ if c = true then Q (.bl true) H1 else tb σ H1 Q) : tOrV ta tb σ H Q := h
theorem r_notv {ta : TE} (h : ta σ H fun x H1 => ∃ c, x = .bl c ∧ Q (.bl (!c)) H1) : tNotV ta σ H Q := h
theorem r_chain {r r' : R2} {ta tb tc : TE} (h : ta σ H fun x H1 => tb σ H1 fun y H2 => r x y H2 fun z H3 => ∃ k, z = .bl k ∧ (if k = true then tc σ H3 fun w' H4 => r' y w' H4 Q else Q (.bl false) H3)) : tChain r r' ta tb tc σ H Q := h
theorem r_t {A B : Prop} (h : A) : if true = true then A else B := by rw [if_pos rfl]; exact h
theorem r_f {A B : Prop} (h : B) : if false = true then A else B := by rw [if_neg (by decide)]; exact h
theorem r_nt {A B : Prop} (h : B) : if (!true) = true then A else B := by rw [if_neg (by decide)]; exact h
theorem r_nf {A B : Prop} (h : A) : if (!false) = true then A else B := by rw [if_pos (by decide)]; exact h
theorem r_bm {T : String} {r : V → List V → Hp → VK → Prop} {to : TE} {t : TA} (h : to σ H fun x H1 => tyV K T x H1 ∧ t σ H1 fun xs H2 => r x xs H2 Q) : tBM K T r to t σ H Q := h
theorem r_sl {r : V → Option Int → Option Int → Hp → VK → Prop} {te : TE} {tl th : TO} (h : te σ H fun x H1 => tl σ H1 fun l H2 => th σ H2 fun u H3 => r x l u H3 Q) : tSl r te tl th σ H Q := h
theorem r_sll {a : Addr} {xs : List V} {lo hi : Option Int} (h : SqL K H a xs) (q : ∀ p, H p = none → Q (.ref p) (upd H p (.lst (cutV xs lo hi)))) : rSlL K (.ref a) lo hi H Q := ⟨a, xs, rfl, h, q⟩
theorem r_nopart {R : Option Int → Hp → Prop} (h : R none H) : tNoPart σ H R := h
theorem r_part {te : TE} {R : Option Int → Hp → Prop} (h : te σ H fun x H1 => ∃ i, x = .int i ∧ R (some i) H1) : tPart te σ H R := h
theorem r_parti {i : Int} {R : Int → Prop} (h : R i) : ∃ j, V.int i = .int j ∧ R j := ⟨i, rfl, h⟩
theorem r_yes {R : Bool → Hp → Prop} (h : R true H) : tYes σ H R := h
theorem r_sz {xs : List V} {B : Prop} (e : Nat.ble xs.length 1000 = true) (h : B) : xs.length ≤ sizeLine ∧ B := ⟨Nat.le_trans (Nat.le_of_ble_eq_true e) (by decide), h⟩
theorem r_iteB {b : Bool} {A B : Prop} (h1 : b = true → A) (h2 : b = false → B) : if b = true then A else B := by
  cases b with
  | true => rw [if_pos rfl]; exact h1 rfl
  | false => rw [if_neg (by decide)]; exact h2 rfl
theorem r_tb {t : TE} {R : Bool → Hp → Prop} (h : t σ H fun x H1 => ∃ c, x = .bl c ∧ R c H1) : tB t σ H R := h
theorem r_un {r : V → Hp → VK → Prop} {ta : TE} (h : ta σ H fun x H1 => r x H1 Q) : tUn r ta σ H Q := h
theorem r_u {g : Int → V} {i : Int} (h : Q (g i) H) : rU g (.int i) H Q := ⟨i, rfl, h⟩
theorem r_ret {te : TE} (h : te σ H D.rt) : tRet te D σ H := h
theorem r_gsub {to ti : TE} {t : TSet} {v : V} {N : L2.St → Hp → Prop} (h : to σ H fun o H1 => ti σ H1 fun i H2 => t o i v H2 fun H3 => N σ H3) : gSub to ti t v σ H N := h
theorem r_setl {p : Addr} {xs : List V} {k : Int} {j : Nat} {v : V} {R : Hp → Prop} (h : H p = some (.lst xs)) (e : ixN xs.length k = some j) (q : R (upd H p (.lst (xs.set j v)))) : rSetL (.ref p) (.int k) v H R := ⟨p, xs, k, j, rfl, rfl, h, e, q⟩
theorem r_next (h : D.nx σ H) : tNext D σ H := h
theorem r_call {sp : Sp} {dvs : List V} {E : XK} {t : TA} (h : t σ H fun vs H1 => sp (vs ++ dvs) H1 Q E) : tCall sp dvs E t σ H Q := h
theorem r_lst {t : TA} (h : t σ H fun xs H1 => xs.length ≤ sizeLine ∧ ∀ p, H1 p = none → Q (.ref p) (upd H1 p (.lst xs))) : tLst t σ H Q := h
theorem r_tup {t : TA} (h : t σ H fun xs H1 => xs.length ≤ sizeLine ∧ ∀ p, H1 p = none → Q (.ref p) (upd H1 p (.tup xs))) : tTup t σ H Q := h
theorem r_drop {te : TE} (h : te σ H fun _ H1 => D.nx σ H1) : tDrop te D σ H := h
theorem r_eq {x y : V} (s : scal x y = true) (q : Q (.bl (decide (x = y))) H) : rEq x y H Q := ⟨s, q⟩
theorem r_ne {x y : V} (s : scal x y = true) (q : Q (.bl (!decide (x = y))) H) : rNe x y H Q := ⟨s, q⟩
theorem hl_new {H : Hp} {a b : Addr} {o u : HO} (h : H a = some o) (n : H b = none) : upd H b u a = some o := (upd_ne (ne_of_none h n)).trans h
theorem hl_set {H : Hp} {a b : Addr} {o u : HO} (n : a ≠ b) (h : H a = some o) : upd H b u a = some o := (upd_ne n).trans h
end

/-! ### what stands at an address, over the heaps -/
def Kp (S : List Addr) (H H' : Hp) : Prop := ∀ b o, H b = some o → b ∉ S → H' b = some o
theorem Kp.refl {S : List Addr} {H : Hp} : Kp S H H := fun _ _ h _ => h
theorem Kp.trans {S : List Addr} {H H1 H2 : Hp} (a : Kp S H H1) (b : Kp S H1 H2) : Kp S H H2 := fun x o h n => b x o (a x o h n) n
theorem Kp.new {S : List Addr} {H : Hp} {p : Addr} {x : HO} (n : H p = none) : Kp S H (upd H p x) := fun b o h _ => hl_new h n
theorem Kp.set {S : List Addr} {H : Hp} {p : Addr} {x : HO} (m : p ∈ S) : Kp S H (upd H p x) := fun b o h n => hl_set (fun e => n (e ▸ m)) h
/-- a thing made since H is changed -/
theorem Kp.own {S : List Addr} {H H1 : Hp} {p : Addr} {x : HO} (k : Kp S H H1) (n : H p = none) : Kp S H (upd H1 p x) := fun b o h m => hl_set (ne_of_none h n) (k b o h m)
theorem Kp.sub {S S' : List Addr} {H H' : Hp} (k : Kp S H H') (m : ∀ a ∈ S, a ∈ S') : Kp S' H H' := fun b o h n => k b o h fun z => n (m b z)
theorem Kp.ofSame {S : List Addr} {H H' : Hp} (k : Same H H') : Kp S H H' := fun b o h _ => k b o h
theorem Kp.nil {H H' : Hp} (k : Kp [] H H') : Same H H' := fun b o h => k b o h (by simp)
theorem Kp.free {S : List Addr} {H H' : Hp} (k : Kp S H H') {p : Addr} (n : H' p = none) (m : p ∉ S) : H p = none := by
  cases q : H p with
  | none => rfl
  | some o => rw [k p o q m] at n; cases n
theorem Same.upd_new {H : Hp} {p : Addr} {x : HO} (n : H p = none) : Same H (upd H p x) := fun b o h => hl_new h n
theorem hl_kp {S : List Addr} {H H' : Hp} {a : Addr} {o : HO} (k : Kp S H H') (n : a ∉ S) (h : H a = some o) : H' a = some o := k _ _ h n
theorem hl_same {H H' : Hp} {a : Addr} {o : HO} (k : Same H H') (h : H a = some o) : H' a = some o := k _ _ h
/-- every object outside S stands, outside S' -/
def Lft (S : List Addr) (H : Hp) (S' : List Addr) (H' : Hp) : Prop := ∀ a o, H a = some o → a ∉ S → H' a = some o ∧ a ∉ S'
theorem Lft.refl {S : List Addr} {H : Hp} : Lft S H S H := fun _ _ h n => ⟨h, n⟩
theorem Lft.trans {S S1 S2 : List Addr} {H H1 H2 : Hp} (a : Lft S H S1 H1) (b : Lft S1 H1 S2 H2) : Lft S H S2 H2 := fun x o h n => b x o (a x o h n).1 (a x o h n).2
theorem Lft.new {S : List Addr} {H : Hp} {p : Addr} {x : HO} (n : H p = none) : Lft S H S (upd H p x) := fun _ _ h m => ⟨hl_new h n, m⟩
theorem Lft.set {S : List Addr} {H : Hp} {p : Addr} {x : HO} (m : p ∈ S) : Lft S H S (upd H p x) := fun _ _ h n => ⟨hl_set (fun e => n (e ▸ m)) h, n⟩
theorem Lft.kp {S S1 : List Addr} {H H1 : Hp} (k : Kp S H H1) (m : ∀ a ∈ S, a ∈ S1) : Lft S1 H S1 H1 := fun b o h n => ⟨k b o h fun z => n (m b z), n⟩
theorem Lft.same {S : List Addr} {H H1 : Hp} (k : Same H H1) : Lft S H S H1 := fun b o h n => ⟨k b o h, n⟩
theorem Lft.own {S : List Addr} {H : Hp} {p : Addr} {x : HO} (n : H p = none) : Lft S H (p :: S) (upd H p x) := fun a _ h m => ⟨hl_new h n, fun z => by
  rcases List.mem_cons.mp z with e | e
  · exact ne_of_none h n e
  · exact m e⟩
theorem Lft.sub {S S' : List Addr} {H : Hp} (m : ∀ a ∈ S', a ∈ S) : Lft S H S' H := fun a _ h n => ⟨h, fun z => n (m a z)⟩
/-- plain data -/
inductive O where
  | non | bl (b : Bool) | int (i : Int) | str (x : Str) | tup (os : List O) | lst (os : List O) | dct
mutual
inductive Rep (S : List Addr) (H : Hp) : V → O → Prop
  | non : Rep S H .non .non
  | bl (b : Bool) : Rep S H (.bl b) (.bl b)
  | int (i : Int) : Rep S H (.int i) (.int i)
  | str (x : Str) : Rep S H (.str x) (.str x)
  | tup {a : Addr} {xs : List V} {os : List O} : H a = some (.tup xs) → a ∉ S → RepAll S H xs os → Rep S H (.ref a) (.tup os)
  | lst {a : Addr} {xs : List V} {os : List O} : H a = some (.lst xs) → a ∉ S → RepAll S H xs os → Rep S H (.ref a) (.lst os)
  | dct {a : Addr} {kvs : List (Key × V)} : H a = some (.dK kvs) → a ∉ S → Rep S H (.ref a) .dct
inductive RepAll (S : List Addr) (H : Hp) : List V → List O → Prop
  | nil : RepAll S H [] []
  | cons {v : V} {vs : List V} {o : O} {os : List O} : Rep S H v o → RepAll S H vs os → RepAll S H (v :: vs) (o :: os)
end
mutual
theorem Rep.to {S S' : List Addr} {H H' : Hp} (k : Lft S H S' H') : ∀ {v : V} {o : O}, Rep S H v o → Rep S' H' v o
  | _, _, .non => .non
  | _, _, .bl b => .bl b
  | _, _, .int i => .int i
  | _, _, .str x => .str x
  | _, _, .tup h n r => .tup (k _ _ h n).1 (k _ _ h n).2 (RepAll.to k r)
  | _, _, .lst h n r => .lst (k _ _ h n).1 (k _ _ h n).2 (RepAll.to k r)
  | _, _, .dct h n => .dct (k _ _ h n).1 (k _ _ h n).2
theorem RepAll.to {S S' : List Addr} {H H' : Hp} (k : Lft S H S' H') : ∀ {vs : List V} {os : List O}, RepAll S H vs os → RepAll S' H' vs os
  | _, _, .nil => .nil
  | _, _, .cons r t => .cons (Rep.to k r) (RepAll.to k t)
end
section
variable {S : List Addr} {H : Hp}
theorem RepAll.length : ∀ {vs : List V} {os : List O}, RepAll S H vs os → vs.length = os.length
  | _, _, .nil => rfl
  | _, _, .cons _ t => congrArg (· + 1) (RepAll.length t)
theorem RepAll.get : ∀ {vs : List V} {os : List O} {i : Nat} {v : V}, RepAll S H vs os → vs[i]? = some v → ∃ o, os[i]? = some o ∧ Rep S H v o
  | _, _, _, _, .nil, e => by simp at e
  | _, _, 0, _, .cons r _, e => by simp at e; subst e; exact ⟨_, rfl, r⟩
  | _, _, i + 1, v, .cons _ t, e => by
    obtain ⟨o, h1, h2⟩ := RepAll.get (i := i) (v := v) t (by simpa using e)
    exact ⟨o, by simpa using h1, h2⟩
theorem RepAll.append : ∀ {vs us : List V} {os qs : List O}, RepAll S H vs os → RepAll S H us qs → RepAll S H (vs ++ us) (os ++ qs)
  | _, _, _, _, .nil, s => s
  | _, _, _, _, .cons r t, s => .cons r (RepAll.append t s)
theorem RepAll.take : ∀ {vs : List V} {os : List O} (n : Nat), RepAll S H vs os → RepAll S H (vs.take n) (os.take n)
  | _, _, 0, _ => .nil
  | _, _, _ + 1, .nil => .nil
  | _, _, n + 1, .cons r t => .cons r (RepAll.take n t)
theorem RepAll.drop : ∀ {vs : List V} {os : List O} (n : Nat), RepAll S H vs os → RepAll S H (vs.drop n) (os.drop n)
  | _, _, 0, r => r
  | _, _, _ + 1, .nil => .nil
  | _, _, n + 1, .cons _ t => RepAll.drop n t
theorem RepAll.ints : ∀ (ns : List Int), RepAll S H (ns.map V.int) (ns.map O.int)
  | [] => .nil
  | n :: ns => .cons (.int n) (RepAll.ints ns)
theorem RepAll.ints_inv : ∀ {ns : List Int} {vs : List V}, RepAll S H vs (ns.map O.int) → vs = ns.map V.int
  | [], _, .nil => rfl
  | n :: ns, _, .cons r t => by cases r; rw [RepAll.ints_inv t]; rfl
theorem Rep.tupInv {v : V} {os : List O} (r : Rep S H v (.tup os)) : ∃ a xs, v = .ref a ∧ H a = some (.tup xs) ∧ a ∉ S ∧ RepAll S H xs os := by
  cases r with
  | tup h n t => exact ⟨_, _, rfl, h, n, t⟩
end
/-! ### the drawn state -/
structure StAt (s c : Addr) (H : Hp) (cs : List Int) (j r : Int) : Prop where
  hs : H s = some (.lst [.ref c, .int j, .int r])
  hc : H c = some (.lst (cs.map .int))
  ne : cs ≠ []
  nn : ∀ x ∈ cs, 0 ≤ x
  len : cs.length ≤ 1000
  hj : 0 ≤ j
  hr : 0 ≤ r
  hr' : r < 2147483647
def St (s c : Addr) (H : Hp) : Prop := s ≠ c ∧ ∃ cs j r, StAt s c H cs j r
theorem St.out {s c p : Addr} {H : Hp} (h : St s c H) (n : H p = none) : p ∉ [s, c] := by
  obtain ⟨_, cs, j, r, h⟩ := h
  intro z
  rcases List.mem_cons.mp z with e | z
  · rw [e, h.hs] at n; cases n
  · rw [List.mem_singleton.mp z, h.hc] at n; cases n
theorem St.same {s c : Addr} {H H' : Hp} (h : St s c H) (k : Same H H') : St s c H' := by
  obtain ⟨n, cs, j, r, h⟩ := h
  exact ⟨n, cs, j, r, k _ _ h.hs, k _ _ h.hc, h.ne, h.nn, h.len, h.hj, h.hr, h.hr'⟩
theorem St.new {s c p : Addr} {H : Hp} {x : HO} (h : St s c H) (n : H p = none) : St s c (upd H p x) := h.same (Same.upd_new n)
theorem St.set {s c p : Addr} {H : Hp} {x : HO} (h : St s c H) (n : p ∉ [s, c]) : St s c (upd H p x) := by
  obtain ⟨n0, cs, j, r, h⟩ := h
  exact ⟨n0, cs, j, r, hl_set (fun e => n (by simp [e])) h.hs, hl_set (fun e => n (by simp [e])) h.hc, h.ne, h.nn, h.len, h.hj, h.hr, h.hr'⟩
/-! ### loops and comprehensions -/
section
variable {K : PySem.W.Frag} {D : Ends} {σ : L2.St} {H : Hp} {Q : VK}
def Lp (J : It) (g : TG) (tb : TS) (D : Ends) (σ : L2.St) (H1 : Hp) : Prop := ∃ W : Nat → Nat → L2.St → Hp → Prop, (∃ m, W 0 m σ H1) ∧ ∀ i m σ H, W i m σ H →
  (J.stop i H ∧ D.nx σ H) ∨ (J.go i H ∧ ∃ N : L2.St → Hp → Prop, (∀ σ' H', N σ' H' → ∃ m', m' < m ∧ W (i + 1) m' σ' H') ∧ ∀ x H', J.yld i H x H' → g x σ H' fun σ2 H2 => tb { D with nx := N, ct := N, bk := D.nx } σ2 H2)
theorem r_for {wi : TI} {g : TG} {tb : TS} (h : wi σ H fun J H1 => Lp J g tb D σ H1) : tFor wi g tb D σ H := h
def Rg1 (R : It → Hp → Prop) (vs : List V) (H : Hp) : Prop := ∃ j : Int, vs = [.int j] ∧ -(2 ^ 62) ≤ j ∧ j < 2 ^ 62 ∧ R (Itr 0 j.toNat) H
theorem r_irng1 {ta : TA} {R : It → Hp → Prop} (h : ta σ H (Rg1 R)) : iRng1 ta σ H R := h
theorem r_rg1 {R : It → Hp → Prop} {j : Int} (c : -(2 ^ 62) ≤ j ∧ j < 2 ^ 62) (h : R (Itr 0 j.toNat) H) : Rg1 R [.int j] H := ⟨j, rfl, c.1, c.2, h⟩
def Rg2 (R : It → Hp → Prop) (vs : List V) (H : Hp) : Prop := ∃ i j : Int, vs = [.int i, .int j] ∧ (-(2 ^ 62) ≤ i ∧ i < 2 ^ 62 ∧ -(2 ^ 62) ≤ j ∧ j < 2 ^ 62) ∧ R (Itr i (j - i).toNat) H
theorem r_irng2 {ta : TA} {R : It → Hp → Prop} (h : ta σ H (Rg2 R)) : iRng2 ta σ H R := h
theorem r_rg2 {R : It → Hp → Prop} {i j : Int} (c : -(2 ^ 62) ≤ i ∧ i < 2 ^ 62 ∧ -(2 ^ 62) ≤ j ∧ j < 2 ^ 62) (h : R (Itr i (j - i).toNat) H) : Rg2 R [.int i, .int j] H := ⟨i, j, rfl, c, h⟩
def IlR (K : PySem.W.Frag) (R : It → Hp → Prop) (x : V) (H : Hp) : Prop := ∃ a, x = .ref a ∧ (∃ xs, SqL K H a xs) ∧ R (Itl K a) H
theorem r_ilist {tl : TE} {R : It → Hp → Prop} (h : tl σ H (IlR K R)) : iList K tl σ H R := h
theorem r_il {R : It → Hp → Prop} {a : Addr} {xs : List V} (e : SqL K H a xs) (h : R (Itl K a) H) : IlR K R (.ref a) H := ⟨a, rfl, ⟨xs, e⟩, h⟩
def ItR (K : PySem.W.Frag) (R : It → Hp → Prop) (x : V) (H : Hp) : Prop := ∃ a, x = .ref a ∧ (∃ xs, SqT K H a xs) ∧ R (Itt K a) H
theorem r_itup {tl : TE} {R : It → Hp → Prop} (h : tl σ H (ItR K R)) : iTup K tl σ H R := h
theorem r_it {R : It → Hp → Prop} {a : Addr} {xs : List V} (e : SqT K H a xs) (h : R (Itt K a) H) : ItR K R (.ref a) H := ⟨a, rfl, ⟨xs, e⟩, h⟩
def IzR (K : PySem.W.Frag) (R : It → Hp → Prop) (vs : List V) (H1 : Hp) : Prop := ∃ a b xs ys, vs = [.ref a, .ref b] ∧ ((SqL K H1 a xs ∧ SqL K H1 b ys ∧ R (Itz K a b) H1) ∨ (SqT K H1 a xs ∧ SqT K H1 b ys ∧ R (ItzT K a b) H1))
theorem r_izip {ta : TA} {R : It → Hp → Prop} (h : ta σ H (IzR K R)) : iZipA K ta σ H R := h
theorem r_izt {R : It → Hp → Prop} {a b : Addr} {xs ys : List V} (e1 : SqT K H a xs) (e2 : SqT K H b ys) (h : R (ItzT K a b) H) : IzR K R [.ref a, .ref b] H := ⟨a, b, xs, ys, rfl, .inr ⟨e1, e2, h⟩⟩
theorem lp_by {J : It} {n : Nat} {G : Hp → Prop} {Y : Nat → Hp → V → Hp → Prop} (w : Walk J n G Y) {g : TG} {tb : TS} (Pv : Nat → L2.St → Hp → Prop) (h0 : Pv 0 σ H) (hG : ∀ i σ H, i ≤ n → Pv i σ H → G H)
    (hs : ∀ i x σ H H', i < n → Pv i σ H → Y i H x H' → g x σ H' fun σ2 H2 => tb { D with nx := Pv (i + 1), ct := Pv (i + 1), bk := D.nx } σ2 H2) (hd : ∀ σ H, Pv n σ H → D.nx σ H) : Lp J g tb D σ H := for_it w Pv h0 hG hs hd
/-- ways that meet: what holds of slots and heap where they do -/
theorem r_join {c : TT} {t u : TS} (G : L2.St → Hp → Prop) (h2 : ∀ σ' H', G σ' H' → D.nx σ' H') (h1 : ∀ N : L2.St → Hp → Prop, (∀ σ' H', G σ' H' → N σ' H') → tIfS c t u { D with nx := N } σ H) : tIfS c t u D σ H := h1 D.nx h2
theorem r_joinE {te : TE} (G : V → Hp → Prop) (h2 : ∀ v H', G v H' → Q v H') (h1 : ∀ Q' : VK, (∀ v H', G v H' → Q' v H') → te σ H Q') : te σ H Q := h1 Q h2
theorem r_joinT {te : TT} {R : Bool → Hp → Prop} (G : Bool → Hp → Prop) (h2 : ∀ v H', G v H' → R v H') (h1 : ∀ R' : Bool → Hp → Prop, (∀ v H', G v H' → R' v H') → te σ H R') : te σ H R := h1 R h2
theorem walk_zipT {a b : Addr} {xs ys : List V} {n : Nat} (hn : n = min xs.length ys.length) : Walk (ItzT K a b) n (fun H => SqT K H a xs ∧ SqT K H b ys) (YPair (fun i => xs[i]?) (fun i => ys[i]?)) where
  goes := fun i H hi h => ⟨xs, ys, xs[i]'(by omega), ys[i]'(by omega), h.1, h.2, List.getElem?_eq_getElem (by omega), List.getElem?_eq_getElem (by omega)⟩
  stops := fun H h => ⟨xs, ys, h.1, h.2, by omega⟩
  yields := fun i H x H' _ h y => by
    obtain ⟨T, x1, y1, e1, e2, e3, e4, e5⟩ := y
    exact ⟨T, x1, y1, e1, e2, e3, e4 xs h.1, e5 ys h.2⟩
/-- a comprehension's turns -/
def Lc (J : It) (g : TG) (tt : TT) (te : TE) (vs : List Nat) (σ : L2.St) (D : Addr) (Q : VK) (H1 : Hp) : Prop := ∃ W : Nat → Nat → Hp → Prop, (∃ m, W 0 m (upd H1 D (.lst []))) ∧ ∀ i m H, W i m H →
  (J.stop i H ∧ Q (.ref D) H) ∨ (J.go i H ∧ ∃ Nx : Hp → Prop, (∀ H', Nx H' → ∃ m', m' < m ∧ W (i + 1) m' H') ∧ ∀ x H', J.yld i H x H' → g x (wipe σ vs) H' fun σ2 H2 => wipe σ2 vs = wipe σ vs ∧ tt σ2 H2 fun b H3 =>
    if b = true then te σ2 H3 fun y H4 => ∃ acc, H4 D = some (.lst acc) ∧ acc.length < sizeLine ∧ Nx (upd H4 D (.lst (acc ++ [y]))) else Nx H3)
theorem r_lc {wi : TI} {g : TG} {tt : TT} {te : TE} {vs : List Nat} (h : wi σ H fun J H1 => ∀ D, H1 D = none → Lc J g tt te vs σ D Q H1) : tLc wi g tt te vs σ H Q := h
/-- what an item's part of a turn is to reach: kept with a value, or not kept -/
def LcT (g : TG) (tt : TT) (te : TE) (vs : List Nat) (σ : L2.St) (x : V) (H : Hp) (Y : V → Hp → Prop) (No : Hp → Prop) : Prop :=
  g x (wipe σ vs) H fun σ2 H2 => wipe σ2 vs = wipe σ vs ∧ tt σ2 H2 fun b H3 => if b = true then te σ2 H3 Y else No H3
/-- the list is made of the values kept: R i says what the i-th turn's part is -/
theorem lc_by {J : It} {n : Nat} {G : Hp → Prop} {Yd : Nat → Hp → V → Hp → Prop} (w : Walk J n G Yd) {g : TG} {tt : TT} {te : TE} {vs : List Nat} {D : Addr} (Pv : Nat → Hp → Prop) (h0 : Pv 0 (upd H D (.lst []))) (hG : ∀ i H, i ≤ n → Pv i H → G H)
    (hs : ∀ i x H H', i < n → Pv i H → Yd i H x H' → LcT g tt te vs σ x H' (fun y H4 => ∃ acc, H4 D = some (.lst acc) ∧ acc.length < sizeLine ∧ Pv (i + 1) (upd H4 D (.lst (acc ++ [y])))) (fun H3 => Pv (i + 1) H3)) (hd : ∀ H, Pv n H → Q (.ref D) H) : Lc J g tt te vs σ D Q H := by
  refine ⟨fun i m H => m = n - i ∧ i ≤ n ∧ Pv i H, ⟨n, by simp, Nat.zero_le _, h0⟩, ?_⟩
  rintro i m H ⟨rfl, hi, p⟩
  by_cases hlt : i < n
  · exact .inr ⟨w.goes i H hlt (hG i H hi p), Pv (i + 1), fun H' p' => ⟨n - (i + 1), by omega, rfl, hlt, p'⟩, fun x H' y => hs i x H H' hlt p (w.yields i H x H' hlt (hG i H hi p) y)⟩
  · have e : i = n := by omega
    subst e
    exact .inl ⟨w.stops H (hG _ H hi p), hd H p⟩
/-- every item is kept; its value is told by R, which new objects leave true; the source is left as it is -/
theorem lc_map {J : It} {n : Nat} {G : Hp → Prop} {Yd : Nat → Hp → V → Hp → Prop} (w : Walk J n G Yd) (hn : n ≤ 1000000) {g : TG} {tt : TT} {te : TE} {vs : List Nat} {D : Addr} (nD : H D = none) (R : Nat → V → Hp → Prop) (hR : ∀ i v H H', R i v H → Same H H' → R i v H')
    (hRD : ∀ i v H' acc acc', R i v H' → H' D = some (.lst acc) → R i v (upd H' D (.lst acc'))) (hG : ∀ H', Same H H' → G H') (hY : ∀ i H1 x H2, Yd i H1 x H2 → Same H1 H2)
    (hs : ∀ i x H1 H2 (Y : V → Hp → Prop) (No : Hp → Prop), i < n → Same H H1 → Yd i H1 x H2 → (∀ y H4, Same H2 H4 → R i y H4 → Y y H4) → LcT g tt te vs σ x H2 Y No)
    (hd : ∀ ys H', ys.length = n → Same H H' → H' D = some (.lst ys) → (∀ i y, ys[i]? = some y → R i y H') → Q (.ref D) H') : Lc J g tt te vs σ D Q H := by
  refine lc_by w (fun i H' => Same H H' ∧ ∃ ys : List V, ys.length = i ∧ H' D = some (.lst ys) ∧ ∀ j y, ys[j]? = some y → R j y H') ⟨Same.upd_new nD, [], rfl, upd_same, fun j y e => by simp at e⟩ (fun i H' _ p => hG H' p.1) (fun i x H1 H2 hi p y => ?_) (fun H' p => ?_)
  · obtain ⟨sm, ys, el, eD, hr⟩ := p
    have s2 := hY _ _ _ _ y
    refine hs i x H1 H2 _ _ hi sm y (fun v H4 q1 q2 => ?_)
    have s4 : Same H1 H4 := s2.trans q1
    have e4 : H4 D = some (.lst ys) := s4 _ _ eD
    refine ⟨ys, e4, by rw [el]; exact Nat.lt_of_lt_of_le (Nat.lt_of_lt_of_le hi hn) (by decide), fun b o e => ?_, ys ++ [v], by simp [el], upd_same, fun j y' e => ?_⟩
    · exact hl_set (ne_of_none e nD) (s4 _ _ (sm _ _ e))
    · by_cases hj : j < ys.length
      · rw [List.getElem?_append_left hj] at e
        exact hRD _ _ _ _ _ (hR _ _ _ _ (hr j y' e) s4) e4
      · rw [List.getElem?_append_right (by omega)] at e
        have hj2 : j - ys.length = 0 := by
          cases h : j - ys.length with
          | zero => rfl
          | succ m => rw [h] at e; simp at e
        rw [hj2] at e
        simp at e
        subst e
        have : j = i := by omega
        subst this
        exact hRD _ _ _ _ _ q2 e4
  · obtain ⟨sm, ys, el, eD, hr⟩ := p
    exact hd ys H' el sm eD hr
/-- items are kept or not: t tells which -/
theorem lc_filt {J : It} {n : Nat} {G : Hp → Prop} {Yd : Nat → Hp → V → Hp → Prop} (w : Walk J n G Yd) (hn : n ≤ 1000000) {g : TG} {tt : TT} {te : TE} {vs : List Nat} {D : Addr} (nD : H D = none) (t : Nat → Bool) (hG : ∀ H', Same H H' → G H') (hY : ∀ i H1 x H2, Yd i H1 x H2 → Same H1 H2)
    (hs : ∀ i x H1 H2 (Y : V → Hp → Prop) (No : Hp → Prop), i < n → Same H H1 → Yd i H1 x H2 → (t i = true → ∀ y H4, Same H2 H4 → Y y H4) → (t i = false → ∀ H4, Same H2 H4 → No H4) → LcT g tt te vs σ x H2 Y No)
    (hd : ∀ ys H', ys.isEmpty = (List.range n).all (fun i => !t i) → ys.length ≤ n → Same H H' → H' D = some (.lst ys) → Q (.ref D) H') : Lc J g tt te vs σ D Q H := by
  refine lc_by w (fun i H' => Same H H' ∧ ∃ ys : List V, ys.isEmpty = (List.range i).all (fun i => !t i) ∧ ys.length ≤ i ∧ H' D = some (.lst ys)) ⟨Same.upd_new nD, [], rfl, Nat.le_refl _, upd_same⟩ (fun i H' _ p => hG H' p.1) (fun i x H1 H2 hi p y => ?_) (fun H' p => ?_)
  · obtain ⟨sm, ys, ee, el, eD⟩ := p
    have s2 := hY _ _ _ _ y
    refine hs i x H1 H2 _ _ hi sm y (fun ht v H4 q => ?_) (fun ht H4 q => ?_)
    · have s4 : Same H1 H4 := s2.trans q
      refine ⟨ys, s4 _ _ eD, Nat.lt_of_le_of_lt el (Nat.lt_of_lt_of_le hi (Nat.le_trans hn (by decide))), fun b o e => hl_set (ne_of_none e nD) (s4 _ _ (sm _ _ e)), ys ++ [v], ?_, by simp; omega, upd_same⟩
      rw [List.range_succ, List.all_append, List.all_cons, ht]
      cases ys <;> simp
    · have s4 : Same H1 H4 := s2.trans q
      refine ⟨sm.trans s4, ys, ?_, by omega, s4 _ _ eD⟩
      rw [List.range_succ, List.all_append, List.all_cons, ht, ee]
      simp
  · obtain ⟨sm, ys, ee, el, eD⟩ := p
    exact hd ys H' ee el sm eD
theorem range_all {α : Type} (f : α → Bool) (d : α) : ∀ os : List α, (List.range os.length).all (fun i => f (os.getD i d)) = os.all f
  | [] => rfl
  | o :: os => by
    rw [List.length_cons, List.range_succ_eq_map, List.all_cons, List.all_map, List.all_cons, ← range_all f d os]
    rfl
end
/-! ### the rules with the written part told -/
section
variable {X : Cx} {K : PySem.W.Frag} {e l tg : Expr} {tl te : TE} {t ta : TA}
theorem ix_listK (q : X.K = K := by rfl) : IxR X (rIxL K) := q ▸ ix_list
theorem ix_tupK (q : X.K = K := by rfl) : IxR X (rIxT K) := q ▸ ix_tup
theorem pi_listK (h : PE X l tl) (q : X.K = K := by rfl) : PI X tg l (iList K tl) := q ▸ pi_list h
theorem pi_tupK (h : PE X l tl) (q : X.K = K := by rfl) : PI X tg l (iTup K tl) := q ▸ pi_tup h
theorem cr_lenK (q : X.K = K := by rfl) : CallR X (.builtin "len") (rLen K) := q ▸ cr_len
theorem cr_listOfK (q : X.K = K := by rfl) : CallR X (.type "list") (rListOf K) := q ▸ cr_listOf
theorem cr_tupOfK (q : X.K = K := by rfl) : CallR X (.type "tuple") (rTupOf K) := q ▸ cr_tupOf
theorem cr_allK (hc : X.calm = true) (q : X.K = K := by rfl) : CallR X (.builtin "all") (rAll K) := q ▸ cr_all hc
theorem cr_sumK (hc : X.calm = true) (q : X.K = K := by rfl) : CallR X (.builtin "sum") (rSum K) := q ▸ cr_sum hc
theorem cr_isiK (q : X.K = K := by rfl) : CallR X (.builtin "isinstance") (rIsi K) := q ▸ call_isi
theorem sl_listK (q : X.K = K := by rfl) : SlR X (rSlL K) := q ▸ sl_list
theorem sl_tupAK (q : X.K = K := by rfl) : SlR X (rSlA K) := q ▸ sl_tupA
theorem op_catAK (q : X.K = K := by rfl) : OpR X (binaryOp .Add) (rCatA K) := q ▸ op_catA
theorem castBM {e : Expr} {T : String} {r : V → List V → Hp → VK → Prop} {to : TE} (h : PE X e (tBM X.K T r to t)) (q : X.K = K := by rfl) : PE X e (tBM K T r to t) := q ▸ h
theorem castBM0 {e : Expr} {T : String} {r : V → List V → Hp → VK → Prop} {to : TE} (h : PE X e (tBM0 X.K T r to)) (q : X.K = K := by rfl) : PE X e (tBM0 K T r to) := q ▸ h
theorem castPI {iter : Expr} {wi : PySem.W.Frag → TI} (h : PI X tg iter (wi X.K)) (q : X.K = K := by rfl) : PI X tg iter (wi K) := q ▸ h
theorem castPG {n : Nat} {tg : Expr} {g : TGs} (h : PG X tg (gTup X.K n g)) (q : X.K = K := by rfl) : PG X tg (gTup K n g) := q ▸ h
end
/-! ### calls by keywords alone; keywords in any order -/
theorem pe_callK0 {X : Cx} {CX : CXT} {k : Nat} {f : Addr} {fd : FuncData} {ps ks : List Str} {sp : Sp} {E : XK} {x : Str} {p pos : Pos} {kws : List Keyword} {tk : TA} {g : List Value → List Value → List Value} {gV : List V → List V → List V}
    (F : FnOk X.prog X.w X.K X.mg X.base CX k f fd ps sp) (hr : Room k X.A) (hg : Gl X x) (hm : X.mg x = some (.ref f)) (hk : PySem.W.keepIn X.K (.ref f) = true) (hb : KBinds X.K fd ps ks g gV) (hx : Passes CX X E)
    (hkw : PK X kws tk) (hall : (backToKw pos (keywordEach kws X.env)).all (·.1.isSome) = true := by rfl) (hks : (backToKw pos (keywordEach kws X.env)).filterMap (·.1) = ks := by rfl)
    (hdb : (x == ("__debug__" : Str)) = false := by decide) (hpl : ((backTo pos (starEach [] X.env)).any (·.1) || (backToKw pos (keywordEach kws X.env)).any (·.1.isNone)) = false := by rfl) :
    PE X (.Call (.Name x p) [] kws pos) (tCallK sp gV E tNil tk) := by
  refine ⟨fun pins s σ H Q I h => wpAny_Call_Name_kw (ld_glob I hg hm ?_ hdb)⟩
  refine PySem.W.callWith_KW0 (h₀ := X.base) I.ok.mod.kin hk hall (thn (hkw.run pos pins s σ H _ I h) fun ws s2 ⟨zs, H2, I2, rz, q2⟩ => ⟨I2.kIn, ?_⟩) hpl
  rw [hks]
  exact run_fnk (us := []) F hr hb hx I2 .nil rz q2
def permV (na nb : Nat) (is : List Nat) (vs zs : List V) : List V := if vs.length = na ∧ zs.length = nb then is.map fun i => (vs ++ zs).getD i .non else []
def permU (na nb : Nat) (is : List Nat) (vs zs : List Value) : List Value := if vs.length = na ∧ zs.length = nb then is.map fun i => (vs ++ zs).getD i .none else []
theorem vals_getD : ∀ {xs : List V} {us : List Value} (i : Nat), Vals xs us → RelV (xs.getD i .non) (us.getD i .none)
  | _, _, _, .nil => rfl
  | _, _, 0, .cons r _ => r
  | _, _, i + 1, .cons _ t => by
    have := vals_getD i t
    simpa using this
theorem vals_map {xs : List V} {us : List Value} (r : Vals xs us) : ∀ is : List Nat, Vals (is.map fun i => xs.getD i .non) (is.map fun i => us.getD i .none)
  | [] => .nil
  | i :: is => .cons (vals_getD i r) (vals_map r is)
theorem kb_perm {K : PySem.W.Frag} {fd : FuncData} {ps ks : List Str} {us0 ws0 : Nat} {is : List Nat} (h0 : ps ≠ [])
    (h : ∀ (us ws : List Value), us.length = us0 → ws.length = ws0 → ∀ s : Shared, BindsTo s fd ⟨us, ks.zip ws⟩ (ps.zip (is.map fun i => (us ++ ws).getD i .none))) : KBinds K fd ps ks (permU us0 ws0 is) (permV us0 ws0 is) where
  to := fun s us ws _ hl => by
    unfold permU at hl ⊢
    by_cases c : us.length = us0 ∧ ws.length = ws0
    · rw [if_pos c]
      exact h us ws c.1 c.2 s
    · rw [if_neg c] at hl
      cases ps with
      | nil => exact absurd rfl h0
      | cons _ _ => simp at hl
  rel := fun {vs us zs ws} r1 r2 => by
    unfold permU permV
    rw [r1.length, r2.length]
    by_cases c : us.length = us0 ∧ ws.length = ws0
    · rw [if_pos c, if_pos c]
      exact vals_map (r1.append r2) is
    · rw [if_neg c, if_neg c]
      exact .nil
section
variable {K : PySem.W.Frag} {D : Ends} {σ : L2.St} {H : Hp} {Q : VK}
theorem r_callk {sp : Sp} {gV : List V → List V → List V} {E : XK} {t tk : TA} (h : t σ H fun vs H1 => tk σ H1 fun zs H2 => sp (gV vs zs) H2 Q E) : tCallK sp gV E t tk σ H Q := h
theorem r_perm {sp : Sp} {E : XK} {na nb : Nat} {is : List Nat} {vs zs : List V} (h1 : vs.length = na) (h2 : zs.length = nb) (h : sp (is.map fun i => (vs ++ zs).getD i .non) H Q E) : sp (permV na nb is vs zs) H Q E := by
  unfold permV; rw [if_pos ⟨h1, h2⟩]; exact h
end
theorem hu_of64 {A : Around} {k : Nat} (hr : Room k A) : A.units + 64 < cLine := hr.units
/-! ### against the empty list, the empty tuple -/
def rNil (K : PySem.W.Frag) (g : Bool → Bool) : R2 := fun x y H Q => ∃ a b xs, x = .ref a ∧ y = .ref b ∧ SqL K H a xs ∧ SqL K H b [] ∧ Q (.bl (g xs.isEmpty)) H
def rNilT (K : PySem.W.Frag) (g : Bool → Bool) : R2 := fun x y H Q => ∃ a b xs, x = .ref a ∧ y = .ref b ∧ SqT K H a xs ∧ SqT K H b [] ∧ Q (.bl (g xs.isEmpty)) H
theorem op_eqNil {X : Cx} (hu : X.A.units + 64 < cLine) : OpR X (compareOp .Eq) (rNil X.K id) := by
  intro pins s σ H x y v u Q I rx ry h
  obtain ⟨a, b, xs, rfl, rfl, h1, h2, q⟩ := h
  cases rx; cases ry
  obtain ⟨its, rv, p1, _⟩ := I.list h1
  obtain ⟨its2, rv2, p2, _⟩ := I.list h2
  cases rv2
  have e1 : xs.length = its.length := rv.length
  cases xs with
  | nil =>
    cases rv
    exact PySem.SeqAt.eq_listAt (e := fun _ => true) p1.isList p2.isList rfl (by omega) (fun j h => absurd h (Nat.not_lt_zero j)) ⟨.bl _, H, I, rfl, q⟩
  | cons z zs =>
    cases its with
    | nil => simp at e1
    | cons _ _ => exact PySem.SeqAt.eq_list_lengthsAt p1.isList p2.isList rfl (by omega) ⟨.bl false, H, I, rfl, q⟩
theorem op_neNil {X : Cx} (hu : X.A.units + 64 < cLine) : OpR X (compareOp .NotEq) (rNil X.K not) := by
  intro pins s σ H x y v u Q I rx ry h
  obtain ⟨a, b, xs, rfl, rfl, h1, h2, q⟩ := h
  cases rx; cases ry
  obtain ⟨its, rv, p1, _⟩ := I.list h1
  obtain ⟨its2, rv2, p2, _⟩ := I.list h2
  cases rv2
  have e1 : xs.length = its.length := rv.length
  cases xs with
  | nil =>
    cases rv
    exact PySem.SeqAt.RcNeAt.lists (e := fun _ => true) p1.isList p2.isList rfl (by omega) (fun j h => absurd h (Nat.not_lt_zero j)) _ _ _ _ ⟨.bl _, H, I, rfl, q⟩
  | cons z zs =>
    cases its with
    | nil => simp at e1
    | cons _ _ => exact PySem.SeqAt.RcNeAt.lists_lengths p1.isList p2.isList rfl (by omega) _ _ _ _ ⟨.bl true, H, I, rfl, q⟩
theorem op_eqNilT {X : Cx} (hu : X.A.units + 64 < cLine) : OpR X (compareOp .Eq) (rNilT X.K id) := by
  intro pins s σ H x y v u Q I rx ry h
  obtain ⟨a, b, xs, rfl, rfl, h1, h2, q⟩ := h
  cases rx; cases ry
  obtain ⟨its, rv, p1, _⟩ := I.tuple h1
  obtain ⟨its2, rv2, p2, _⟩ := I.tuple h2
  cases rv2
  have e1 : xs.length = its.length := rv.length
  refine PySem.SeqAt.eq_tupleAt (e := fun _ => true) (show s.heap.IsTuple a its.toArray from p1) (show s.heap.IsTuple b #[] from p2) (by omega) (fun j _ h => absurd h (Nat.not_lt_zero j)) ⟨.bl xs.isEmpty, H, I, ?_, q⟩
  cases xs with
  | nil =>
    cases rv
    rfl
  | cons z zs =>
    cases its with
    | nil => simp at e1
    | cons _ _ => rfl
theorem op_eqNilK {X : Cx} {K : PySem.W.Frag} (hu : X.A.units + 64 < cLine) (q : X.K = K := by rfl) : OpR X (compareOp .Eq) (rNil K id) := q ▸ op_eqNil hu
theorem op_neNilK {X : Cx} {K : PySem.W.Frag} (hu : X.A.units + 64 < cLine) (q : X.K = K := by rfl) : OpR X (compareOp .NotEq) (rNil K not) := q ▸ op_neNil hu
theorem op_eqNilTK {X : Cx} {K : PySem.W.Frag} (hu : X.A.units + 64 < cLine) (q : X.K = K := by rfl) : OpR X (compareOp .Eq) (rNilT K id) := q ▸ op_eqNilT hu
section
variable {K : PySem.W.Frag} {H : Hp} {Q : VK}
theorem r_nilL {g : Bool → Bool} {a b : Addr} {xs : List V} (h1 : SqL K H a xs) (h2 : SqL K H b []) (q : Q (.bl (g xs.isEmpty)) H) : rNil K g (.ref a) (.ref b) H Q := ⟨a, b, xs, rfl, rfl, h1, h2, q⟩
theorem r_nilT {g : Bool → Bool} {a b : Addr} {xs : List V} (h1 : SqT K H a xs) (h2 : SqT K H b []) (q : Q (.bl (g xs.isEmpty)) H) : rNilT K g (.ref a) (.ref b) H Q := ⟨a, b, xs, rfl, rfl, h1, h2, q⟩
end
theorem kt_NoneType_int {K : PySem.W.Frag} : PySem.W.kitOne K (.type "NoneType") (.type "int") = some false := kit_ty (by decide +kernel)
theorem kt_bool_int {K : PySem.W.Frag} : PySem.W.kitOne K (.type "bool") (.type "int") = some true := kit_ty (by decide +kernel)
theorem kt_int_int {K : PySem.W.Frag} : PySem.W.kitOne K (.type "int") (.type "int") = some true := kit_ty (by decide +kernel)
theorem kt_str_int {K : PySem.W.Frag} : PySem.W.kitOne K (.type "str") (.type "int") = some false := kit_ty (by decide +kernel)
theorem kt_tuple_int {K : PySem.W.Frag} : PySem.W.kitOne K (.type "tuple") (.type "int") = some false := kit_ty (by decide +kernel)
theorem kt_list_int {K : PySem.W.Frag} : PySem.W.kitOne K (.type "list") (.type "int") = some false := kit_ty (by decide +kernel)
theorem kt_dict_int {K : PySem.W.Frag} : PySem.W.kitOne K (.type "dict") (.type "int") = some false := kit_ty (by decide +kernel)
theorem kt_NoneType_bool {K : PySem.W.Frag} : PySem.W.kitOne K (.type "NoneType") (.type "bool") = some false := kit_ty (by decide +kernel)
theorem kt_bool_bool {K : PySem.W.Frag} : PySem.W.kitOne K (.type "bool") (.type "bool") = some true := kit_ty (by decide +kernel)
theorem kt_int_bool {K : PySem.W.Frag} : PySem.W.kitOne K (.type "int") (.type "bool") = some false := kit_ty (by decide +kernel)
theorem kt_str_bool {K : PySem.W.Frag} : PySem.W.kitOne K (.type "str") (.type "bool") = some false := kit_ty (by decide +kernel)
theorem kt_tuple_bool {K : PySem.W.Frag} : PySem.W.kitOne K (.type "tuple") (.type "bool") = some false := kit_ty (by decide +kernel)
theorem kt_list_bool {K : PySem.W.Frag} : PySem.W.kitOne K (.type "list") (.type "bool") = some false := kit_ty (by decide +kernel)
theorem kt_dict_bool {K : PySem.W.Frag} : PySem.W.kitOne K (.type "dict") (.type "bool") = some false := kit_ty (by decide +kernel)
theorem kt_NoneType_tuple {K : PySem.W.Frag} : PySem.W.kitOne K (.type "NoneType") (.type "tuple") = some false := kit_ty (by decide +kernel)
theorem kt_bool_tuple {K : PySem.W.Frag} : PySem.W.kitOne K (.type "bool") (.type "tuple") = some false := kit_ty (by decide +kernel)
theorem kt_int_tuple {K : PySem.W.Frag} : PySem.W.kitOne K (.type "int") (.type "tuple") = some false := kit_ty (by decide +kernel)
theorem kt_str_tuple {K : PySem.W.Frag} : PySem.W.kitOne K (.type "str") (.type "tuple") = some false := kit_ty (by decide +kernel)
theorem kt_tuple_tuple {K : PySem.W.Frag} : PySem.W.kitOne K (.type "tuple") (.type "tuple") = some true := kit_ty (by decide +kernel)
theorem kt_list_tuple {K : PySem.W.Frag} : PySem.W.kitOne K (.type "list") (.type "tuple") = some false := kit_ty (by decide +kernel)
theorem kt_dict_tuple {K : PySem.W.Frag} : PySem.W.kitOne K (.type "dict") (.type "tuple") = some false := kit_ty (by decide +kernel)
theorem kt_NoneType_str {K : PySem.W.Frag} : PySem.W.kitOne K (.type "NoneType") (.type "str") = some false := kit_ty (by decide +kernel)
theorem kt_bool_str {K : PySem.W.Frag} : PySem.W.kitOne K (.type "bool") (.type "str") = some false := kit_ty (by decide +kernel)
theorem kt_int_str {K : PySem.W.Frag} : PySem.W.kitOne K (.type "int") (.type "str") = some false := kit_ty (by decide +kernel)
theorem kt_str_str {K : PySem.W.Frag} : PySem.W.kitOne K (.type "str") (.type "str") = some true := kit_ty (by decide +kernel)
theorem kt_tuple_str {K : PySem.W.Frag} : PySem.W.kitOne K (.type "tuple") (.type "str") = some false := kit_ty (by decide +kernel)
theorem kt_list_str {K : PySem.W.Frag} : PySem.W.kitOne K (.type "list") (.type "str") = some false := kit_ty (by decide +kernel)
theorem kt_dict_str {K : PySem.W.Frag} : PySem.W.kitOne K (.type "dict") (.type "str") = some false := kit_ty (by decide +kernel)
theorem kt_NoneType_list {K : PySem.W.Frag} : PySem.W.kitOne K (.type "NoneType") (.type "list") = some false := kit_ty (by decide +kernel)
theorem kt_bool_list {K : PySem.W.Frag} : PySem.W.kitOne K (.type "bool") (.type "list") = some false := kit_ty (by decide +kernel)
theorem kt_int_list {K : PySem.W.Frag} : PySem.W.kitOne K (.type "int") (.type "list") = some false := kit_ty (by decide +kernel)
theorem kt_str_list {K : PySem.W.Frag} : PySem.W.kitOne K (.type "str") (.type "list") = some false := kit_ty (by decide +kernel)
theorem kt_tuple_list {K : PySem.W.Frag} : PySem.W.kitOne K (.type "tuple") (.type "list") = some false := kit_ty (by decide +kernel)
theorem kt_list_list {K : PySem.W.Frag} : PySem.W.kitOne K (.type "list") (.type "list") = some true := kit_ty (by decide +kernel)
theorem kt_dict_list {K : PySem.W.Frag} : PySem.W.kitOne K (.type "dict") (.type "list") = some false := kit_ty (by decide +kernel)
theorem kt_NoneType_dict {K : PySem.W.Frag} : PySem.W.kitOne K (.type "NoneType") (.type "dict") = some false := kit_ty (by decide +kernel)
theorem kt_bool_dict {K : PySem.W.Frag} : PySem.W.kitOne K (.type "bool") (.type "dict") = some false := kit_ty (by decide +kernel)
theorem kt_int_dict {K : PySem.W.Frag} : PySem.W.kitOne K (.type "int") (.type "dict") = some false := kit_ty (by decide +kernel)
theorem kt_str_dict {K : PySem.W.Frag} : PySem.W.kitOne K (.type "str") (.type "dict") = some false := kit_ty (by decide +kernel)
theorem kt_tuple_dict {K : PySem.W.Frag} : PySem.W.kitOne K (.type "tuple") (.type "dict") = some false := kit_ty (by decide +kernel)
theorem kt_list_dict {K : PySem.W.Frag} : PySem.W.kitOne K (.type "list") (.type "dict") = some false := kit_ty (by decide +kernel)
theorem kt_dict_dict {K : PySem.W.Frag} : PySem.W.kitOne K (.type "dict") (.type "dict") = some true := kit_ty (by decide +kernel)
local macro_rules | `(tactic| walk_at "ne") => `(tactic| first | assumption | (refine' Ne.symm ?h1; (case h1 => assumption)))
local macro_rules | `(tactic| walk_at "nin") => `(tactic| first | assumption | exact List.not_mem_nil)
local macro_rules | `(tactic| walk_at "hl") => `(tactic| first
  | assumption
  | exact upd_same
  | (refine' hl_new ?h1 ?h2; (case h2 => assumption); (case h1 => walk_at "hl"))
  | (refine' hl_set ?h2 ?h1; (case h2 => walk_at "ne"); (case h1 => walk_at "hl"))
  | (refine' hl_same ?h2 ?h1; (case h2 => assumption); (case h1 => walk_at "hl"))
  | (refine' hl_kp ?h2 ?h3 ?h1; (case h2 => assumption); (case h3 => walk_at "nin"); (case h1 => walk_at "hl")))
local macro_rules | `(tactic| walk_at "sq") => `(tactic| first | assumption | (refine' SqL.of ?h1; (case h1 => walk_at "hl")) | (refine' SqT.of ?h1; (case h1 => walk_at "hl")))
local macro_rules | `(tactic| walk_at "sc") => `(tactic| first | assumption | omega | (dsimp only; omega) | decide | exact .inl ⟨by omega, by omega⟩ | exact .inr ⟨by omega, by omega⟩ | exact ⟨by omega, by decide⟩)
local macro_rules | `(tactic| walk_at "sz") => `(tactic| first | assumption | ((try simp only [List.length_map, List.length_append, List.length_cons, List.length_nil]); have : (1000000 : Nat) ≤ sizeLine := (by decide); omega))
local macro_rules | `(tactic| walk_at "ty") => `(tactic| first | assumption | exact TyX.base (.int _) | exact TyX.base (.bl _) | exact TyX.base .non | exact TyX.base (.str _) | (refine' TyX.base (.tup ?h1); (case h1 => walk_at "hl")) | (refine' TyX.base (.lst ?h1); (case h1 => walk_at "hl")) | (refine' TyX.base (.dK ?h1); (case h1 => walk_at "hl")))
local macro_rules | `(tactic| walk_at "mem") => `(tactic| first | assumption | (simp; done) | (intro _ h; simp at h ⊢; first | exact h | exact .inr h | exact .inr (.inr h) | (rcases h with h | h <;> simp [h])))
local macro_rules | `(tactic| walk_at "stt") => `(tactic| first | assumption | (refine' St.new ?h1 ?h2; (case h2 => assumption); (case h1 => walk_at "stt")) | (refine' St.set ?h1 ?h2; (case h2 => assumption); (case h1 => walk_at "stt")) | (refine' St.same ?h1 ?h2; (case h2 => assumption); (case h1 => walk_at "stt")))
local macro_rules | `(tactic| walk_at "in") => `(tactic| first | assumption | exact List.mem_cons_self | exact List.mem_cons_of_mem _ List.mem_cons_self | exact List.mem_cons_of_mem _ (List.mem_cons_of_mem _ List.mem_cons_self))
local macro_rules | `(tactic| walk_at "kp") => `(tactic| first
  | exact Kp.refl
  | assumption
  | (refine' Kp.trans ?h1 (Kp.new ?h2); (case h2 => assumption); (case h1 => walk_at "kp"))
  | (refine' Kp.trans ?h1 (Kp.set ?h2); (case h2 => walk_at "in"); (case h1 => walk_at "kp"))
  | (refine' Kp.own ?h1 ?h2; (case h2 => assumption); (case h1 => walk_at "kp"))
  | (refine' Kp.trans ?h1 (Kp.sub ?h2 ?h3); (case h2 => assumption); (case h3 => walk_at "mem"); (case h1 => walk_at "kp"))
  | (refine' Kp.trans ?h1 (Kp.ofSame ?h2); (case h2 => assumption); (case h1 => walk_at "kp")))
local macro_rules | `(tactic| walk_at "sm") => `(tactic| first
  | exact Same.refl _
  | assumption
  | (refine' Same.trans ?h1 (Same.upd_new ?h2); (case h2 => assumption); (case h1 => walk_at "sm"))
  | (refine' Same.trans ?h1 ?h2; (case h2 => assumption); (case h1 => walk_at "sm")))
local macro_rules | `(tactic| walk_at "lf") => `(tactic| first
  | exact Lft.refl
  | (refine' Lft.trans ?h1 (Lft.new ?h2); (case h2 => assumption); (case h1 => walk_at "lf"))
  | (refine' Lft.trans ?h1 (Lft.set ?h2); (case h2 => walk_at "in"); (case h1 => walk_at "lf"))
  | (refine' Lft.trans ?h1 (Lft.kp ?h2 ?h3); (case h2 => assumption); (case h3 => walk_at "mem"); (case h1 => walk_at "lf"))
  | (refine' Lft.trans ?h1 (Lft.same ?h2); (case h2 => assumption); (case h1 => walk_at "lf"))
  | (refine' Lft.trans ?h1 (Lft.own ?h2); (case h2 => assumption); (case h1 => walk_at "lf")))
local macro_rules | `(tactic| walk_at "kt") => `(tactic| first | exact kt_NoneType_int | exact kt_bool_int | exact kt_int_int | exact kt_str_int | exact kt_tuple_int | exact kt_list_int | exact kt_dict_int | exact kt_NoneType_bool | exact kt_bool_bool | exact kt_int_bool | exact kt_str_bool | exact kt_tuple_bool | exact kt_list_bool | exact kt_dict_bool | exact kt_NoneType_tuple | exact kt_bool_tuple | exact kt_int_tuple | exact kt_str_tuple | exact kt_tuple_tuple | exact kt_list_tuple | exact kt_dict_tuple | exact kt_NoneType_str | exact kt_bool_str | exact kt_int_str | exact kt_str_str | exact kt_tuple_str | exact kt_list_str | exact kt_dict_str | exact kt_NoneType_list | exact kt_bool_list | exact kt_int_list | exact kt_str_list | exact kt_tuple_list | exact kt_list_list | exact kt_dict_list | exact kt_NoneType_dict | exact kt_bool_dict | exact kt_int_dict | exact kt_str_dict | exact kt_tuple_dict | exact kt_list_dict | exact kt_dict_dict)
local macro_rules | `(tactic| walk_at "st1") => `(tactic| first
  | with_reducible refine r_seq ?_
  | with_reducible refine r_for ?_
  | with_reducible refine r_irng1 ?_
  | ((with_reducible refine r_rg1 ?e1 ?_); (case e1 => omega))
  | with_reducible refine r_irng2 ?_
  | ((with_reducible refine r_rg2 ?e1 ?_); (case e1 => omega))
  | with_reducible refine r_ilist ?_
  | ((with_reducible refine' r_il ?e1 ?_); (case e1 => walk_at "sq"))
  | with_reducible refine r_itup ?_
  | ((with_reducible refine' r_it ?e1 ?_); (case e1 => walk_at "sq"))
  | with_reducible refine r_izip ?_
  | ((with_reducible refine' r_izt ?e1 ?e2 ?_); (case e1 => walk_at "sq"); (case e2 => walk_at "sq"))
  | with_reducible refine r_lc ?_
  | with_reducible refine r_tand ?_
  | with_reducible refine r_tor ?_
  | with_reducible refine r_tnot ?_
  | with_reducible refine r_andv ?_
  | with_reducible refine r_orv ?_
  | with_reducible refine r_notv ?_
  | with_reducible refine r_chain ?_
  | with_reducible refine' r_t ?_
  | with_reducible refine' r_f ?_
  | with_reducible refine r_bm ?_
  | with_reducible refine r_tb ?_
  | with_reducible refine r_yes ?_
  | ((with_reducible refine r_sz ?e1 ?_); (case e1 => rfl))
  | with_reducible refine r_sl ?_
  | ((with_reducible refine' r_sll ?e1 ?_); (case e1 => walk_at "sq"))
  | with_reducible refine r_nopart ?_
  | with_reducible refine r_part ?_
  | with_reducible refine r_parti ?_
  | with_reducible refine r_callk ?_
  | with_reducible refine r_perm (by rfl) (by rfl) ?_
  | ((with_reducible refine' r_nilL ?e1 ?e2 ?_); (case e1 => walk_at "sq"); (case e2 => walk_at "sq"))
  | ((with_reducible refine' r_nilT ?e1 ?e2 ?_); (case e1 => walk_at "sq"); (case e2 => walk_at "sq"))
  | ((with_reducible refine' r_app0 ?e1 ?e2 ?_); (case e1 => walk_at "hl"); (case e2 => walk_at "sz"))
  | ((with_reducible refine' r_ty ?e1 ?_); (case e1 => walk_at "hl"))
  | ((with_reducible refine' r_all ?e1 ?_); (case e1 => walk_at "sq"))
  | ((with_reducible refine' r_sum ?e1 ?_); (case e1 => walk_at "sq"))
  | ((with_reducible refine' r_isi ?e1 ?e2 ?e3 ?_); (case e1 => exact .ty _); (case e2 => walk_at "ty"); (case e3 => walk_at "kt"))
  | with_reducible refine r_asg ?_
  | with_reducible refine r_gname ?_
  | ((with_reducible refine' r_var ?e1 ?_); (case e1 => rfl))
  | with_reducible refine r_c ?_
  | with_reducible refine r_op ?_
  | with_reducible refine r_i0 ?_
  | ((with_reducible refine' r_i ?e1 ?_); (case e1 => walk_at "sc"))
  | ((with_reducible refine' r_ixl ?e1 ?e2 ?_); (case e1 => walk_at "sq"); (case e2 => first | assumption | rfl))
  | ((with_reducible refine' r_ixt ?e1 ?e2 ?_); (case e1 => walk_at "sq"); (case e2 => first | assumption | rfl))
  | with_reducible refine r_cb ?_
  | with_reducible refine r_cons ?_
  | with_reducible refine r_nil ?_
  | ((with_reducible refine' r_len ?e1 ?_); (case e1 => walk_at "sq"))
  | ((with_reducible refine' r_lent ?e1 ?_); (case e1 => walk_at "sq"))
  | with_reducible refine r_abs ?_
  | ((with_reducible refine' r_listl ?e1 ?_); (case e1 => walk_at "sq"))
  | ((with_reducible refine' r_listt ?e1 ?_); (case e1 => walk_at "sq"))
  | ((with_reducible refine' r_tupl ?e1 ?_); (case e1 => walk_at "sq"))
  | ((with_reducible refine' r_tupt ?e1 ?_); (case e1 => walk_at "sq"))
  | with_reducible refine r_ife ?_
  | with_reducible refine r_test ?_
  | with_reducible refine r_bl ?_
  | with_reducible refine r_ret ?_
  | with_reducible refine r_gsub ?_
  | ((with_reducible refine' r_setl ?e1 ?e2 ?_); (case e1 => walk_at "hl"); (case e2 => first | assumption | rfl))
  | with_reducible refine r_next ?_
  | with_reducible refine r_call ?_
  | with_reducible refine r_lst ?_
  | with_reducible refine r_tup ?_
  | with_reducible refine r_drop ?_
  | ((with_reducible refine' r_eq ?e1 ?_); (case e1 => rfl))
  | ((with_reducible refine' r_ne ?e1 ?_); (case e1 => rfl)))
local macro_rules | `(tactic| walk_at "st") => `(tactic| repeat (walk_at "st1"))
local macro_rules | `(tactic| walk_at "if") => `(tactic| ((first | refine r_if ?_ | (simp only []; refine r_if ?_)); walk_at "st"))
structure Tx (K : PySem.W.Frag) (mg : Str → Option Value) : Prop where
  c_FIGURES : ∃ t, mg "FIGURES" = some (.str "0123456789" t)
  c_LETTERS : ∃ t, mg "LETTERS" = some (.str "abcdefghijklmnopqrstuvwxyz" t)
  c_LONGEST_PLACE : ∃ t, mg "LONGEST_PLACE" = some (.int 40 t)
  m_abs : mg "abs" = none
  m_all : mg "all" = none
  m_bool : mg "bool" = none
  m_dict : mg "dict" = none
  m_int : mg "int" = none
  m_isinstance : mg "isinstance" = none
  m_len : mg "len" = none
  m_list : mg "list" = none
  m_range : mg "range" = none
  m_sorted : mg "sorted" = none
  m_str : mg "str" = none
  m_sum : mg "sum" = none
  m_tuple : mg "tuple" = none
  m_zip : mg "zip" = none
def topS (i : Nat) : Stmt := PySem.Challenge.pw_onetrace_k05_whole_forms_by_all_worths.main.body.getD i (.Pass ⟨0, 0, 0, 0⟩)
abbrev s_is_whole : Stmt := topS 4
theorem sc_is_whole : FnScope ["thing"] ["thing"] (defScope s_is_whole) := ⟨rfl, rfl, rfl, by decide +kernel, rfl, by decide +kernel, by decide +kernel⟩
abbrev s_is_number : Stmt := topS 5
theorem sc_is_number : FnScope ["thing", "p"] ["thing", "p"] (defScope s_is_number) := ⟨rfl, rfl, rfl, by decide +kernel, rfl, by decide +kernel, by decide +kernel⟩
abbrev s_is_place : Stmt := topS 6
theorem sc_is_place : FnScope ["thing"] ["thing"] (defScope s_is_place) := ⟨rfl, rfl, rfl, by decide +kernel, rfl, by decide +kernel, by decide +kernel⟩
abbrev s_has_only : Stmt := topS 7
theorem sc_has_only : FnScope ["text", "signs", "sign"] ["text", "signs"] (defScope s_has_only) := ⟨rfl, rfl, rfl, by decide +kernel, rfl, by decide +kernel, by decide +kernel⟩
abbrev s_inverse : Stmt := topS 8
theorem sc_inverse : FnScope ["n", "p", "rest", "lower", "many", "lower_many", "whole"] ["n", "p"] (defScope s_inverse) := ⟨rfl, rfl, rfl, by decide +kernel, rfl, by decide +kernel, by decide +kernel⟩
abbrev s_read_figures : Stmt := topS 9
theorem sc_read_figures : FnScope ["text", "most"] ["text", "most"] (defScope s_read_figures) := ⟨rfl, rfl, rfl, by decide +kernel, rfl, by decide +kernel, by decide +kernel⟩
abbrev s_is_tuple : Stmt := topS 10
theorem sc_is_tuple : FnScope ["thing", "least", "most"] ["thing", "least", "most"] (defScope s_is_tuple) := ⟨rfl, rfl, rfl, by decide +kernel, rfl, by decide +kernel, by decide +kernel⟩
abbrev s_do_rise : Stmt := topS 11
theorem sc_do_rise : FnScope ["things", "one", "other"] ["things"] (defScope s_do_rise) := ⟨rfl, rfl, rfl, by decide +kernel, rfl, by decide +kernel, by decide +kernel⟩
abbrev s_is_form : Stmt := topS 13
theorem sc_is_form : FnScope ["thing", "p", "n", "terms", "term", "place", "_"] ["thing", "p"] (defScope s_is_form) := ⟨rfl, rfl, rfl, by decide +kernel, rfl, by decide +kernel, by decide +kernel⟩
abbrev s_is_term : Stmt := topS 14
theorem sc_is_term : FnScope ["thing", "p"] ["thing", "p"] (defScope s_is_term) := ⟨rfl, rfl, rfl, by decide +kernel, rfl, by decide +kernel, by decide +kernel⟩
abbrev s_new_form : Stmt := topS 15
theorem sc_new_form : FnScope ["n", "pairs", "p", "worths", "place", "k"] ["n", "pairs", "p"] (defScope s_new_form) := ⟨rfl, rfl, rfl, by decide +kernel, rfl, by decide +kernel, by decide +kernel⟩
abbrev s_place_form : Stmt := topS 16
theorem sc_place_form : FnScope ["place"] ["place"] (defScope s_place_form) := ⟨rfl, rfl, rfl, by decide +kernel, rfl, by decide +kernel, by decide +kernel⟩
abbrev s_sum_of : Stmt := topS 17
theorem sc_sum_of : FnScope ["a", "b", "p"] ["a", "b", "p"] (defScope s_sum_of) := ⟨rfl, rfl, rfl, by decide +kernel, rfl, by decide +kernel, by decide +kernel⟩
abbrev s_times_of : Stmt := topS 18
theorem sc_times_of : FnScope ["a", "n", "p", "place", "k"] ["a", "n", "p"] (defScope s_times_of) := ⟨rfl, rfl, rfl, by decide +kernel, rfl, by decide +kernel, by decide +kernel⟩
abbrev s_put_in : Stmt := topS 19
theorem sc_put_in : FnScope ["form", "forms", "p", "n", "terms", "pairs", "place", "k", "more", "inner", "other", "many"] ["form", "forms", "p"] (defScope s_put_in) := ⟨rfl, rfl, rfl, by decide +kernel, rfl, by decide +kernel, by decide +kernel⟩
abbrev s_worth_of : Stmt := topS 20
theorem sc_worth_of : FnScope ["form", "worths", "p", "n", "terms", "place", "k"] ["form", "worths", "p"] (defScope s_worth_of) := ⟨rfl, rfl, rfl, by decide +kernel, rfl, by decide +kernel, by decide +kernel⟩
abbrev s_places_in : Stmt := topS 21
theorem sc_places_in : FnScope ["form", "place", "_"] ["form"] (defScope s_places_in) := ⟨rfl, rfl, rfl, by decide +kernel, rfl, by decide +kernel, by decide +kernel⟩
abbrev s_form_text : Stmt := topS 22
theorem sc_form_text : FnScope ["form", "n", "terms", "first", "place", "k"] ["form"] (defScope s_form_text) := ⟨rfl, rfl, rfl, by decide +kernel, rfl, by decide +kernel, by decide +kernel⟩
abbrev s_read_form : Stmt := topS 23
theorem sc_read_form : FnScope ["text", "p", "parts", "n", "form", "part"] ["text", "p"] (defScope s_read_form) := ⟨rfl, rfl, rfl, by decide +kernel, rfl, by decide +kernel, by decide +kernel⟩
abbrev s_term_of : Stmt := topS 24
theorem sc_term_of : FnScope ["part", "p", "place", "figures"] ["part", "p"] (defScope s_term_of) := ⟨rfl, rfl, rfl, by decide +kernel, rfl, by decide +kernel, by decide +kernel⟩
abbrev s_law_begun : Stmt := topS 26
theorem sc_law_begun : FnScope ["script", "cell"] ["script"] (defScope s_law_begun) := ⟨rfl, rfl, rfl, by decide +kernel, rfl, by decide +kernel, by decide +kernel⟩
abbrev s_law_draw : Stmt := topS 27
theorem sc_law_draw : FnScope ["state", "many", "cells", "at", "cell"] ["state", "many"] (defScope s_law_draw) := ⟨rfl, rfl, rfl, by decide +kernel, rfl, by decide +kernel, by decide +kernel⟩
abbrev s_law_place : Stmt := topS 28
theorem sc_law_place : FnScope ["state", "signs", "size", "word"] ["state"] (defScope s_law_place) := ⟨rfl, rfl, rfl, by decide +kernel, rfl, by decide +kernel, by decide +kernel⟩
abbrev s_law_places : Stmt := topS 29
theorem sc_law_places : FnScope ["state", "many", "some", "k", "place"] ["state", "many"] (defScope s_law_places) := ⟨rfl, rfl, rfl, by decide +kernel, rfl, by decide +kernel, by decide +kernel⟩
abbrev s_law_form : Stmt := topS 30
theorem sc_law_form : FnScope ["state", "places", "q", "terms", "place", "times"] ["state", "places", "q"] (defScope s_law_form) := ⟨rfl, rfl, rfl, by decide +kernel, rfl, by decide +kernel, by decide +kernel⟩
abbrev s_law_rows : Stmt := topS 31
theorem sc_law_rows : FnScope ["many", "q", "rows", "k", "longer", "num", "row"] ["many", "q"] (defScope s_law_rows) := ⟨rfl, rfl, rfl, by decide +kernel, rfl, by decide +kernel, by decide +kernel⟩
abbrev s_law_held : Stmt := topS 32
theorem sc_law_held : FnScope ["one", "other", "times", "lots", "held", "q", "first", "second", "past", "place"] ["one", "other", "times", "lots", "held", "q"] (defScope s_law_held) := ⟨rfl, rfl, rfl, by decide +kernel, rfl, by decide +kernel, by decide +kernel⟩
abbrev s_law : Stmt := topS 33
theorem sc_law : FnScope ["script", "state", "turn", "q", "places", "one", "other", "lots", "place", "times", "same", "row", "held", "back", "gone"] ["script"] (defScope s_law) := ⟨rfl, rfl, rfl, by decide +kernel, rfl, by decide +kernel, by decide +kernel⟩
/-! ### defs that run while nothing is being shown (repr): the list of guards is empty -/
structure FnG (P : Program) (w : World) (K : PySem.W.Frag) (mg : Str → Option Value) (base : Heap) (k : Nat) (f : Addr) (fd : FuncData) (ps : List Str) (sp : Sp) : Prop where
  len : ∀ vs H Q E, sp vs H Q E → vs.length = ps.length
  run : ∀ (A : Around) (outer : List Env) (s : Shared) (H : Hp) (args : Args) (us : List Value) (vs : List V) (Q : VK) (E : XK), A.guards = some [] → Room k A → Env0 P w K mg base A outer s H → BindsTo s fd args (ps.zip us) → Vals vs us → sp vs H Q E →
    codeAny (model P w) A (.call (.ref f) args) (CR CX0 outer P w H s Q E) s
section
variable {P : Program} {w : World} {K : PySem.W.Frag} {mg : Str → Option Value} {base : Heap}
theorem fnG_of {k : Nat} {x qual : Str} {st : Stmt} {f : Addr} {fd : FuncData} {N ps : List Str} {sp : Sp} (F : Fun K x qual st f fd) (S : FnScope N ps (defScope st)) (hlen : ∀ vs H Q E, sp vs H Q E → vs.length = ps.length)
    (body : ∀ (cdv : Value) (A : Around) (outer : List Env) (s : Shared) (H : Hp) (vs : List V) (Q : VK) (E : XK), A.guards = some [] → Room k (A.deeper (envOfC qual (defScope st) s.heap.objs.size f cdv)) → sp vs H Q E →
      ∃ t, PSs (cxOf CX0 P w K mg base N qual (defScope st) f cdv A outer s H E).nox (defBody st) t ∧ t { nx := fun _ H' => Q .non H', rt := Q } (L2.start N vs) H) : FnG P w K mg base (k + 1) f fd ps sp := by
  obtain ⟨oc, od, kV, doc, pm, an, cdv, ct, osl, rfl, lk, hcd⟩ := F.ex
  refine ⟨hlen, fun A outer s H args us vs Q E hga hr e0 hb r hsp => ?_⟩
  have inK : K.In s.heap := e0.mod.kin.keeps (fun b o q => (e0.bs b o q).1)
  have nl : s.heap.NoLimit := e0.mod.nolimit.keeps (fun b o q => (e0.bs b o q).1)
  have kinds : ∀ y ∈ ps.zip us, (defScope st).names.lookup y.1 = some .local ∨ ((defScope st).names.lookup y.1 = some .cell ∧ ((cellsFrom (s.heap.objs.size + 1) (defScope st).names []).lookup y.1).isSome = true) := by
    intro y hy
    have := S.par y.1 (List.of_mem_zip (a := y.1) (b := y.2) hy).1
    exact this.elim .inl (fun z => .inr ⟨z, PySem.W.cellsFrom_some _ _ _ (.inl z)⟩)
  apply codeAny_call_function hr.depth (inK _ _ lk) rfl S.co S.gen rfl (PySem.W.codeRec_of inK hcd)
  apply hb
  apply wpAny_newFunctionEnv_cells S.kind kinds
  intro env he s1 x
  subst he
  refine ⟨nl.keeps x.toInCall.keep, codeAny_func ?_⟩
  obtain ⟨t, ht, hq⟩ := body cdv A outer s H vs Q E hga (hr.deeper _) hsp
  have J0 := inv_start (CX := CX0) (E := E) S hr.hd e0 (hlen _ _ _ _ hsp) r x
  refine wpAny_mono (ht.nox.run [] s1 (L2.start N vs) H _ J0 hq) (fun fl s' hs => ?_) (fun e s' hs => hs)
  match fl, hs with
  | .ret u, ⟨v, σ', H', J, rv, q⟩ => exact ⟨v, H', J.os, J.bare, J.base, J.hok, rv, q⟩
  | .next, ⟨σ', H', J, q⟩ => exact ⟨V.non, H', J.os, J.bare, J.base, J.hok, rfl, q⟩
  | .brk, ⟨_, _, _, q⟩ => exact q.elim
  | .cont, ⟨_, _, _, q⟩ => exact q.elim
end
/-! ### the law's own call, where nothing is being shown -/
section
variable {P : Program} {w : World} {K : PySem.W.Frag} {mg mb : Str → Option Value} {k : Nat} {fa a : Addr} {fd : FuncData} {x : Str} {sp : Sp} {g0 : Shared} {vs : List Value} {ns : List Int}
/-- from a heap H that tracks nothing but, at most, the script -/
theorem lawG_from (inK : K.In g0.heap) (hns : g0.heap.Ns mainGlobals mg) (hb : g0.heap.Ns builtinsNs mb) (hbb : ∀ x : Str, x ≠ "__name__" → mb x = bootBuiltins x) (nl : g0.heap.NoLimit) (hg : g0.gens = #[])
    (ha : g0.heap.get? a = some { cls := .type "list", data := .seq vs.toArray }) (hr : Room k callerA)
    (F : ∀ base : Heap, K.In base → base.Ns mainGlobals mg → FnG P w K mg base k fa fd [x] sp) (hbind : ∀ (s : Shared) (u : Value), BindsTo s fd ⟨[u], []⟩ [(x, u)])
    (hsp : ∀ H : Hp, Only H → SqL K H a (ns.map V.int) → sp [.ref a] H (fun v _ => v = .bl true) fun _ _ _ => False)
    (H : Hp) (onl : Only H) (script : SqL K H a (ns.map V.int)) (ok : HOk P w H g0.heap) (at_ : ∀ b, H b ≠ none → b = a) (off : H a ≠ none → K.lookup a = none) :
    codeAny (model P w) callerA (.call (.ref fa) ⟨[.ref a], []⟩) (fun r s' => r = .ok (.ret (.bool true)) ∧ OldK g0.heap s'.heap ∧ s'.os = g0.os ∧ AllBare s'.gens) g0 := by
  have free_dict : ∀ (b : Addr) (o : Obj) (es : Array DictEntry) (ep : Nat), g0.heap.get? b = some o → o.data = .dict es ep → H b = none := by
    intro b o es ep e d
    by_cases q : H b = none
    · exact q
    · obtain rfl := at_ b q
      rw [e] at ha
      injection ha with ha
      rw [ha] at d
      cases d
  have to_base : ∀ (b : Addr) (m : Str → Option Value), g0.heap.Ns b m → (hidT g0.heap H).Ns b m := by
    intro b m n
    obtain ⟨o, es, ep, e, d, r⟩ := n
    exact ⟨o, es, ep, hidT_get e (free_dict b o es ep e d), d, r⟩
  have baseK : K.In (hidT g0.heap H) := by
    intro b o e
    refine hidT_get (inK b o e) ?_
    by_cases q : H b = none
    · exact q
    · obtain rfl := at_ b q
      rw [off q] at e
      cases e
  obtain ⟨mc, n1, n2⟩ := nl
  have M : Mod K mg (hidT g0.heap H) := ⟨baseK, to_base _ _ hns, ⟨mb, to_base _ _ hb, hbb⟩, ⟨mc, to_base _ _ n1, n2⟩⟩
  have env : Env0 P w K mg (hidT g0.heap H) callerA [] g0 H :=
    { frames := rfl, mod := M, bs := fun b o e => of_hidT e, bsz := Nat.le_of_eq (hidT_size _ _), funs := trivial, frf := fun b z => (by cases z), hok := ok, bare := .of_eq hg }
  have run := (F _ baseK (to_base _ _ hns)).run callerA [] g0 H ⟨[.ref a], []⟩ [.ref a] [.ref a] _ _ rfl hr env (hbind g0 (.ref a)) (.cons rfl .nil) (hsp H onl script)
  refine codeAny_mono run (fun r s' z => ?_)
  match r, z with
  | .ok (.ret u), z =>
    obtain ⟨v, H', os, bare, un, ok', rv, q⟩ := z
    have q : v = .bl true := q
    subst q
    obtain rfl : u = Value.bool true := rv
    refine ⟨rfl, OldK.of_keep (fun b o e => ?_), os, bare⟩
    by_cases q : H b = none
    · exact un.keep b o e q (by intro z; cases z) (by intro z; cases z)
    · rcases onl b with z | ⟨ob, xs, z⟩
      · exact absurd z q
      · have e1 := (ok b _ z).1
        have e2 := (ok' b _ (un.frzs b ob _ z)).1
        rw [e] at e1
        injection e1 with e1
        rw [e1]
        exact e2
theorem lawG_call (inK : K.In g0.heap) (hns : g0.heap.Ns mainGlobals mg) (hb : g0.heap.Ns builtinsNs mb) (hbb : ∀ x : Str, x ≠ "__name__" → mb x = bootBuiltins x) (nl : g0.heap.NoLimit) (hg : g0.gens = #[])
    (ha : g0.heap.get? a = some { cls := .type "list", data := .seq vs.toArray }) (hi : IntsAre vs ns) (hl : ns.length ≤ sizeLine) (hr : Room k callerA)
    (F : ∀ base : Heap, K.In base → base.Ns mainGlobals mg → FnG P w K mg base k fa fd [x] sp) (hbind : ∀ (s : Shared) (u : Value), BindsTo s fd ⟨[u], []⟩ [(x, u)])
    (hsp : ∀ H : Hp, Only H → SqL K H a (ns.map V.int) → sp [.ref a] H (fun v _ => v = .bl true) fun _ _ _ => False) :
    codeAny (model P w) callerA (.call (.ref fa) ⟨[.ref a], []⟩) (fun r s' => r = .ok (.ret (.bool true)) ∧ OldK g0.heap s'.heap ∧ s'.os = g0.os ∧ AllBare s'.gens) g0 := by
  have rv : Vals (ns.map V.int) vs := vals_ints hi
  have el : vs.length = ns.length := hi.length
  by_cases hk : K.lookup a = none
  · refine lawG_from inK hns hb hbb nl hg ha hr F hbind hsp (fun b => if b = a then some (.frz { cls := .type "list", data := .seq vs.toArray } (.lst (ns.map V.int))) else none) (fun b => ?_) (.inl (.inr ⟨_, if_pos rfl⟩)) (fun b o e => ?_) (fun b z => ?_) (fun _ => hk)
    · by_cases q : b = a
      · exact .inr ⟨_, _, if_pos q⟩
      · exact .inl (if_neg q)
    · by_cases q : b = a
      · subst q
        have e := (if_pos rfl).symm.trans e
        injection e with e
        rw [← e]
        exact ⟨ha, by rw [List.length_map]; exact hl, vs, _, rv, ha⟩
      · have e := (if_neg q).symm.trans e
        cases e
    · by_cases q : b = a
      · exact q
      · exact absurd (if_neg q) z
  · obtain ⟨o, ho⟩ := Option.ne_none_iff_exists'.mp hk
    have e := inK a o ho
    rw [ha] at e
    injection e with e
    subst e
    exact lawG_from inK hns hb hbb nl hg ha hr F hbind hsp (fun _ => none) (fun _ => .inl rfl) (.inr ⟨_, vs.toArray, _, ho, rfl, rfl, rfl, by rw [List.size_toArray, el]; exact hl, by simpa using rv⟩) (fun b o e => by cases e) (fun b z => absurd rfl z) (fun z => absurd rfl z)
end
theorem walkG_of {l : PySem.W.OpenLaw} {n k : Nat} {q : Program} {loose : List Str} {XP : (Str → Option Value) → Heap → Prop} {YP : World → Heap → Prop} {d : DefRec} {K : Params → PySem.W.Frag} {sp : World → Sp} {x : Str}
    (hn : l.most = some n) (hn2 : n ≤ sizeLine) (hdf : d.params.defaults = []) (hr : Room k callerA) (hY : ∀ (w : World) (h : Heap), YP w h → (K w.params).In h)
    (F : ∀ (w : World) (mg : Str → Option Value) (fa : Addr) (h : Heap), (K w.params).In h → h.Ns mainGlobals mg → mg d.name = some (.ref fa) →
      ∃ fd : FuncData, (∀ (s : Shared) (u : Value), BindsTo s fd ⟨[u], []⟩ [(x, u)]) ∧ ∀ base : Heap, (K w.params).In base → base.Ns mainGlobals mg → FnG l.prog w (K w.params) mg base k fa fd [x] (sp w))
    (hsp : ∀ (w : World) (H : Hp) (a : Addr) (ns : List Int), ns.length ≤ n → Only H → SqL (K w.params) H a (ns.map V.int) → sp w [.ref a] H (fun v _ => v = .bl true) fun _ _ _ => False) :
    PySem.W.WalkO q loose XP YP l.row.toRowW d [] (fun f vs => PySem.call f vs) := by
  apply Att.attach_call hn hdf
  intro w s₀ s₁ mg mb fa o pm cd doc a vs ns G Y ho hd hcd hmg hobj hints hlen hg
  obtain ⟨fd, b, f⟩ := F w mg fa _ (hY w _ Y) G.T.g hmg
  exact lawG_call (hY w _ Y) G.T.g G.T.b G.T.builtins G.T.nolimit hg hobj hints (Nat.le_trans hlen hn2) hr f b (fun H o s => hsp w H a ns hlen o s)
/-! ### the law's own: draws -/
def sp_law_draw (_ : PySem.W.Frag) : Sp := fun vs H Q _ => ∃ (s c : Addr) (m : Int), vs = [.ref s, .int m] ∧ St s c H ∧ (0 < m ∧ m < 1073741824) ∧
  ∀ d H', Kp [s, c] H H' → St s c H' → 0 ≤ d ∧ d < m → Q (.int d) H'
theorem St.nil0 {s c : Addr} {H : Hp} (h : St s c H) : H s ≠ none ∧ H c ≠ none := by
  obtain ⟨_, cs, j, r, h⟩ := h
  exact ⟨by rw [h.hs]; simp, by rw [h.hc]; simp⟩
theorem ints_of_all {p : Int → Prop} : ∀ {ys : List V}, (∀ y ∈ ys, ∃ n : Int, y = .int n ∧ p n) → ∃ cs : List Int, ys = cs.map .int ∧ ∀ n ∈ cs, p n
  | [], _ => ⟨[], rfl, by simp⟩
  | y :: ys, h => by
    obtain ⟨n, rfl, hn⟩ := h y List.mem_cons_self
    obtain ⟨cs, rfl, hc⟩ := ints_of_all (ys := ys) fun z hz => h z (List.mem_cons_of_mem _ hz)
    exact ⟨n :: cs, rfl, fun m hm => by
      rcases List.mem_cons.mp hm with rfl | hm
      · exact hn
      · exact hc m hm⟩
theorem atI_in {α : Type} {xs : List α} {i : Int} (h0 : 0 ≤ i) (h1 : i < xs.length) : ∃ v, atI xs i = some v ∧ v ∈ xs := by
  obtain ⟨j, rfl⟩ : ∃ j : Nat, i = j := ⟨i.toNat, by omega⟩
  have h2 : j < xs.length := by omega
  exact ⟨xs[j], atI_nat (List.getElem?_eq_getElem h2), List.getElem_mem h2⟩
section
variable {P : Program} {w : World} {K : PySem.W.Frag} {mg : Str → Option Value} {base : Heap}
theorem ok_law_draw (T : Tx K mg)  {f : Addr} {fd : FuncData} (F : Here K mg "_law_draw" s_law_draw ["state", "many"] f fd) : Cal P w K mg base "_law_draw" 1 ["state", "many"] (sp_law_draw K) s_law_draw f fd := by
  refine F.cal sc_law_draw (fun vs H Q E h => ?_) (fun cdv A outer s H vs Q E hr h => ?_)
  · obtain ⟨s, c, m, rfl, _⟩ := h
    rfl
  · obtain ⟨s, c, m, rfl, hst, ⟨m0, m1⟩, q⟩ := h
    refine ⟨_, (pss_cons (ps_set (i := 2) sc_law_draw.nd rfl (by first | exact .inl rfl | exact .inr rfl) (pe_ix (ix_listK (K := K)) (pv 0) pe_int (fun _ _ => rfl)))
      (pss_cons (ps_set (i := 3) sc_law_draw.nd rfl (by first | exact .inl rfl | exact .inr rfl) (pe_op op_mod (pe_ix (ix_listK (K := K)) (pv 0) pe_int (fun _ _ => rfl)) (pe_callB (cr_lenK (K := K)) (by rfl) T.m_len (by decide +kernel) (pa_cons (pv 2) pa_nil))))
      (pss_cons (ps_set (i := 4) sc_law_draw.nd rfl (by first | exact .inl rfl | exact .inr rfl) (pe_ix (ix_listK (K := K)) (pv 2) (pv 3) (fun _ _ => rfl)))
      (pss_cons (ps_if (pt_cmpR op_ge (pv 4) pe_int (nomark _)) (pss_cons (ps_asg (pe_op op_fdivW (pv 4) (pv 1)) (pg_sub (pv 2) (pv 3) set_list))
      (pss_one (ps_ret (pe_op op_mod (pv 4) (pv 1))))) pss_nil)
      (pss_cons (ps_asg (pe_op op_add (pe_ix (ix_listK (K := K)) (pv 0) pe_int (fun _ _ => rfl)) pe_int) (pg_sub (pv 0) pe_int set_list))
      (pss_cons (ps_asg (pe_op op_mod (pe_op op_add (pe_op op_add (pe_op op_mul (pe_ix (ix_listK (K := K)) (pv 0) pe_int (fun _ _ => rfl)) pe_int) (pv 4)) pe_int) pe_int) (pg_sub (pv 0) pe_int set_list))
      (pss_one (ps_ret (pe_op op_mod (pe_op op_fdivW (pe_op op_mod (pe_op op_mul (pe_ix (ix_listK (K := K)) (pv 0) pe_int (fun _ _ => rfl)) (pe_ix (ix_listK (K := K)) (pv 0) pe_int (fun _ _ => rfl))) pe_int) pe_int) (pv 1)))))))))), ?_⟩
    obtain ⟨hne, cs, j, r, hs, hc, ne, nn, len, hj, hr0, hr1⟩ := hst
    have hl : 0 < (cs.map V.int).length := by rw [List.length_map]; exact List.length_pos_iff.mpr ne
    obtain ⟨i, hi, ei⟩ : ∃ i : Nat, i < cs.length ∧ j % ((cs.map V.int).length : Int) = i := by
      have h1 := Int.emod_nonneg j (show ((cs.map V.int).length : Int) ≠ 0 by omega)
      have h2 := Int.emod_lt_of_pos j (show (0 : Int) < ((cs.map V.int).length : Int) by omega)
      rw [List.length_map] at h1 h2 ⊢
      exact ⟨(j % (cs.length : Int)).toNat, by omega, by omega⟩
    have hx : atI (cs.map V.int) (j % ((cs.map V.int).length : Int)) = some (.int cs[i]) := by
      rw [ei]; exact atI_nat (by rw [List.getElem?_map, List.getElem?_eq_getElem hi]; rfl)
    have hx0 : 0 ≤ cs[i] := nn _ (List.getElem_mem hi)
    have hxi : ixN (cs.map V.int).length (j % ((cs.map V.int).length : Int)) = some i := by
      rw [ei]; unfold ixN; rw [if_pos (by omega), if_pos (by rw [List.length_map]; omega)]; rfl
    have hw : CDivW cs[i] m := wide_div (b := 30) m0 (by omega) (by decide) (by decide)
    walk_at "st"
    walk_at "if"
    refine r_ite (fun hge => ?_) (fun hlt => ?_)
    · walk_at "st"
      refine q _ _ (fun b o e hb => ?_) ⟨hne, cs.set i (cs[i] / m), j, r, ?_, ?_, ?_, ?_, ?_, hj, hr0, hr1⟩ ⟨Int.emod_nonneg _ (by omega), Int.emod_lt_of_pos _ m0⟩
      · rw [upd_ne (by intro z; exact hb (by simp [z]))]; exact e
      · walk_at "hl"
      · rw [upd_same, List.map_set]
      · intro z; exact ne (by simpa using congrArg List.length z)
      · intro x hx
        rcases List.mem_or_eq_of_mem_set hx with h | h
        · exact nn _ h
        · rw [h]; exact Int.ediv_nonneg hx0 (by omega)
      · simpa using len
    · walk_at "st"
      refine q _ _ (fun b o e hb => ?_) ⟨hne, cs, j + 1, (r * 48271 + cs[i] + 12345) % 2147483647, upd_same, ?_, ne, nn, len, by omega, Int.emod_nonneg _ (by decide), Int.emod_lt_of_pos _ (by decide)⟩ ⟨Int.emod_nonneg _ (by omega), Int.emod_lt_of_pos _ m0⟩
      · rw [upd_ne (by intro z; exact hb (by simp [z])), upd_ne (by intro z; exact hb (by simp [z]))]; exact e
      · rw [upd_ne hne.symm, upd_ne hne.symm]; exact hc
end
def rInt1 : List V → Hp → VK → Prop := fun xs H Q => (∃ i, xs = [.int i] ∧ Q (.int i) H) ∨ ∃ k, xs = [.bl k] ∧ Q (.int (if k then 1 else 0)) H
theorem cr_int1 {X : Cx} : CallR X (.type "int") rInt1 := call_int1
section
variable {K : PySem.W.Frag} {σ : L2.St} {H : Hp} {Q : VK}
theorem r_int1b {k : Bool} (h : Q (.int (if k then 1 else 0)) H) : rInt1 [.bl k] H Q := .inr ⟨k, rfl, h⟩
theorem r_int1i {k : Int} (h : Q (.int k) H) : rInt1 [.int k] H Q := .inl ⟨k, rfl, h⟩
theorem r_cat {a b : Addr} {xs ys : List V} (h : H a = some (.lst xs)) (h2 : H b = some (.lst ys)) (z : xs.length + ys.length ≤ sizeLine) (q : ∀ p, H p = none → Q (.ref p) (upd H p (.lst (xs ++ ys)))) : rCat (.ref a) (.ref b) H Q := ⟨a, b, xs, ys, rfl, rfl, h, h2, z, q⟩
theorem r_rep {a : Addr} {k : Int} {xs : List V} (h : H a = some (.lst xs)) (c : -(2 ^ 63) ≤ k ∧ k < 2 ^ 63) (z : xs.length * k.toNat ≤ sizeLine) (q : ∀ p, H p = none → Q (.ref p) (upd H p (.lst (List.replicate k.toNat xs).flatten))) : rRep (.ref a) (.int k) H Q := ⟨a, k, xs, rfl, rfl, h, c.1, c.2, z, q⟩
end
local macro_rules | `(tactic| walk_at "st1") => `(tactic| first
  | with_reducible refine r_int1b ?_
  | with_reducible refine r_int1i ?_)
def sp_law_begun (K : PySem.W.Frag) : Sp := fun vs H Q _ => ∃ (a : Addr) (ns : List Int), vs = [.ref a] ∧ SqL K H a (ns.map .int) ∧ ns.length ≤ 63 ∧
  ∀ s c H', Same H H' → St s c H' → Q (.ref s) H'
section
variable {P : Program} {w : World} {K : PySem.W.Frag} {mg : Str → Option Value} {base : Heap}
theorem ok_law_begun (T : Tx K mg)  {f : Addr} {fd : FuncData} (F : Here K mg "_law_begun" s_law_begun ["script"] f fd) : Cal P w K mg base "_law_begun" 1 ["script"] (sp_law_begun K) s_law_begun f fd := by
  refine F.cal sc_law_begun (fun vs H Q E h => ?_) (fun cdv A outer s H vs Q E hr h => ?_)
  · obtain ⟨a, ns, rfl, _⟩ := h
    rfl
  · obtain ⟨a, ns, rfl, hS, hlen, q⟩ := h
    refine ⟨_, (pss_one (ps_ret (pe_lst (pa_cons (pe_op op_cat (pe_lc rfl sc_law_begun.nd (pi_listK (K := K) (pv 0)) (blkOk_by (own := [("cell", 1)]) (N := ["script", "cell"]) (sc := (defScope s_law_begun)) (by decide +kernel)) (fun _ _ _ _ _ => (pg_name (i := 1) sc_law_begun.nd rfl (by first | exact .inl rfl | exact .inr rfl))) (fun _ _ _ _ _ => pts_nil) (fun _ _ _ _ _ => (pe_callB cr_abs (by rfl) T.m_abs (by decide +kernel) (pa_cons (pv 1) pa_nil)))) (pe_op op_rep (pe_lst (pa_cons pe_int pa_nil)) (pe_callTy cr_int1 (by rfl) T.m_int (by decide +kernel) (pa_cons (pe_cmpR op_eq (pe_callB (cr_lenK (K := K)) (by rfl) T.m_len (by decide +kernel) (pa_cons (pv 0) pa_nil)) pe_int (nomark _)) pa_nil)))) (pa_cons pe_int (pa_cons pe_int pa_nil)))))), ?_⟩
    walk_at "st"
    intro D hD
    refine lc_map (walk_list (a := a) (xs := ns.map V.int)) (by rw [List.length_map]; omega) hD (fun i y _ => ∃ n : Int, y = .int n ∧ 0 ≤ n) (fun _ _ _ _ h _ => h) (fun _ _ _ _ _ h _ => h) (fun H' k => k.seq hS) (fun i H1 x H2 y => by rw [y.1]; exact Same.refl _)
      (fun i x H1 H2 Y No hi sm y hY => ?_) (fun ys H' el sm eD hys => ?_)
    · obtain ⟨rfl, ex⟩ := y
      rw [List.getElem?_map] at ex
      cases en : ns[i]? with
      | none => rw [en] at ex; cases ex
      | some n =>
        rw [en] at ex; cases ex
        refine ⟨rfl, ?_⟩
        walk_at "st"
        refine hY _ _ (Same.refl _) ⟨_, rfl, ?_⟩
        split <;> omega
    · have hall : ∀ y ∈ ys, ∃ n : Int, y = .int n ∧ 0 ≤ n := fun y hy => by
        obtain ⟨i, e⟩ := List.getElem?_of_mem hy
        exact hys i y e
      obtain ⟨cs, rfl, hcs⟩ := ints_of_all hall
      have e2 : cs.length = ns.length := by rw [List.length_map, List.length_map] at el; exact el
      walk_at "st"
      intro l1 hl1
      have hS2 : SqL K (upd H' l1 (.lst [.int 1])) a (ns.map .int) := (sm.trans (Same.upd_new hl1)).seq hS
      walk_at "st"
      rw [List.length_map]
      have fin : ∀ (p : Addr) (H2 : Hp) (zs : List Int), Same H H2 → H2 p = some (.lst (zs.map .int)) → zs ≠ [] → (∀ z ∈ zs, 0 ≤ z) → zs.length ≤ 100 → ∀ s, H2 s = none → Q (.ref s) (upd H2 s (.lst [.ref p, .int 0, .int 1])) := fun p H2 zs s2 ep ne nn ln s hs => by
        have nps : s ≠ p := (ne_of_none ep hs).symm
        exact q s p _ (s2.trans (Same.upd_new hs)) ⟨nps, zs, 0, 1, upd_same, hl_set nps.symm ep, ne, nn, by omega, by omega, by omega, by omega⟩
      have szl : (1000000 : Nat) ≤ sizeLine := by decide
      by_cases h0 : ns.length = 0
      · have e0 : decide (V.int (ns.length : Int) = V.int 0) = true := decide_eq_true (by rw [h0]; rfl)
        rw [e0]
        refine r_rep upd_same (by decide) (by decide) (fun l2 hl2 => ?_)
        refine r_cat (by walk_at "hl") upd_same (by rw [List.length_map]; simp; omega) (fun l3 hl3 => ?_)
        walk_at "st"
        intro s hs
        refine fin l3 _ (cs ++ [1]) (by walk_at "sm") (by rw [upd_same, List.map_append]; rfl) (by simp) (fun z hz => ?_) (by simp; omega) s hs
        rcases List.mem_append.mp hz with h | h
        · exact hcs z h
        · rw [List.mem_singleton.mp h]; decide
      · have e0 : decide (V.int (ns.length : Int) = V.int 0) = false := decide_eq_false (by simp; intro z; rw [z] at h0; exact h0 rfl)
        rw [e0]
        refine r_rep upd_same (by decide) (by decide) (fun l2 hl2 => ?_)
        refine r_cat (by walk_at "hl") upd_same (by rw [List.length_map]; simp; omega) (fun l3 hl3 => ?_)
        walk_at "st"
        intro s hs
        refine fin l3 _ cs (by walk_at "sm") (by rw [upd_same]; simp) (fun z => h0 (by rw [← e2, z]; rfl)) hcs (by omega) s hs
end
/-! ### texts -/
def rLenS : List V → Hp → VK → Prop := fun xs H Q => ∃ z, xs = [.str z] ∧ z.length ≤ sizeLine ∧ Q (.int z.length) H
theorem cr_lenS {X : Cx} : CallR X (.builtin "len") rLenS := call_len_str
def rInS : R2 := fun x y H Q => ∃ (c : Nat) (z : Str), x = .str ⟨#[c]⟩ ∧ y = .str z ∧ Q (.bl (decide (c ∈ z.cps.toList))) H
theorem op_inS {X : Cx} : OpR X (compareOp .In) rInS := op_in_sign
def rNinS : R2 := fun x y H Q => ∃ (c : Nat) (z : Str), x = .str ⟨#[c]⟩ ∧ y = .str z ∧ Q (.bl (!decide (c ∈ z.cps.toList))) H
theorem op_ninS {X : Cx} : OpR X (compareOp .NotIn) rNinS := op_notIn_sign
def rAddS : R2 := fun x y H Q => ∃ i j, x = .str i ∧ y = .str j ∧ i.length + j.length ≤ sizeLine ∧ Q (.str (i ++ j)) H
theorem op_addS {X : Cx} : OpR X (binaryOp .Add) rAddS := op_add_str
section
variable {K : PySem.W.Frag} {σ : L2.St} {H : Hp} {Q : VK}
theorem r_lenS {z : Str} (h : z.length ≤ sizeLine) (q : Q (.int z.length) H) : rLenS [.str z] H Q := ⟨z, rfl, h, q⟩
theorem r_inS {c : Nat} {z : Str} (q : Q (.bl (decide (c ∈ z.cps.toList))) H) : rInS (.str ⟨#[c]⟩) (.str z) H Q := ⟨c, z, rfl, rfl, q⟩
theorem r_ninS {c : Nat} {z : Str} (q : Q (.bl (!decide (c ∈ z.cps.toList))) H) : rNinS (.str ⟨#[c]⟩) (.str z) H Q := ⟨c, z, rfl, rfl, q⟩
theorem r_addS {a b : Str} (h : a.length + b.length ≤ sizeLine) (q : Q (.str (a ++ b)) H) : rAddS (.str a) (.str b) H Q := ⟨a, b, rfl, rfl, h, q⟩
theorem r_ixS {z : Str} {i : Int} {c : Nat} (h : z.length ≤ sizeLine) (e : atI z.cps.toList i = some c) (q : Q (.str ⟨#[c]⟩) H) : rIxS (.str z) (.int i) H Q := ⟨z, i, c, rfl, rfl, h, e, q⟩
def IsR (R : It → Hp → Prop) (v : V) (H : Hp) : Prop := ∃ x, v = .str x ∧ R (Its x) H
theorem r_istr {te : TE} {R : It → Hp → Prop} (h : te σ H (IsR R)) : iStr te σ H R := h
theorem r_is {R : It → Hp → Prop} {x : Str} (h : R (Its x) H) : IsR R (.str x) H := ⟨x, rfl, h⟩
end
theorem str_small {z : Str} (h : z.length ≤ 1000) : z.length ≤ sizeLine := Nat.le_trans h (by decide)
local macro_rules | `(tactic| walk_at "ssz") => `(tactic| first | decide | exact str_small (by assumption) | (have : (1000000 : Nat) ≤ sizeLine := (by decide); omega))
local macro_rules | `(tactic| walk_at "st1") => `(tactic| first
  | with_reducible refine' r_nt ?_ | with_reducible refine' r_nf ?_
  | ((with_reducible refine r_lenS ?e1 ?_); (case e1 => walk_at "ssz"))
  | with_reducible refine r_inS ?_
  | with_reducible refine r_ninS ?_
  | ((with_reducible refine r_addS ?e1 ?_); (case e1 => walk_at "ssz"))
  | ((with_reducible refine' r_ixS ?e1 ?e2 ?_); (case e1 => walk_at "ssz"); (case e2 => first | assumption | rfl))
  | with_reducible refine r_istr ?_
  | with_reducible refine r_is ?_
  | with_reducible refine r_un ?_
  | with_reducible refine r_u ?_)
def cs (x : Str) : List Nat := x.cps.toList
def onlyIn (x z : Str) : Bool := (cs x).all (fun c => decide (c ∈ cs z))
def nameO : O → Bool
  | .str x => decide (1 ≤ x.length) && (decide (x.length ≤ 8) && onlyIn x "abcdefghijklmnopqrstuvwxyz")
  | _ => false
def firstIn (x z : Str) : Bool := match cs x with
  | [] => false
  | c :: _ => decide (c ∈ cs z)
def placeO : O → Bool
  | .str x => decide (1 ≤ x.length) && (decide (x.length ≤ 40) && (firstIn x "abcdefghijklmnopqrstuvwxyz" && onlyIn x "abcdefghijklmnopqrstuvwxyz0123456789."))
  | _ => false
def namedO (m : Int) (more : Str) : O → Bool
  | .str x => decide (1 ≤ x.length) && (decide ((x.length : Int) ≤ m) && (firstIn x "abcdefghijklmnopqrstuvwxyz" && onlyIn x ("abcdefghijklmnopqrstuvwxyz" ++ more)))
  | _ => false
def smallS : O → Prop
  | .str x => x.length ≤ 1000
  | _ => True
def sp_has_only (_ : PySem.W.Frag) : Sp := fun vs H Q _ => ∃ x z : Str, vs = [.str x, .str z] ∧ x.length ≤ 1000 ∧ ∀ H', Same H H' → Q (.bl (onlyIn x z)) H'
def sp_is_place (_ : PySem.W.Frag) : Sp := fun vs H Q _ => ∃ (S : List Addr) (v : V) (o : O), vs = [v] ∧ Rep S H v o ∧ smallS o ∧ ∀ H', Same H H' → Q (.bl (placeO o)) H'
section
variable {P : Program} {w : World} {K : PySem.W.Frag} {mg : Str → Option Value} {base : Heap}
theorem ok_has_only (T : Tx K mg)  {f : Addr} {fd : FuncData} (F : Here K mg "has_only" s_has_only ["text", "signs"] f fd) : Cal P w K mg base "has_only" 1 ["text", "signs"] (sp_has_only K) s_has_only f fd := by
  refine F.cal sc_has_only (fun vs H Q E h => ?_) (fun cdv A outer s H vs Q E hr h => ?_)
  · obtain ⟨x, z, rfl, _⟩ := h
    rfl
  · obtain ⟨x, z, rfl, hx, q⟩ := h
    refine ⟨_, (pss_one (ps_ret (pe_callB (cr_allK (K := K) rfl) (by rfl) T.m_all (by decide +kernel) (pa_cons (pe_lc rfl sc_has_only.nd (pi_str (pv 0)) (blkOk_by (own := [("sign", 2)]) (N := ["text", "signs", "sign"]) (sc := (defScope s_has_only)) (by decide +kernel)) (fun _ _ _ _ _ => (pg_name (i := 2) sc_has_only.nd rfl (by first | exact .inl rfl | exact .inr rfl))) (fun _ _ _ _ _ => pts_nil) (fun _ _ _ _ _ => (pe_cmpR op_inS (pv 2) (pv 1) (by rfl)))) pa_nil)))), ?_⟩
    walk_at "st"
    intro D hD
    have hx2 : x.cps.size ≤ 1000 := hx
    refine lc_map (walk_str (z := x)) (by omega) hD (fun i y _ => ∃ c, x.cps[i]? = some c ∧ y = .bl (decide (c ∈ cs z))) (fun _ _ _ _ h _ => h) (fun _ _ _ _ _ h _ => h) (fun _ _ => trivial) (fun i H1 x H2 y => by rw [y.1]; exact Same.refl _)
      (fun i x' H1 H2 Y No hi sm y hY => ?_) (fun ys H' el sm eD hys => ?_)
    · obtain ⟨rfl, c, ec, rfl⟩ := y
      refine ⟨rfl, ?_⟩
      walk_at "st"
      exact hY _ _ (Same.refl _) ⟨c, ec, rfl⟩
    · have eys : ys = ((cs x).map fun c => decide (c ∈ cs z)).map V.bl := by
        apply List.ext_getElem?
        intro i
        cases e2 : ys[i]? with
        | none =>
          rw [List.getElem?_eq_none_iff] at e2
          rw [List.getElem?_eq_none_iff.mpr (by simp [cs]; omega)]
        | some y =>
          obtain ⟨c, ec, rfl⟩ := hys i y e2
          have : (cs x)[i]? = some c := by unfold cs; rw [Array.getElem?_toList]; exact ec
          rw [List.getElem?_map, List.getElem?_map, this]; rfl
      subst eys
      walk_at "st"
      have := q H' sm
      rw [List.all_map]
      exact this
end
local macro_rules | `(tactic| walk_at "ssz") => `(tactic| first | decide | exact str_small (by assumption) | (have : (1000000 : Nat) ≤ sizeLine := (by decide); omega))
local macro_rules | `(tactic| walk_at "st1") => `(tactic| first
  | with_reducible refine' r_nt ?_ | with_reducible refine' r_nf ?_
  | ((with_reducible refine r_lenS ?e1 ?_); (case e1 => walk_at "ssz"))
  | with_reducible refine r_inS ?_
  | with_reducible refine r_ninS ?_
  | ((with_reducible refine r_addS ?e1 ?_); (case e1 => walk_at "ssz"))
  | ((with_reducible refine' r_ixS ?e1 ?e2 ?_); (case e1 => walk_at "ssz"); (case e2 => first | assumption | rfl))
  | with_reducible refine r_istr ?_
  | with_reducible refine r_is ?_
  | with_reducible refine r_un ?_
  | with_reducible refine r_u ?_)
theorem cs_append (x y : Str) : cs (x ++ y) = cs x ++ cs y := by
  show (x.cps ++ y.cps).toList = _
  rw [Array.toList_append]; rfl
theorem cs_len (x : Str) : (cs x).length = x.length := by
  show x.cps.toList.length = x.cps.size
  rw [Array.length_toList]
theorem first_at {x : Str} (h : 1 ≤ x.length) : ∃ c, atI x.cps.toList 0 = some c ∧ ∀ z, firstIn x z = decide (c ∈ cs z) := by
  have hl := cs_len x
  cases e : cs x with
  | nil => rw [e] at hl; simp at hl; omega
  | cons c r =>
    refine ⟨c, ?_, fun z => ?_⟩
    · have : x.cps.toList = c :: r := e
      rw [this]; exact atI_nat (j := 0) rfl
    · unfold firstIn; rw [e]
section
variable {P : Program} {w : World} {K : PySem.W.Frag} {mg : Str → Option Value} {base : Heap}
theorem ok_is_place (T : Tx K mg) {f_has_only : Addr} {fd_has_only : FuncData} (C_has_only : Cal P w K mg base "has_only" 1 ["text", "signs"] (sp_has_only K) s_has_only f_has_only fd_has_only) {f : Addr} {fd : FuncData} (F : Here K mg "is_place" s_is_place ["thing"] f fd) : Cal P w K mg base "is_place" 2 ["thing"] (sp_is_place K) s_is_place f fd := by
  refine F.cal sc_is_place (fun vs H Q E h => ?_) (fun cdv A outer s H vs Q E hr h => ?_)
  · obtain ⟨S, v, o, rfl, _⟩ := h
    rfl
  · obtain ⟨S, v, o, rfl, r, sm0, q⟩ := h
    refine ⟨_, (pss_cons (ps_if (PW.pt (pw_or (pt_not (pt_val (pe_callB (cr_isiK (K := K)) (by rfl) T.m_isinstance (by decide +kernel) (pa_cons (pv 0) (pa_cons (pe_bltn (v := .ty "str") (by rfl) T.m_str (by decide +kernel) rfl) pa_nil))))) (pw_or1 (pt_not (pt_chain op_le op_le pe_int (pe_callB cr_lenS (by rfl) T.m_len (by decide +kernel) (pa_cons (pv 0) pa_nil)) (pe_glob (v := .int 40) (by rfl) (T.c_LONGEST_PLACE).choose_spec ⟨_, rfl⟩)))))) (pss_one (ps_ret pe_bl)) pss_nil)
      (pss_one (ps_ret (pe_and (pe_cmpR op_inS (pe_ix ix_str (pv 0) pe_int (fun _ _ => rfl)) (pe_glob (v := .str "abcdefghijklmnopqrstuvwxyz") (by rfl) (T.c_LETTERS).choose_spec ⟨_, rfl⟩) (by rfl)) (pe_one (pe_call C_has_only.ok (hr.mono (by decide)) (by rfl) C_has_only.at_ C_has_only.kp C_has_only.b .nil pass0 (pa_cons (pv 0) (pa_cons (pe_op op_addS (pe_op op_addS (pe_glob (v := .str "abcdefghijklmnopqrstuvwxyz") (by rfl) (T.c_LETTERS).choose_spec ⟨_, rfl⟩) (pe_glob (v := .str "0123456789") (by rfl) (T.c_FIGURES).choose_spec ⟨_, rfl⟩)) pe_str) pa_nil)))))))), ?_⟩
    cases r with
    | str x =>
      have hx : x.length ≤ 1000 := sm0
      walk_at "st"
      refine r_join (fun σ' H' => σ' = [some (.str x)] ∧ H' = H ∧ 1 ≤ x.length ∧ x.length ≤ 40) (fun σ' H' g => ?_) (fun N hN => ?_)
      · obtain ⟨rfl, rfl, g1, g2⟩ := g
        obtain ⟨c, ec, hc⟩ := first_at g1
        walk_at "st"
        refine r_iteB (fun h2 => ?_) (fun h2 => ?_)
        · walk_at "st"
          refine ⟨x, _, rfl, hx, fun H' sm => ?_⟩
          have := q H' sm
          have e : placeO (.str x) = onlyIn x ("abcdefghijklmnopqrstuvwxyz" ++ "0123456789" ++ ".") := by
            have e1 : firstIn x "abcdefghijklmnopqrstuvwxyz" = true := by rw [hc]; exact h2
            show (decide (1 ≤ x.length) && (decide (x.length ≤ 40) && (firstIn x "abcdefghijklmnopqrstuvwxyz" && _))) = _
            rw [e1, decide_eq_true g1, decide_eq_true g2]
            rfl
          rw [e] at this
          exact this
        · have := q H' (Same.refl _)
          have e : placeO (.str x) = false := by
            have e1 : firstIn x "abcdefghijklmnopqrstuvwxyz" = false := by rw [hc]; exact h2
            show (decide (1 ≤ x.length) && (decide (x.length ≤ 40) && (firstIn x "abcdefghijklmnopqrstuvwxyz" && _))) = _
            rw [e1]; simp
          rw [e] at this
          exact this
      · have no : ¬(1 ≤ x.length ∧ x.length ≤ 40) → Q (.bl false) H := fun z => by
          have := q H (Same.refl _)
          have e : placeO (.str x) = false := by
            by_cases h1 : 1 ≤ x.length
            · have h2 : ¬ x.length ≤ 40 := fun z2 => z ⟨h1, z2⟩
              simp [placeO, h2]
            · simp [placeO, h1]
          rw [e] at this
          exact this
        walk_at "if"
        refine r_ite (fun h1 => ?_) (fun h1 => ?_)
        · walk_at "st"
          by_cases h2 : (x.length : Int) ≤ 40
          · rw [decide_eq_true h2]
            walk_at "st"
            exact hN _ _ ⟨rfl, rfl, by omega, by omega⟩
          · rw [decide_eq_false h2]
            walk_at "st"
            exact no (by omega)
        · walk_at "st"
          exact no (by omega)
    | _ => (walk_at "st"; walk_at "if"; exact q H (Same.refl _))
end
def wholeO : O → Bool
  | .int _ => true
  | _ => false
def numO (p : Int) : O → Bool
  | .int n => decide (0 ≤ n) && decide (n < p)
  | _ => false
def sp_is_whole (_ : PySem.W.Frag) : Sp := fun vs H Q _ => ∃ (S : List Addr) (v : V) (o : O), vs = [v] ∧ Rep S H v o ∧ Q (.bl (wholeO o)) H
def sp_is_number (_ : PySem.W.Frag) : Sp := fun vs H Q _ => ∃ (S : List Addr) (v : V) (o : O) (p : Int), vs = [v, .int p] ∧ Rep S H v o ∧ Q (.bl (numO p o)) H
section
variable {P : Program} {w : World} {K : PySem.W.Frag} {mg : Str → Option Value} {base : Heap}
theorem ok_is_whole (T : Tx K mg)  {f : Addr} {fd : FuncData} (F : Here K mg "is_whole" s_is_whole ["thing"] f fd) : Cal P w K mg base "is_whole" 1 ["thing"] (sp_is_whole K) s_is_whole f fd := by
  refine F.cal sc_is_whole (fun vs H Q E h => ?_) (fun cdv A outer s H vs Q E hr h => ?_)
  · obtain ⟨S, v, o, rfl, _⟩ := h
    rfl
  · obtain ⟨S, v, o, rfl, r, q⟩ := h
    refine ⟨_, (pss_one (ps_ret (pe_and (pe_callB (cr_isiK (K := K)) (by rfl) T.m_isinstance (by decide +kernel) (pa_cons (pv 0) (pa_cons (pe_bltn (v := .ty "int") (by rfl) T.m_int (by decide +kernel) rfl) pa_nil))) (pe_one (pe_not (pe_callB (cr_isiK (K := K)) (by rfl) T.m_isinstance (by decide +kernel) (pa_cons (pv 0) (pa_cons (pe_bltn (v := .ty "bool") (by rfl) T.m_bool (by decide +kernel) rfl) pa_nil)))))))), ?_⟩
    cases r <;> (walk_at "st"; exact q)
theorem ok_is_number (T : Tx K mg) {f_is_whole : Addr} {fd_is_whole : FuncData} (C_is_whole : Cal P w K mg base "is_whole" 1 ["thing"] (sp_is_whole K) s_is_whole f_is_whole fd_is_whole) {f : Addr} {fd : FuncData} (F : Here K mg "is_number" s_is_number ["thing", "p"] f fd) : Cal P w K mg base "is_number" 2 ["thing", "p"] (sp_is_number K) s_is_number f fd := by
  refine F.cal sc_is_number (fun vs H Q E h => ?_) (fun cdv A outer s H vs Q E hr h => ?_)
  · obtain ⟨S, v, o, p, rfl, _⟩ := h
    rfl
  · obtain ⟨S, v, o, p, rfl, r, q⟩ := h
    refine ⟨_, (pss_one (ps_ret (pe_and (pe_call C_is_whole.ok (hr.mono (by decide)) (by rfl) C_is_whole.at_ C_is_whole.kp C_is_whole.b .nil pass0 (pa_cons (pv 0) pa_nil)) (pe_one (pe_chain op_le op_lt pe_int (pv 0) (pv 1)))))), ?_⟩
    walk_at "st"
    refine ⟨S, v, o, rfl, r, ?_⟩
    cases r with
    | int n =>
      walk_at "st"
      refine r_iteB (fun _ => ?_) (fun z => by cases z)
      walk_at "st"
      refine r_ite (fun h1 => ?_) (fun h1 => ?_)
      · walk_at "st"
        simpa [numO, h1] using q
      · simpa [numO, h1] using q
    | _ => (walk_at "st"; exact r_iteB (fun z => by cases z) (fun _ => q))
end
/-! ### places made unlike: the tries end -/
def lettersL : List Nat := cs "abcdefghijklmnopqrstuvwxyz"
def signsL : List Nat := cs "abcdefghijklmnopqrstuvwxyz0123456789."
def preW (n : Nat) : List Nat := 113 :: cs (toString (n : Int))
def stepW (n : Nat) (p : List Nat) : List Nat := preW n ++ p.take 30
def itW (n : Nat) : Nat → List Nat → List Nat
  | 0, p => p
  | t + 1, p => stepW n (itW n t p)
def goodW (w : List Nat) : Prop := 1 ≤ w.length ∧ w.length ≤ 40 ∧ (∃ c r, w = c :: r ∧ c ∈ lettersL) ∧ ∀ c ∈ w, c ∈ signsL
theorem pre_facts : ((List.range 20).all fun n => decide (2 ≤ (preW n).length) && decide ((preW n).length ≤ 3) && (preW n).all fun c => decide (c ∈ signsL)) = true := by decide +kernel
theorem pre_fact {n : Nat} (h : n < 20) : 2 ≤ (preW n).length ∧ (preW n).length ≤ 3 ∧ ∀ c ∈ preW n, c ∈ signsL := by
  have := List.all_eq_true.mp pre_facts n (List.mem_range.mpr h)
  simp only [Bool.and_eq_true, decide_eq_true_eq, List.all_eq_true] at this
  exact ⟨this.1.1, this.1.2, this.2⟩
theorem itW_take {n : Nat} (h : n < 20) (p q : List Nat) : ∀ t, (itW n t p).take (2 * t) = (itW n t q).take (2 * t)
  | 0 => by simp
  | t + 1 => by
    have ih := itW_take h p q t
    have l2 := (pre_fact h).1
    show (preW n ++ (itW n t p).take 30).take (2 * (t + 1)) = (preW n ++ (itW n t q).take 30).take (2 * (t + 1))
    rw [List.take_append, List.take_append, List.take_take, List.take_take]
    have e : ∀ x : List Nat, x.take (min (2 * (t + 1) - (preW n).length) 30) = (x.take (2 * t)).take (min (2 * (t + 1) - (preW n).length) 30) := fun x => by
      rw [List.take_take]; congr 1; omega
    rw [e (itW n t p), e (itW n t q), ih]
theorem stepW_len {n : Nat} (h : n < 20) (p : List Nat) : (stepW n p).length = (preW n).length + min 30 p.length := by
  unfold stepW; rw [List.length_append, List.length_take]
def endW (n : Nat) : List Nat := itW n 17 []
theorem itW_17 {n : Nat} (h : n < 20) (p : List Nat) : itW n 17 p = endW n := by
  have l3 := (pre_fact h).2.1
  have e := itW_take h p [] 17
  have l : ∀ q, (itW n 17 q).length ≤ 34 := fun q => by
    show (stepW n (itW n 16 q)).length ≤ 34
    rw [stepW_len h]; omega
  rwa [List.take_of_length_le (l p), List.take_of_length_le (l [])] at e
def tailL : List Nat := [97, 46, 48, 122]
/-- how a place came to be, as far as is needed -/
inductive OkW (n : Nat) (w : List Nat) : Prop
  | drawn : w.length ∈ [1, 2, 3, 6, 40] → OkW n w
  | tried (m x : Nat) (r : List Nat) : m < n → w = preW m ++ x :: r → x ∈ lettersL → OkW n w
  | more (u : List Nat) (c : Nat) : w = u ++ [c] → c ∈ tailL → (w.length ≤ 7 ∨ w.length = 40 ∨ ∃ v d, u = v ++ [d] ∧ d ∈ tailL) → OkW n w
theorem OkW.mono {n : Nat} {w : List Nat} (h : OkW n w) : OkW (n + 1) w := by
  cases h with
  | drawn h => exact .drawn h
  | tried m x r h e k => exact .tried m x r (by omega) e k
  | more u c e h k => exact .more u c e h k
theorem end_facts : ((List.range 20).all fun n => decide (32 ≤ (endW n).length) && decide ((endW n).length ≤ 33) &&
    ((List.range n).all fun m => !(decide ((endW n).take (preW m).length = preW m) && decide ((endW n).getD (preW m).length 0 ∈ lettersL))) &&
    !(decide ((endW n).getD ((endW n).length - 1) 0 ∈ tailL) && decide ((endW n).getD ((endW n).length - 2) 0 ∈ tailL))) = true := by decide +kernel
theorem OkW.end {n : Nat} (hn : n < 20) {w : List Nat} (h : OkW n w) : w ≠ endW n := by
  have f := List.all_eq_true.mp end_facts n (List.mem_range.mpr hn)
  simp only [Bool.and_eq_true, decide_eq_true_eq] at f
  obtain ⟨⟨⟨f1, f2⟩, f3⟩, f4⟩ := f
  rintro rfl
  cases h with
  | drawn h => simp at h; omega
  | tried m x r h e k =>
    have g := List.all_eq_true.mp f3 m (List.mem_range.mpr h)
    rw [e] at g
    have e1 : (preW m ++ x :: r).take (preW m).length = preW m := by rw [List.take_append_of_le_length (Nat.le_refl _), List.take_length]
    have e2 : (preW m ++ x :: r).getD (preW m).length 0 = x := by simp [List.getD]
    rw [e1, e2, decide_eq_true rfl, decide_eq_true k] at g
    cases g
  | more u c e hc k =>
    rcases k with k | k | ⟨v, d, rfl, hd⟩
    · omega
    · omega
    · rw [e] at f4
      have e1 : (v ++ [d] ++ [c]).getD ((v ++ [d] ++ [c]).length - 1) 0 = c := by simp [List.getD]
      have e2 : (v ++ [d] ++ [c]).getD ((v ++ [d] ++ [c]).length - 2) 0 = d := by simp [List.getD]
      rw [e1, e2, decide_eq_true hc, decide_eq_true hd] at f4
      cases f4
theorem OkW.grow {n : Nat} (hn : n < 20) {w : List Nat} {c : Nat} (h : OkW n w) (hw : 1 ≤ w.length ∧ w.length ≤ 40) (hc : c ∈ tailL) : OkW n (w.take 39 ++ [c]) := by
  have hl : (w.take 39 ++ [c]).length = min 39 w.length + 1 := by rw [List.length_append, List.length_take]; rfl
  cases h with
  | drawn h =>
    refine .more _ _ rfl hc ?_
    simp at h
    omega
  | tried m x r h e k =>
    have l3 := (pre_fact (show m < 20 by omega)).2.1
    refine .tried m x (r.take (39 - (preW m).length - 1) ++ [c]) h ?_ k
    rw [e, List.take_append, List.append_assoc, List.take_of_length_le (show (preW m).length ≤ 39 by omega)]
    congr 1
    obtain ⟨j, ej⟩ : ∃ j, 39 - (preW m).length = j + 1 := ⟨39 - (preW m).length - 1, by omega⟩
    rw [ej]; rfl
  | more u d e hd k =>
    refine .more _ _ rfl hc ?_
    by_cases g : w.length = 40
    · omega
    · refine .inr (.inr ⟨u, d, ?_, hd⟩)
      rw [List.take_of_length_le (by omega)]; exact e
theorem OkW.step {n : Nat} {p : List Nat} (h : goodW p) : OkW (n + 1) (stepW n p) := by
  obtain ⟨_, _, ⟨c, r, rfl, hc⟩, _⟩ := h
  exact .tried n c (r.take 29) (Nat.lt_succ_self n) rfl hc
theorem goodW.step {n : Nat} (hn : n < 20) {p : List Nat} (h : goodW p) : goodW (stepW n p) := by
  have f := pre_fact hn
  refine ⟨by rw [stepW_len hn]; omega, by rw [stepW_len hn]; omega, ⟨113, cs (toString (n : Int)) ++ p.take 30, rfl, by decide +kernel⟩, fun c m => ?_⟩
  rcases List.mem_append.mp m with m | m
  · exact f.2.2 c m
  · exact h.2.2.2 c (List.mem_of_mem_take m)
theorem goodW.grow {p : List Nat} {c : Nat} (h : goodW p) (hc : c ∈ tailL) : goodW (p.take 39 ++ [c]) := by
  obtain ⟨h1, h2, ⟨d, r, rfl, hd⟩, h4⟩ := h
  refine ⟨by simp, by rw [List.length_append, List.length_take]; simp; omega, ⟨d, r.take 38 ++ [c], rfl, hd⟩, fun x m => ?_⟩
  rcases List.mem_append.mp m with m | m
  · exact h4 x (List.mem_of_mem_take m)
  · rw [List.mem_singleton.mp m]
    simp [tailL] at hc
    rcases hc with rfl | rfl | rfl | rfl <;> decide +kernel
theorem goodW.it {n : Nat} (hn : n < 20) {p : List Nat} (h : goodW p) : ∀ t, goodW (itW n t p)
  | 0 => h
  | t + 1 => (goodW.it hn h t).step hn
local macro_rules | `(tactic| walk_at "ssz") => `(tactic| first | decide | exact str_small (by assumption) | (have : (1000000 : Nat) ≤ sizeLine := (by decide); omega))
local macro_rules | `(tactic| walk_at "st1") => `(tactic| first
  | with_reducible refine' r_nt ?_ | with_reducible refine' r_nf ?_
  | ((with_reducible refine r_lenS ?e1 ?_); (case e1 => walk_at "ssz"))
  | with_reducible refine r_inS ?_
  | with_reducible refine r_ninS ?_
  | ((with_reducible refine r_addS ?e1 ?_); (case e1 => walk_at "ssz"))
  | ((with_reducible refine' r_ixS ?e1 ?e2 ?_); (case e1 => walk_at "ssz"); (case e2 => first | assumption | rfl))
  | with_reducible refine r_istr ?_
  | with_reducible refine r_is ?_
  | with_reducible refine r_un ?_
  | with_reducible refine r_u ?_)
theorem op_inSeqK {X : Cx} {K : PySem.W.Frag} (q : X.K = K := by rfl) : OpR X (compareOp .In) (rIn K false) := q ▸ op_in_seq
def rStrOf : List V → Hp → VK → Prop := fun xs H Q => ∃ i : Int, xs = [.int i] ∧ i.natAbs.log2 < 1920 ∧ Q (.str (toString i)) H
theorem cr_strOf {X : Cx} : CallR X (.type "str") rStrOf := call_str_int
theorem cs_inj {x y : Str} (h : cs x = cs y) : x = y := by
  cases x; cases y
  simp only [cs] at h
  congr 1
  exact Array.toList_inj.mp h
theorem inV_strs (z : Str) : ∀ zs : List Str, inV (.str z) (zs.map V.str) = decide (z ∈ zs)
  | [] => by simp [inV]
  | y :: zs => by
    have ih := inV_strs z zs
    unfold inV at ih ⊢
    rw [List.map_cons, List.any_cons, ih]
    have e : eqV (V.str y) (V.str z) = decide (z = y) := by
      show (y == z) = _
      by_cases c : z = y
      · subst c; simp
      · rw [decide_eq_false c]; exact beq_false_of_ne fun w => c w.symm
    rw [e]
    by_cases c : z = y <;> simp [c]
theorem flat_strs (zs : List Str) : (zs.map V.str).all flatV = true := by
  rw [List.all_map]; exact List.all_eq_true.mpr fun _ _ => rfl
theorem cs_cut (z : Str) (n : Nat) : cs (cutS z none (some (n : Int))) = (cs z).take n := by
  unfold cutS cs
  have e1 : HT.sIx z.length 0 none = 0 := rfl
  have e2 : HT.sIx z.length z.length (some (n : Int)) = min n z.length := by
    simp [HT.sIx]; omega
  rw [e1, e2]
  simp only [List.drop_zero, Nat.sub_zero]
  have l : z.cps.toList.length = z.length := by rw [Array.length_toList]; rfl
  by_cases h : n ≤ z.length
  · rw [Nat.min_eq_left h]
  · rw [Nat.min_eq_right (by omega), List.take_of_length_le (by omega), List.take_of_length_le (by omega)]
section
variable {K : PySem.W.Frag} {σ : L2.St} {H : Hp} {Q : VK}
theorem r_slS {z : Str} {lo hi : Option Int} (h : z.length ≤ sizeLine) (q : Q (.str (cutS z lo hi)) H) : rSlS (.str z) lo hi H Q := ⟨z, rfl, h, q⟩
theorem r_inSeq {p : Addr} {z : Str} {zs : List Str} (h : SqL K H p (zs.map V.str)) (q : Q (.bl (decide (z ∈ zs))) H) : rIn K false (.str z) (.ref p) H Q :=
  ⟨p, _, rfl, .inl h, rfl, flat_strs zs, by rw [if_neg (by decide), inV_strs]; exact q⟩
theorem r_strOf {i : Int} (h : i.natAbs.log2 < 1920) (q : Q (.str (toString i)) H) : rStrOf [.int i] H Q := ⟨i, rfl, h, q⟩
end
local macro_rules | `(tactic| walk_at "st1") => `(tactic| first
  | with_reducible refine r_par ?_
  | with_reducible refine r_parx ?_
  | ((with_reducible refine r_slS ?e1 ?_); (case e1 => walk_at "ssz"))
  | ((with_reducible refine' r_inSeq ?e1 ?_); (case e1 => walk_at "sq"))
  | ((with_reducible refine r_strOf ?e1 ?_); (case e1 => assumption)))
def primes14 : List Int := [2, 3, 5, 7, 11, 13, 29, 53, 97, 101, 499, 523, 991, 997]
def sp_law_place (_ : PySem.W.Frag) : Sp := fun vs H Q _ => ∃ (s c : Addr), vs = [.ref s] ∧ St s c H ∧ ∀ z H', Kp [s, c] H H' → St s c H' → goodW (cs z) → (cs z).length ∈ [1, 2, 3, 6, 40] → Q (.str z) H'
def sp_law_places (_ : PySem.W.Frag) : Sp := fun vs H Q _ => ∃ (s c : Addr) (m : Int), vs = [.ref s, .int m] ∧ St s c H ∧ (0 ≤ m ∧ m ≤ 20) ∧
  ∀ (l : Addr) (zs : List Str) (H' : Hp), Kp [s, c] H H' → St s c H' → H l = none → H' l = some (.lst (zs.map V.str)) → (zs.length : Int) = m → zs.Nodup → (∀ z ∈ zs, goodW (cs z)) → Q (.ref l) H'
section
variable {P : Program} {w : World} {K : PySem.W.Frag} {mg : Str → Option Value} {base : Heap}
theorem all_signs : (cs "abcxyz0189.mnopqrstuvwdefghijkl234567").all (fun c => decide (c ∈ signsL)) = true := by decide +kernel
theorem all_firsts : (cs "abcxyzqm").all (fun c => decide (c ∈ lettersL) && decide (c ∈ signsL)) = true := by decide +kernel
theorem ok_law_place (T : Tx K mg) {f_law_draw : Addr} {fd_law_draw : FuncData} (C_law_draw : Cal P w K mg base "_law_draw" 1 ["state", "many"] (sp_law_draw K) s_law_draw f_law_draw fd_law_draw) {f : Addr} {fd : FuncData} (F : Here K mg "_law_place" s_law_place ["state"] f fd) : Cal P w K mg base "_law_place" 2 ["state"] (sp_law_place K) s_law_place f fd := by
  refine F.cal sc_law_place (fun vs H Q E h => ?_) (fun cdv A outer s H vs Q E hr h => ?_)
  · obtain ⟨s, c, rfl, _⟩ := h
    rfl
  · obtain ⟨s, c, rfl, hst, q⟩ := h
    refine ⟨_, (pss_cons (ps_set (i := 1) sc_law_place.nd rfl (by first | exact .inl rfl | exact .inr rfl) pe_str)
      (pss_cons (ps_set (i := 2) sc_law_place.nd rfl (by first | exact .inl rfl | exact .inr rfl) (pe_ix (ix_listK (K := K)) (pe_lst (pa_cons pe_int (pa_cons pe_int (pa_cons pe_int (pa_cons pe_int (pa_cons pe_int (pa_cons pe_int pa_nil))))))) (pe_call C_law_draw.ok (hr.mono (by decide)) (by rfl) C_law_draw.at_ C_law_draw.kp C_law_draw.b .nil pass0 (pa_cons (pv 0) (pa_cons pe_int pa_nil))) (fun _ _ => rfl)))
      (pss_cons (ps_set (i := 3) sc_law_place.nd rfl (by first | exact .inl rfl | exact .inr rfl) (pe_ix ix_str pe_str (pe_call C_law_draw.ok (hr.mono (by decide)) (by rfl) C_law_draw.at_ C_law_draw.kp C_law_draw.b .nil pass0 (pa_cons (pv 0) (pa_cons pe_int pa_nil))) (fun _ _ => rfl)))
      (pss_cons (ps_while PassesOwn.never (pt_cmpR op_lt (pe_callB cr_lenS (by rfl) T.m_len (by decide +kernel) (pa_cons (pv 3) pa_nil)) (pv 2) (nomark _)) (pss_one (ps_set (i := 3) sc_law_place.nd rfl (by first | exact .inl rfl | exact .inr rfl) (pe_op op_addS (pv 3) (pe_ix ix_str (pv 1) (pe_call C_law_draw.ok (hr.mono (by decide)) (by rfl) C_law_draw.at_ C_law_draw.kp C_law_draw.b .nil pass0 (pa_cons (pv 0) (pa_cons pe_int pa_nil))) (fun _ _ => rfl))))))
      (pss_one (ps_ret (pv 3))))))), ?_⟩
    walk_at "st"
    intro l hl
    have ol := hst.out hl
    walk_at "st"
    refine ⟨s, c, 6, rfl, by walk_at "stt", by omega, fun d H1 k1 st1 hd => ?_⟩
    obtain ⟨v, ev, hv⟩ := atI_in (xs := [V.int 1, V.int 1, V.int 2, V.int 3, V.int 6, V.int 40]) hd.1 (by simpa using hd.2)
    walk_at "st"
    obtain ⟨sz, rfl, hsz⟩ : ∃ p : Nat, v = .int p ∧ p ∈ [1, 2, 3, 6, 40] := by
      simp at hv
      rcases hv with h | h | h | h | h
      · exact ⟨1, h, by decide⟩
      · exact ⟨2, h, by decide⟩
      · exact ⟨3, h, by decide⟩
      · exact ⟨6, h, by decide⟩
      · exact ⟨40, h, by decide⟩
    have hsz2 : 1 ≤ sz ∧ sz ≤ 40 := by simp at hsz; omega
    refine ⟨s, c, 8, rfl, st1, by omega, fun d2 H2 k2 st2 hd2 => ?_⟩
    obtain ⟨c2, ec2, mc2⟩ := atI_in (xs := (Str.ofString "abcxyzqm").cps.toList) hd2.1 (by show d2 < 8; exact hd2.2)
    have f2 := List.all_eq_true.mp all_firsts c2 mc2
    simp only [Bool.and_eq_true, decide_eq_true_eq] at f2
    have k02 : Kp [s, c] H H2 := by walk_at "kp"
    walk_at "st"
    refine ⟨fun m σ' H' => ∃ (z : Str), σ' = [some (.ref s), some (.str "abcxyz0189.mnopqrstuvwdefghijkl234567"), some (.int sz), some (.str z)] ∧ Kp [s, c] H H' ∧ St s c H' ∧ z.length ≤ sz ∧ goodW (cs z) ∧ m = 41 - z.length, ⟨40, _, rfl, k02, st2, by show 1 ≤ sz; omega, ⟨by show 1 ≤ 1; decide, by show 1 ≤ 40; decide, ⟨c2, [], rfl, f2.1⟩, fun x m => by rw [List.mem_singleton.mp m]; exact f2.2⟩, rfl⟩, fun m σ' H' w => ?_⟩
    obtain ⟨z, rfl, k3, st3, hz, gz, rfl⟩ := w
    have lz : z.length ≤ 1000 := by omega
    walk_at "st"
    refine r_ite (fun h => ?_) (fun h => ?_)
    · refine ⟨fun σ' H' => ∃ m', m' < 41 - z.length ∧ ∃ (z : Str), σ' = [some (.ref s), some (.str "abcxyz0189.mnopqrstuvwdefghijkl234567"), some (.int sz), some (.str z)] ∧ Kp [s, c] H H' ∧ St s c H' ∧ z.length ≤ sz ∧ goodW (cs z) ∧ m' = 41 - z.length, fun _ _ h => h, ?_⟩
      walk_at "st"
      refine ⟨s, c, 37, rfl, st3, by omega, fun d4 H4 k4 st4 hd4 => ?_⟩
      obtain ⟨c4, ec4, mc4⟩ := atI_in (xs := (Str.ofString "abcxyz0189.mnopqrstuvwdefghijkl234567").cps.toList) hd4.1 (by show d4 < 37; exact hd4.2)
      have f4 := of_decide_eq_true (List.all_eq_true.mp all_signs c4 mc4)
      have k04 : Kp [s, c] H H4 := by walk_at "kp"
      have l1 : z.length + (⟨#[c4]⟩ : Str).length ≤ 50 := by show z.length + 1 ≤ 50; omega
      walk_at "st"
      have el : (z ++ (⟨#[c4]⟩ : Str)).length = z.length + 1 := by
        show (z.cps ++ #[c4]).size = _
        rw [Array.size_append]; rfl
      have gl := cs_len z
      refine ⟨_, by rw [el]; omega, _, rfl, k04, st4, by rw [el]; omega, ?_, rfl⟩
      rw [cs_append]
      obtain ⟨g1, g2, ⟨x, r, ex, hx⟩, g4⟩ := gz
      refine ⟨by rw [List.length_append]; omega, by rw [List.length_append, gl]; show z.length + 1 ≤ 40; omega, ⟨x, r ++ [c4], by rw [ex]; rfl, hx⟩, fun y m => ?_⟩
      rcases List.mem_append.mp m with m | m
      · exact g4 y m
      · rw [List.mem_singleton.mp m]; exact f4
    · walk_at "st"
      have e : (cs z).length = sz := by rw [cs_len]; omega
      exact q z _ k3 st3 gz (by rw [e]; exact hsz)
end
section
variable {P : Program} {w : World} {K : PySem.W.Frag} {mg : Str → Option Value} {base : Heap}
theorem ok_law_places (T : Tx K mg) {f_law_place : Addr} {fd_law_place : FuncData} (C_law_place : Cal P w K mg base "_law_place" 2 ["state"] (sp_law_place K) s_law_place f_law_place fd_law_place) {f_law_draw : Addr} {fd_law_draw : FuncData} (C_law_draw : Cal P w K mg base "_law_draw" 1 ["state", "many"] (sp_law_draw K) s_law_draw f_law_draw fd_law_draw) {f : Addr} {fd : FuncData} (F : Here K mg "_law_places" s_law_places ["state", "many"] f fd) : Cal P w K mg base "_law_places" 3 ["state", "many"] (sp_law_places K) s_law_places f fd := by
  refine F.cal sc_law_places (fun vs H Q E h => ?_) (fun cdv A outer s H vs Q E hr h => ?_)
  · obtain ⟨s, c, m, rfl, _⟩ := h
    rfl
  · obtain ⟨s, c, m, rfl, hst, hm, q⟩ := h
    refine ⟨_, (pss_cons (ps_set (i := 2) sc_law_places.nd rfl (by first | exact .inl rfl | exact .inr rfl) (pe_lst pa_nil))
      (pss_cons (ps_for PassesOwn.never rfl (pi_range1 (by rfl) T.m_range (pa_cons (pv 1) pa_nil)) (pg_name (i := 3) sc_law_places.nd rfl (by first | exact .inl rfl | exact .inr rfl)) (pss_cons (ps_set (i := 4) sc_law_places.nd rfl (by first | exact .inl rfl | exact .inr rfl) (pe_call C_law_place.ok (hr.mono (by decide)) (by rfl) C_law_place.at_ C_law_place.kp C_law_place.b .nil pass0 (pa_cons (pv 0) pa_nil)))
      (pss_cons (ps_if (PW.pt (pw_and (pt_cmpR (op_neNilK (K := K) (hu_of64 hr)) (pv 2) (pe_lst pa_nil) (nomark _)) (pw_and1 (pt_cmpR op_eq (pe_call C_law_draw.ok (hr.mono (by decide)) (by rfl) C_law_draw.at_ C_law_draw.kp C_law_draw.b .nil pass0 (pa_cons (pv 0) (pa_cons pe_int pa_nil))) pe_int (nomark _))))) (pss_one (ps_set (i := 4) sc_law_places.nd rfl (by first | exact .inl rfl | exact .inr rfl) (pe_op op_addS (pe_slice sl_str (pe_ix (ix_listK (K := K)) (pv 2) (pe_un un_neg pe_int) (fun _ _ => rfl)) po_none (po_some pe_int)) (pe_ix (ix_listK (K := K)) (pe_lst (pa_cons pe_str (pa_cons pe_str (pa_cons pe_str (pa_cons pe_str pa_nil))))) (pe_call C_law_draw.ok (hr.mono (by decide)) (by rfl) C_law_draw.at_ C_law_draw.kp C_law_draw.b .nil pass0 (pa_cons (pv 0) (pa_cons pe_int pa_nil))) (fun _ _ => rfl))))) pss_nil)
      (pss_cons (ps_while PassesOwn.never (pt_cmpR (op_inSeqK (K := K)) (pv 4) (pv 2) (by rfl)) (pss_one (ps_set (i := 4) sc_law_places.nd rfl (by first | exact .inl rfl | exact .inr rfl) (pe_op op_addS (pe_op op_addS pe_str (pe_callTy cr_strOf (by rfl) T.m_str (by decide +kernel) (pa_cons (pe_callB (cr_lenK (K := K)) (by rfl) T.m_len (by decide +kernel) (pa_cons (pv 2) pa_nil)) pa_nil))) (pe_slice sl_str (pv 4) po_none (po_some pe_int))))))
      (pss_one (ps_expr (castBM (K := K) (pe_bm PySem.F.plainAttrs_list PySem.F.slot_list_append PySem.F.type_list_append mt_append (pv 2) (pa_cons (pv 4) pa_nil)))))))))
      (pss_one (ps_ret (pv 2))))), ?_⟩
    walk_at "st"
    intro l hl
    have ol := hst.out hl
    walk_at "st"
    refine lp_by (walk_range (lo := 0) (n := m.toNat)) (fun i σ' H' => ∃ x3 x4, σ' = [some (.ref s), some (.int m), some (.ref l), x3, x4] ∧ Kp [s, c] H H' ∧ St s c H' ∧
      ∃ zs : List Str, H' l = some (.lst (zs.map V.str)) ∧ zs.length = i ∧ zs.Nodup ∧ ∀ z ∈ zs, goodW (cs z) ∧ OkW i (cs z)) ⟨none, none, rfl, by walk_at "kp", by walk_at "stt", [], upd_same, rfl, List.nodup_nil, by simp⟩ (fun _ _ _ _ _ => trivial) (fun i x σ' H2 H3 hi p y => ?_) (fun σ' H2 p => ?_)
    · obtain ⟨x3, x4, rfl, k2, st2, zs, el, en, nd, hz⟩ := p
      obtain ⟨rfl, rfl⟩ := y
      have i20 : i < 20 := by omega
      walk_at "st"
      refine ⟨s, c, rfl, st2, fun z H4 k4 st4 gz lz => ?_⟩
      have el4 : H4 l = some (.lst (zs.map V.str)) := by walk_at "hl"
      have k04 : Kp [s, c] H H4 := by walk_at "kp"
      walk_at "st"
      refine r_join (fun σ' H' => ∃ z, σ' = [some (.ref s), some (.int m), some (.ref l), some (.int (0 + (i : Int))), some (.str z)] ∧ Kp [s, c] H H' ∧ St s c H' ∧ H' l = some (.lst (zs.map V.str)) ∧ goodW (cs z) ∧ OkW i (cs z)) (fun σ' H' g => ?_) (fun N hN => ?_)
      · obtain ⟨z, rfl, k5, st5, el5, gz, oz⟩ := g
        walk_at "st"
        refine ⟨fun m' σ1 H1 => ∃ t z1, m' = 17 - t ∧ t ≤ 17 ∧ σ1 = [some (.ref s), some (.int m), some (.ref l), some (.int (0 + (i : Int))), some (.str z1)] ∧ H1 = H' ∧ cs z1 = itW i t (cs z), ⟨17, 0, z, rfl, by omega, rfl, rfl, rfl⟩, fun m' σ1 H1 w => ?_⟩
        obtain ⟨t, z1, rfl, ht, rfl, rfl, ez⟩ := w
        have g1 : goodW (cs z1) := by rw [ez]; exact gz.it i20 t
        have l1 : z1.length ≤ 1000 := by rw [← cs_len]; exact Nat.le_trans g1.2.1 (by decide)
        walk_at "st"
        refine r_ite (fun h => ?_) (fun h => ?_)
        · have t17 : t < 17 := by
            rcases Nat.lt_or_ge t 17 with g | g
            · exact g
            · obtain rfl : t = 17 := by omega
              rw [itW_17 i20] at ez
              exact absurd ez ((hz z1 h).2.end i20)
          refine ⟨fun σ2 H2 => ∃ m2, m2 < 17 - t ∧ ∃ t z1, m2 = 17 - t ∧ t ≤ 17 ∧ σ2 = [some (.ref s), some (.int m), some (.ref l), some (.int (0 + (i : Int))), some (.str z1)] ∧ H2 = H1 ∧ cs z1 = itW i t (cs z), fun _ _ h => h, ?_⟩
          have e9 : ((zs.map V.str).length : Int) = (i : Int) := by rw [List.length_map, en]
          have lg : ((i : Nat) : Int).natAbs.log2 < 1920 := by
            have : ((i : Nat) : Int).natAbs = i := rfl
            rw [this]
            exact Nat.lt_of_le_of_lt (Nat.log2_le_self i) (by omega)
          walk_at "st"
          rw [e9]
          have l2 := pre_fact i20
          have lpre : (Str.ofString "q" ++ Str.ofString (toString (i : Int))).length ≤ 3 := by
            have e : cs (Str.ofString "q" ++ Str.ofString (toString (i : Int))) = preW i := by rw [cs_append]; rfl
            rw [← cs_len, e]; exact l2.2.1
          have lq : (Str.ofString "q").length + (Str.ofString (toString (i : Int))).length ≤ 3 := by
            have : (Str.ofString "q" ++ Str.ofString (toString (i : Int))).length = (Str.ofString "q").length + (Str.ofString (toString (i : Int))).length := Array.size_append
            omega
          walk_at "st"
          have lc := cutS_length z1 none (some 30)
          refine r_addS (show _ ≤ sizeLine from Nat.le_trans (show _ ≤ 1003 by omega) (by decide)) ?_
          walk_at "st"
          refine ⟨17 - (t + 1), by omega, t + 1, _, rfl, by omega, rfl, rfl, ?_⟩
          rw [cs_append, cs_append]
          show _ = stepW i (itW i t (cs z))
          rw [← ez]
          have := cs_cut z1 30
          unfold stepW preW
          rw [← this]
          rfl
        · walk_at "st"
          have okl : OkW (i + 1) (cs z1) := by
            cases t with
            | zero => rw [ez]; exact oz.mono
            | succ t => rw [ez]; exact OkW.step (gz.it i20 t)
          refine ⟨_, _, rfl, by walk_at "kp", by walk_at "stt", zs ++ [z1], by rw [upd_same, List.map_append]; rfl, by simp [en], ?_, fun y m => ?_⟩
          · exact List.nodup_append.mpr ⟨nd, by simp, fun a ha b hb e => h (by rw [List.mem_singleton.mp hb] at e; exact e ▸ ha)⟩
          · rcases List.mem_append.mp m with m | m
            · exact ⟨(hz y m).1, (hz y m).2.mono⟩
            · rw [List.mem_singleton.mp m]; exact ⟨g1, okl⟩
      · walk_at "if"
        intro p hp
        walk_at "st"
        have keep : ∀ H6, Kp [s, c] H H6 → St s c H6 → H6 l = some (.lst (zs.map V.str)) → N [some (.ref s), some (.int m), some (.ref l), some (.int (0 + (i : Int))), some (.str z)] H6 := fun H6 k6 st6 el6 => hN _ _ ⟨z, rfl, k6, st6, el6, gz, .drawn lz⟩
        refine r_iteB (fun h => ?_) (fun h => ?_)
        · have ne : zs ≠ [] := fun e => by rw [e] at h; cases h
          obtain ⟨us, y, rfl⟩ : ∃ us y, zs = us ++ [y] := ⟨zs.dropLast, zs.getLast ne, (List.dropLast_concat_getLast ne).symm⟩
          walk_at "st"
          refine ⟨s, c, 3, rfl, by walk_at "stt", by omega, fun d H6 k6 st6 hd => ?_⟩
          have el6 : H6 l = some (.lst ((us ++ [y]).map V.str)) := by walk_at "hl"
          have k06 : Kp [s, c] H H6 := by walk_at "kp"
          walk_at "st"
          refine r_iteB (fun h2 => ?_) (fun h2 => ?_)
          · have my := hz y (List.mem_append_right _ (List.mem_singleton.mpr rfl))
            have ly : y.length ≤ 1000 := by rw [← cs_len]; exact Nat.le_trans my.1.2.1 (by decide)
            have ea : atI ((us ++ [y]).map V.str) (-1) = some (.str y) := by rw [List.map_append]; exact atI_last _ _
            walk_at "st"
            intro l7 hl7
            have ol7 := st6.out hl7
            walk_at "st"
            refine ⟨s, c, 4, rfl, by walk_at "stt", by omega, fun d8 H8 k8 st8 hd8 => ?_⟩
            obtain ⟨v8, ev8, mv8⟩ := atI_in (xs := [V.str "a", V.str ".", V.str "0", V.str "z"]) hd8.1 (by simpa using hd8.2)
            obtain ⟨c8, rfl, mc8⟩ : ∃ c8, v8 = V.str ⟨#[c8]⟩ ∧ c8 ∈ tailL := by
              simp at mv8
              rcases mv8 with h | h | h | h
              · exact ⟨97, h, by decide⟩
              · exact ⟨46, h, by decide⟩
              · exact ⟨48, h, by decide⟩
              · exact ⟨122, h, by decide⟩
            have lc := cutS_length y none (some 39)
            have ls : (cutS y none (some 39)).length + (⟨#[c8]⟩ : Str).length ≤ sizeLine := Nat.le_trans (show _ ≤ 1001 from by show _ + 1 ≤ 1001; omega) (by decide)
            have el8 : H8 l = some (.lst ((us ++ [y]).map V.str)) := by walk_at "hl"
            have e7 := k8 _ _ upd_same ol7
            have k08 : Kp [s, c] H H8 := by walk_at "kp"
            walk_at "st"
            have ec : cs (cutS y none (some 39) ++ ⟨#[c8]⟩) = (cs y).take 39 ++ [c8] := by
              rw [cs_append]
              have := cs_cut y 39
              rw [← this]; rfl
            exact hN _ _ ⟨_, rfl, k08, st8, el8, by rw [ec]; exact my.1.grow mc8, by rw [ec]; exact my.2.grow i20 ⟨my.1.1, my.1.2.1⟩ mc8⟩
          · walk_at "st"
            exact keep _ k06 st6 el6
        · walk_at "st"
          exact keep _ (by walk_at "kp") (by walk_at "stt") (by walk_at "hl")
    · obtain ⟨x3, x4, rfl, k2, st2, zs, el, en, nd, hz⟩ := p
      walk_at "st"
      exact q l zs _ k2 st2 hl el (by omega) nd fun z m => (hz z m).1
end
/-! ### terms: rising, one for each place, noughts left out -/
abbrev Tr := Str × Int
def ltS (x y : Str) : Prop := cs x < cs y
def rise (ts : List Tr) : Prop := (ts.map (·.1)).Pairwise ltS
theorem ltS.ne {x y : Str} (h : ltS x y) : x ≠ y := fun e => by rw [e] at h; exact List.lt_irrefl _ h
theorem ltS.asymm {x y : Str} (h : ltS x y) (k : ltS y x) : False := List.lt_asymm h k
theorem rise.nodup {ts : List Tr} (h : rise ts) : (ts.map (·.1)).Nodup := h.imp fun r => r.ne
theorem le_trans_S {x y z : Str} (h : ¬ ltS y x) (k : ¬ ltS z y) : ¬ ltS z x := by
  unfold ltS at *
  rw [List.not_lt] at *
  exact List.le_trans h k
theorem risingS_pairwise : ∀ (p : Str) (l : List Str), risingS p l = true → (p :: l).Pairwise fun a b => ¬ ltS b a
  | p, [], _ => List.pairwise_singleton _ _
  | p, x :: r, h => by
    unfold risingS at h
    rw [Bool.and_eq_true, Bool.not_eq_true', PyProof.Rows.ltCps_eq] at h
    have h1 : ¬ ltS x p := fun z => absurd (show x.cps.toList < p.cps.toList from z) (of_decide_eq_false h.1)
    have ih := risingS_pairwise x r h.2
    refine List.pairwise_cons.mpr ⟨fun y m => ?_, ih⟩
    rcases List.mem_cons.mp m with rfl | m
    · exact h1
    · exact le_trans_S h1 ((List.pairwise_cons.mp ih).1 y m)
theorem sortedS_pairwise {l : List Str} (h : sortedS l = true) : l.Pairwise fun a b => ¬ ltS b a := by
  cases l with
  | nil => exact .nil
  | cons x r => exact risingS_pairwise x r h
theorem sortedS_rise {l : List Str} (h : sortedS l = true) (nd : l.Nodup) : l.Pairwise ltS := by
  have p := sortedS_pairwise h
  refine (p.and nd).imp fun {a b} q => ?_
  rcases Std.lt_trichotomy (cs a) (cs b) with z | z | z
  · exact z
  · exact absurd (cs_inj z) q.2
  · exact absurd z q.1
theorem rise_same {ts us : List Tr} (h : rise ts) (k : rise us) (e : ∀ x, x ∈ ts ↔ x ∈ us) : ts = us := by
  have nt : ts.Nodup := nodup_of_keysS h.nodup
  have nu : us.Nodup := nodup_of_keysS k.nodup
  refine List.Perm.eq_of_pairwise (le := fun x y : Tr => ltS x.1 y.1) (fun a b _ _ p q => (p.asymm q).elim) (List.pairwise_map.mp h) (List.pairwise_map.mp k) ((List.perm_ext_iff_of_nodup nt nu).mpr e)
where
  nodup_of_keysS {l : List Tr} (h : (l.map (·.1)).Nodup) : l.Nodup := (List.pairwise_map.mp h).imp fun p e => p (by rw [e])
/-- how much the pairs tell of a place, together -/
def coef (ps : List Tr) (z : Str) : Int := ((ps.filter fun x => decide (x.1 = z)).map (·.2)).sum
theorem coef_nil (z : Str) : coef [] z = 0 := rfl
theorem coef_cons (x : Tr) (ps : List Tr) (z : Str) : coef (x :: ps) z = (if x.1 = z then x.2 else 0) + coef ps z := by
  unfold coef
  by_cases c : x.1 = z
  · rw [List.filter_cons_of_pos (by simpa using c), List.map_cons, List.sum_cons, if_pos c]
  · rw [List.filter_cons_of_neg (by simpa using c), if_neg c, Int.zero_add]
theorem coef_app (ps qs : List Tr) (z : Str) : coef (ps ++ qs) z = coef ps z + coef qs z := by
  induction ps with
  | nil => rw [List.nil_append, coef_nil, Int.zero_add]
  | cons x ps ih => rw [List.cons_append, coef_cons, coef_cons, ih, Int.add_assoc]
theorem coef_out {ps : List Tr} {z : Str} (h : z ∉ ps.map (·.1)) : coef ps z = 0 := by
  induction ps with
  | nil => rfl
  | cons x ps ih =>
    rw [List.map_cons] at h
    rw [coef_cons, if_neg fun e => h (by rw [e]; exact List.mem_cons_self), ih fun m => h (List.mem_cons_of_mem _ m)]; rfl
theorem coef_in {ps : List Tr} {z : Str} {k : Int} (nd : (ps.map (·.1)).Nodup) (h : (z, k) ∈ ps) : coef ps z = k := by
  induction ps with
  | nil => cases h
  | cons x ps ih =>
    rw [List.map_cons] at nd
    have nd2 := List.nodup_cons.mp nd
    rcases List.mem_cons.mp h with rfl | m
    · rw [coef_cons, if_pos rfl, coef_out nd2.1]; show k + 0 = k; omega
    · have : x.1 ≠ z := fun e => nd2.1 (by rw [e]; exact List.mem_map.mpr ⟨_, m, rfl⟩)
      rw [coef_cons, if_neg this, ih nd2.2 m, Int.zero_add]
/-- the terms of a form, by p: what these pairs tell together -/
structure Canon (p : Int) (ps ts : List Tr) : Prop where
  rise : rise ts
  mem : ∀ z k, (z, k) ∈ ts ↔ k = coef ps z % p ∧ k ≠ 0
theorem Canon.same {p : Int} {ps qs ts us : List Tr} (h : Canon p ps ts) (k : Canon p qs us) (e : ∀ z, coef ps z % p = coef qs z % p) : ts = us :=
  rise_same h.rise k.rise fun x => by
    obtain ⟨z, n⟩ := x
    rw [h.mem, k.mem, e]
structure TermsOk (p : Int) (ts : List Tr) : Prop where
  rise : rise ts
  ok : ∀ x ∈ ts, goodW (cs x.1) ∧ 1 ≤ x.2 ∧ x.2 < p
theorem TermsOk.canon {p : Int} {ts : List Tr} (h : TermsOk p ts) : Canon p ts ts where
  rise := h.rise
  mem := fun z k => by
    constructor
    · intro m
      have b := (h.ok _ m).2
      rw [coef_in h.rise.nodup m, Int.emod_eq_of_lt (by omega) b.2]
      exact ⟨rfl, by omega⟩
    · rintro ⟨e, ne⟩
      by_cases m : z ∈ ts.map (·.1)
      · obtain ⟨x, hx, rfl⟩ := List.mem_map.mp m
        have b := (h.ok x hx).2
        have e2 := coef_in h.rise.nodup (show (x.1, x.2) ∈ ts from hx)
        rw [e2, Int.emod_eq_of_lt (by omega) b.2] at e
        rw [e]; exact hx
      · rw [coef_out m] at e
        exact absurd (by rw [e]; rfl) ne
theorem Canon.ok {p : Int} {ps ts : List Tr} (hp : 0 < p) (h : Canon p ps ts) (g : ∀ x ∈ ps, goodW (cs x.1)) : TermsOk p ts where
  rise := h.rise
  ok := fun x m => by
    obtain ⟨z, k⟩ := x
    obtain ⟨e, ne⟩ := (h.mem z k).mp m
    have e0 := Int.emod_nonneg (coef ps z) (show p ≠ 0 by omega)
    have e1 := Int.emod_lt_of_pos (coef ps z) hp
    refine ⟨?_, by show 1 ≤ k; omega, by show k < p; omega⟩
    by_cases m2 : z ∈ ps.map (·.1)
    · obtain ⟨y, hy, rfl⟩ := List.mem_map.mp m2
      exact g y hy
    · rw [coef_out m2] at e
      exact absurd (by rw [e]; rfl) ne
/-! ### tables: a dict from texts to numbers -/
def encT (D : List Tr) : List (Key × V) := D.map fun x => (Sum.inr x.1, V.int x.2)
def getT (D : List Tr) (z : Str) : Option Int := (D.find? fun x => decide (x.1 = z)).map (·.2)
def putT (D : List Tr) (z : Str) (k : Int) : List Tr := if (D.any fun x => decide (x.1 = z)) = true then D.map (fun x => if x.1 = z then (x.1, k) else x) else D ++ [(z, k)]
theorem enc_get (D : List Tr) (z : Str) : valV (encT D) (Sum.inr z) = (getT D z).map V.int := by
  unfold valV getT encT
  rw [List.find?_map, Option.map_map, Option.map_map]
  have e : ((fun kv : Key × V => decide (kv.1 = Sum.inr z)) ∘ fun x : Tr => ((Sum.inr x.1 : Key), V.int x.2)) = fun x : Tr => decide (x.1 = z) := by
    funext x
    show decide ((Sum.inr x.1 : Key) = Sum.inr z) = _
    exact decide_eq_decide.mpr ⟨fun h => Sum.inr.inj h, fun h => by rw [h]⟩
  rw [e]; rfl
theorem enc_put (D : List Tr) (z : Str) (k : Int) : putK (encT D) (Sum.inr z) (V.int k) = encT (putT D z k) := by
  unfold putK putT
  have e : (encT D).any (fun kv => decide (kv.1 = Sum.inr z)) = D.any fun x => decide (x.1 = z) := by
    unfold encT
    rw [List.any_map]
    congr 1
    funext x
    show decide ((Sum.inr x.1 : Key) = Sum.inr z) = _
    exact decide_eq_decide.mpr ⟨fun h => Sum.inr.inj h, fun h => by rw [h]⟩
  rw [e]
  by_cases c : (D.any fun x => decide (x.1 = z)) = true
  · rw [if_pos c, if_pos c]
    unfold encT
    rw [List.map_map, List.map_map]
    refine List.map_congr_left fun x _ => ?_
    show (if (Sum.inr x.1 : Key) = Sum.inr z then (Sum.inr x.1, V.int k) else (Sum.inr x.1, V.int x.2)) = _
    by_cases d : x.1 = z
    · rw [if_pos (by rw [d])]
      show _ = ((Sum.inr (if x.1 = z then (x.1, k) else x).1 : Key), V.int (if x.1 = z then (x.1, k) else x).2)
      rw [if_pos d]
    · rw [if_neg fun h => d (Sum.inr.inj h)]
      show _ = ((Sum.inr (if x.1 = z then (x.1, k) else x).1 : Key), V.int (if x.1 = z then (x.1, k) else x).2)
      rw [if_neg d]
  · rw [if_neg c, if_neg c]
    unfold encT
    rw [List.map_append]; rfl
theorem any_key (D : List Tr) (z : Str) : (D.any fun x => decide (x.1 = z)) = true ↔ z ∈ D.map (·.1) := by
  rw [List.any_eq_true, List.mem_map]
  exact ⟨fun ⟨x, m, e⟩ => ⟨x, m, of_decide_eq_true e⟩, fun ⟨x, m, e⟩ => ⟨x, m, decide_eq_true e⟩⟩
theorem putT_keys (D : List Tr) (z : Str) (k : Int) : (putT D z k).map (·.1) = if z ∈ D.map (·.1) then D.map (·.1) else D.map (·.1) ++ [z] := by
  unfold putT
  by_cases c : z ∈ D.map (·.1)
  · rw [if_pos c, if_pos ((any_key D z).mpr c), List.map_map]
    refine List.map_congr_left fun x _ => ?_
    show (if x.1 = z then (x.1, k) else x).1 = x.1
    by_cases d : x.1 = z
    · rw [if_pos d]
    · rw [if_neg d]
  · rw [if_neg c, if_neg fun h => c ((any_key D z).mp h), List.map_append]; rfl
theorem getT_put (D : List Tr) (z y : Str) (k : Int) : getT (putT D z k) y = if y = z then some k else getT D y := by
  have h := valV_put (encT D) (Sum.inr z) (Sum.inr y) (V.int k)
  rw [enc_put, enc_get, enc_get] at h
  have inj : ∀ a b : Option Int, a.map V.int = b.map V.int → a = b := fun a b e => by
    cases a <;> cases b <;> simp at e <;> simp [e]
  by_cases c : y = z
  · subst c
    rw [if_pos rfl] at h ⊢
    exact inj _ (some k) h
  · rw [if_neg fun e => c (Sum.inr.inj e)] at h
    rw [if_neg c]
    exact inj _ _ h
theorem getT_out {D : List Tr} {z : Str} (h : z ∉ D.map (·.1)) : getT D z = none := by
  unfold getT
  rw [List.find?_eq_none.mpr fun x m e => h (List.mem_map.mpr ⟨x, m, of_decide_eq_true e⟩)]; rfl
theorem getT_in {D : List Tr} (nd : (D.map (·.1)).Nodup) {z : Str} {k : Int} (h : (z, k) ∈ D) : getT D z = some k := by
  induction D with
  | nil => cases h
  | cons x D ih =>
    rw [List.map_cons] at nd
    have nd2 := List.nodup_cons.mp nd
    unfold getT
    rcases List.mem_cons.mp h with rfl | m
    · rw [List.find?_cons_of_pos (by simp)]; rfl
    · have : x.1 ≠ z := fun e => nd2.1 (by rw [e]; exact List.mem_map.mpr ⟨_, m, rfl⟩)
      rw [List.find?_cons_of_neg (by simpa using this)]
      exact ih nd2.2 m
theorem putT_nodup {D : List Tr} (nd : (D.map (·.1)).Nodup) (z : Str) (k : Int) : ((putT D z k).map (·.1)).Nodup := by
  rw [putT_keys]
  by_cases c : z ∈ D.map (·.1)
  · rw [if_pos c]; exact nd
  · rw [if_neg c]
    exact List.nodup_append.mpr ⟨nd, by simp, fun a ha b hb e => c (by rw [List.mem_singleton.mp hb] at e; exact e ▸ ha)⟩
theorem putT_mem (D : List Tr) (z y : Str) (k : Int) : y ∈ (putT D z k).map (·.1) ↔ y ∈ D.map (·.1) ∨ y = z := by
  rw [putT_keys]
  by_cases c : z ∈ D.map (·.1)
  · rw [if_pos c]
    exact ⟨.inl, fun h => h.elim id fun e => e ▸ c⟩
  · rw [if_neg c, List.mem_append, List.mem_singleton]
theorem putT_len (D : List Tr) (z : Str) (k : Int) : (putT D z k).length ≤ D.length + 1 := by
  have := congrArg List.length (putT_keys D z k)
  rw [List.length_map] at this
  rw [this]
  split
  · rw [List.length_map]; omega
  · simp
/-! ### forms as they stand -/
def TrV (H : Hp) (v : V) (x : Tr) : Prop := ∃ t, v = .ref t ∧ H t = some (.tup [.str x.1, .int x.2])
def Trs (H : Hp) (us : List V) (ts : List Tr) : Prop := us.length = ts.length ∧ ∀ (i : Nat) (v : V), us[i]? = some v → ∃ x, ts[i]? = some x ∧ TrV H v x
def FrmV (H : Hp) (v : V) (n : Int) (ts : List Tr) : Prop := ∃ a b us, v = .ref a ∧ H a = some (.tup [.int n, .ref b]) ∧ H b = some (.tup us) ∧ Trs H us ts
structure FormOk (q n : Int) (ts : List Tr) : Prop where
  num : 0 ≤ n ∧ n < q
  ok : TermsOk q ts
/-- H' has all tuples of H -/
def Tups (H H' : Hp) : Prop := ∀ a xs, H a = some (.tup xs) → H' a = some (.tup xs)
theorem Tups.refl {H : Hp} : Tups H H := fun _ _ h => h
theorem Tups.trans {H H1 H2 : Hp} (a : Tups H H1) (b : Tups H1 H2) : Tups H H2 := fun _ _ h => b _ _ (a _ _ h)
theorem Tups.same {H H' : Hp} (k : Same H H') : Tups H H' := fun _ _ h => k _ _ h
theorem Tups.st {s c : Addr} {H H' : Hp} (k : Kp [s, c] H H') (t : St s c H) : Tups H H' := fun a xs h => k _ _ h fun z => by
  obtain ⟨_, cs, j, r, h2⟩ := t
  rcases List.mem_cons.mp z with e1 | z
  · rw [e1, h2.hs] at h; cases h
  · rw [List.mem_singleton.mp z, h2.hc] at h; cases h
theorem Tups.lst {H : Hp} {l : Addr} {xs : List V} {o : HO} (e : H l = some (.lst xs)) : Tups H (upd H l o) := fun a xs h => hl_set (fun z => by rw [z, e] at h; cases h) h
theorem Tups.dk {H : Hp} {l : Addr} {xs : List (Key × V)} {o : HO} (e : H l = some (.dK xs)) : Tups H (upd H l o) := fun a xs h => hl_set (fun z => by rw [z, e] at h; cases h) h
theorem TrV.to {H H' : Hp} {v : V} {x : Tr} (h : TrV H v x) (k : Tups H H') : TrV H' v x := by
  obtain ⟨t, e, h1⟩ := h
  exact ⟨t, e, k _ _ h1⟩
theorem Trs.to {H H' : Hp} {us : List V} {ts : List Tr} (h : Trs H us ts) (k : Tups H H') : Trs H' us ts := ⟨h.1, fun i v e => (h.2 i v e).imp fun _ y => ⟨y.1, y.2.to k⟩⟩
theorem FrmV.to {H H' : Hp} {v : V} {n : Int} {ts : List Tr} (h : FrmV H v n ts) (k : Tups H H') : FrmV H' v n ts := by
  obtain ⟨a, b, us, e, h1, h2, h3⟩ := h
  exact ⟨a, b, us, e, k _ _ h1, k _ _ h2, h3.to k⟩
theorem Trs.nil {H : Hp} : Trs H [] [] := ⟨rfl, fun i v e => by simp at e⟩
theorem Trs.append {H : Hp} {us vs : List V} {ts qs : List Tr} (h : Trs H us ts) (k : Trs H vs qs) : Trs H (us ++ vs) (ts ++ qs) :=
  ⟨by rw [List.length_append, List.length_append, h.1, k.1], fun i v e => by
    by_cases lt : i < us.length
    · rw [List.getElem?_append_left lt] at e
      rw [List.getElem?_append_left (by rw [← h.1]; exact lt)]
      exact h.2 i v e
    · rw [List.getElem?_append_right (by omega)] at e
      rw [List.getElem?_append_right (by rw [← h.1]; omega), ← h.1]
      exact k.2 _ v e⟩
theorem Trs.one {H : Hp} {v : V} {x : Tr} (h : TrV H v x) : Trs H [v] [x] := ⟨rfl, fun i u e => by
  cases i with
  | zero => exact ⟨x, rfl, (Option.some.inj (show some v = some u from e)) ▸ h⟩
  | succ i => simp at e⟩
theorem cr_sortedSK {X : Cx} {K : PySem.W.Frag} (q : X.K = K := by rfl) : CallR X (.builtin "sorted") (rSortedS K) := q ▸ cr_sortedS
section
variable {K : PySem.W.Frag} {H : Hp} {Q : VK}
theorem r_sortS {a : Addr} {xs : List Str} (h : SqL K H a (xs.map V.str)) (z : xs.length < 64) (q : ∀ (ys : List Str) (p : Addr), ys.Perm xs → sortedS ys = true → H p = none → Q (.ref p) (upd H p (.lst (ys.map V.str)))) : rSortedS K [.ref a] H Q := ⟨a, xs, rfl, h, z, q⟩
end
theorem getElem?_map_str {ns : List Str} {i : Nat} {x : V} (e : (ns.map V.str)[i]? = some x) : ∃ n, ns[i]? = some n ∧ x = .str n := by
  rw [List.getElem?_map] at e
  cases h : ns[i]? with
  | none => rw [h] at e; cases e
  | some n => rw [h] at e; exact ⟨n, rfl, (Option.some.inj e).symm⟩
def sp_law_form (_ : PySem.W.Frag) : Sp := fun vs H Q _ => ∃ (s c l : Addr) (q : Int) (zs : List Str), vs = [.ref s, .ref l, .int q] ∧ St s c H ∧ H l = some (.lst (zs.map V.str)) ∧ l ∉ [s, c] ∧ zs.Nodup ∧ zs.length < 64 ∧ (∀ z ∈ zs, goodW (cs z)) ∧ (2 ≤ q ∧ q ≤ 997) ∧
  ∀ (a : Addr) (n : Int) (ts : List Tr) (H' : Hp), Kp [s, c] H H' → St s c H' → FrmV H' (.ref a) n ts → FormOk q n ts → (∀ x ∈ ts, x.1 ∈ zs) → ts.length ≤ zs.length → Q (.ref a) H'
section
variable {P : Program} {w : World} {K : PySem.W.Frag} {mg : Str → Option Value} {base : Heap}
theorem ok_law_form (T : Tx K mg) {f_law_draw : Addr} {fd_law_draw : FuncData} (C_law_draw : Cal P w K mg base "_law_draw" 1 ["state", "many"] (sp_law_draw K) s_law_draw f_law_draw fd_law_draw) {f : Addr} {fd : FuncData} (F : Here K mg "_law_form" s_law_form ["state", "places", "q"] f fd) : Cal P w K mg base "_law_form" 2 ["state", "places", "q"] (sp_law_form K) s_law_form f fd := by
  refine F.cal sc_law_form (fun vs H Q E h => ?_) (fun cdv A outer s H vs Q E hr h => ?_)
  · obtain ⟨s, c, l, q, zs, rfl, _⟩ := h
    rfl
  · obtain ⟨s, c, l, q, zs, rfl, hst, hl, nl, nd, lz, gz, hq, fin⟩ := h
    refine ⟨_, (pss_cons (ps_set (i := 3) sc_law_form.nd rfl (by first | exact .inl rfl | exact .inr rfl) (pe_lst pa_nil))
      (pss_cons (ps_for PassesOwn.never rfl (pi_listK (K := K) (pe_callB (cr_sortedSK (K := K)) (by rfl) T.m_sorted (by decide +kernel) (pa_cons (pv 1) pa_nil))) (pg_name (i := 4) sc_law_form.nd rfl (by first | exact .inl rfl | exact .inr rfl)) (pss_cons (ps_set (i := 5) sc_law_form.nd rfl (by first | exact .inl rfl | exact .inr rfl) (pe_ix (ix_listK (K := K)) (pe_lst (pa_cons pe_int (pa_cons pe_int (pa_cons (pe_op op_sub (pv 2) pe_int) (pa_cons (pe_call C_law_draw.ok (hr.mono (by decide)) (by rfl) C_law_draw.at_ C_law_draw.kp C_law_draw.b .nil pass0 (pa_cons (pv 0) (pa_cons (pv 2) pa_nil))) pa_nil))))) (pe_call C_law_draw.ok (hr.mono (by decide)) (by rfl) C_law_draw.at_ C_law_draw.kp C_law_draw.b .nil pass0 (pa_cons (pv 0) (pa_cons pe_int pa_nil))) (fun _ _ => rfl)))
      (pss_one (ps_if (pt_cmpR op_gt (pv 5) pe_int (nomark _)) (pss_one (ps_expr (castBM (K := K) (pe_bm PySem.F.plainAttrs_list PySem.F.slot_list_append PySem.F.type_list_append mt_append (pv 3) (pa_cons (pe_tup (pa_cons (pv 4) (pa_cons (pv 5) pa_nil))) pa_nil))))) pss_nil))))
      (pss_one (ps_ret (pe_tup (pa_cons (pe_ix (ix_listK (K := K)) (pe_lst (pa_cons pe_int (pa_cons pe_int (pa_cons (pe_op op_sub (pv 2) pe_int) (pa_cons (pe_call C_law_draw.ok (hr.mono (by decide)) (by rfl) C_law_draw.at_ C_law_draw.kp C_law_draw.b .nil pass0 (pa_cons (pv 0) (pa_cons (pv 2) pa_nil))) pa_nil))))) (pe_call C_law_draw.ok (hr.mono (by decide)) (by rfl) C_law_draw.at_ C_law_draw.kp C_law_draw.b .nil pass0 (pa_cons (pv 0) (pa_cons pe_int pa_nil))) (fun _ _ => rfl)) (pa_cons (pe_callTy (cr_tupOfK (K := K)) (by rfl) T.m_tuple (by decide +kernel) (pa_cons (pv 3) pa_nil)) pa_nil))))))), ?_⟩
    walk_at "st"
    intro lt hlt
    have olt := hst.out hlt
    have nlt : l ≠ lt := ne_of_none hl hlt
    walk_at "st"
    refine r_sortS (SqL.of (hl_new hl hlt)) lz fun ys p pm so hp => ?_
    have st1 : St s c (upd H lt (.lst [])) := hst.new hlt
    have op := st1.out hp
    have np : lt ≠ p := ne_of_none upd_same hp
    have ri := sortedS_rise so (pm.symm.nodup nd)
    have gy : ∀ z ∈ ys, goodW (cs z) ∧ z ∈ zs := fun z m => ⟨gz z (pm.mem_iff.mp m), pm.mem_iff.mp m⟩
    walk_at "st"
    refine lp_by (walk_list (a := p) (xs := ys.map V.str)) (fun i σ' H' => ∃ x4 x5, σ' = [some (.ref s), some (.ref l), some (.int q), some (.ref lt), x4, x5] ∧ Kp [s, c] H H' ∧ St s c H' ∧ H' p = some (.lst (ys.map V.str)) ∧
      ∃ us ts, H' lt = some (.lst us) ∧ Trs H' us ts ∧ (ts.map (·.1)).Sublist (ys.take i) ∧ ∀ x ∈ ts, 1 ≤ x.2 ∧ x.2 < q) ⟨none, none, rfl, by walk_at "kp", by walk_at "stt", upd_same, [], [], by walk_at "hl", Trs.nil, List.Sublist.refl _, by simp⟩ (fun i σ' H' _ g => ?_) (fun i x σ' H2 H3 hi g y => ?_) (fun σ' H2 g => ?_)
    · obtain ⟨_, _, _, _, _, ep, _⟩ := g
      exact SqL.of ep
    · obtain ⟨x4, x5, rfl, k2, st2, ep, us, ts, et, ht, sb, bd⟩ := g
      obtain ⟨rfl, ex⟩ := y
      obtain ⟨z, ez, rfl⟩ := getElem?_map_str ex
      have lts : ts.length ≤ 64 := by
        have := sb.length_le
        rw [List.length_map, List.length_take] at this
        have := pm.length_eq
        omega
      walk_at "st"
      refine ⟨s, c, q, rfl, st2, by omega, fun d4 H4 k4 st4 hd4 => ?_⟩
      walk_at "st"
      intro l5 hl5
      have ol5 := st4.out hl5
      walk_at "st"
      refine ⟨s, c, 4, rfl, by walk_at "stt", by omega, fun d6 H6 k6 st6 hd6 => ?_⟩
      obtain ⟨v6, ev6, mv6⟩ := atI_in (xs := [V.int 0, V.int 1, V.int (q - 1), V.int d4]) hd6.1 (by simpa using hd6.2)
      obtain ⟨n6, rfl, hn6⟩ : ∃ n, v6 = V.int n ∧ (0 ≤ n ∧ n < q) := by
        simp at mv6
        rcases mv6 with h | h | h | h <;> exact ⟨_, h, by omega⟩
      have e5 := k6 _ _ upd_same ol5
      have k5 : Kp [s, c] H4 (upd H4 l5 (.lst [V.int 0, V.int 1, V.int (q - 1), V.int d4])) := Kp.new hl5
      have et6 : H6 lt = some (.lst us) := k6 _ _ (k5 _ _ (k4 _ _ et olt) olt) olt
      have ep6 : H6 p = some (.lst (ys.map V.str)) := k6 _ _ (k5 _ _ (k4 _ _ ep op) op) op
      have T6 := (Tups.st k4 st2).trans ((Tups.same (Same.upd_new hl5)).trans (Tups.st k6 (st4.new hl5)))
      have k06 : Kp [s, c] H H6 := ((k2.trans k4).trans k5).trans k6
      walk_at "st"
      walk_at "if"
      have sb' : (ts.map (·.1)).Sublist (ys.take (i + 1)) := sb.trans (by rw [List.take_succ]; exact List.sublist_append_left _ _)
      refine r_ite (fun h => ?_) (fun h => ?_)
      · walk_at "st"
        intro t ht8
        have lu : us.length ≤ 64 := by rw [ht.1]; exact lts
        have ht6 := hl_new et6 ht8 (u := .tup [V.str z, V.int n6])
        walk_at "st"
        have nt : t ≠ lt := (ne_of_none et6 ht8).symm
        refine ⟨_, _, rfl, by walk_at "kp", by walk_at "stt", by walk_at "hl", us ++ [.ref t], ts ++ [(z, n6)], upd_same, ?_, ?_, fun x m => ?_⟩
        · exact ((ht.to (T6.trans (Tups.same (Same.upd_new ht8)))).append (Trs.one ⟨t, rfl, upd_same⟩)).to (Tups.lst ht6)
        · rw [List.map_append, List.take_succ, ez]
          exact sb.append (List.Sublist.refl _)
        · rcases List.mem_append.mp m with m | m
          · exact bd x m
          · rw [List.mem_singleton.mp m]; exact ⟨by show 1 ≤ n6; omega, hn6.2⟩
      · walk_at "st"
        exact ⟨_, _, rfl, k06, st6, ep6, us, ts, et6, ht.to T6, sb', bd⟩
    · obtain ⟨x4, x5, rfl, k2, st2, ep, us, ts, et, ht, sb, bd⟩ := g
      rw [List.take_of_length_le (by rw [List.length_map]; exact Nat.le_refl _)] at sb
      walk_at "st"
      refine ⟨s, c, q, rfl, st2, by omega, fun d4 H4 k4 st4 hd4 => ?_⟩
      walk_at "st"
      intro l5 hl5
      have ol5 := st4.out hl5
      walk_at "st"
      refine ⟨s, c, 4, rfl, by walk_at "stt", by omega, fun d6 H6 k6 st6 hd6 => ?_⟩
      obtain ⟨v6, ev6, mv6⟩ := atI_in (xs := [V.int 0, V.int 1, V.int (q - 1), V.int d4]) hd6.1 (by simpa using hd6.2)
      obtain ⟨n6, rfl, hn6⟩ : ∃ n, v6 = V.int n ∧ (0 ≤ n ∧ n < q) := by
        simp at mv6
        rcases mv6 with h | h | h | h <;> exact ⟨_, h, by omega⟩
      have e5 := k6 _ _ upd_same ol5
      have k5 : Kp [s, c] H4 (upd H4 l5 (.lst [V.int 0, V.int 1, V.int (q - 1), V.int d4])) := Kp.new hl5
      have et6 : H6 lt = some (.lst us) := k6 _ _ (k5 _ _ (k4 _ _ et olt) olt) olt
      have T6 := (Tups.st k4 st2).trans ((Tups.same (Same.upd_new hl5)).trans (Tups.st k6 (st4.new hl5)))
      have k06 : Kp [s, c] H H6 := ((k2.trans k4).trans k5).trans k6
      walk_at "st"
      intro b hb
      walk_at "st"
      intro a ha
      have S8 : Same H6 (upd (upd H6 b (.tup us)) a (.tup [V.int n6, V.ref b])) := (Same.upd_new hb).trans (Same.upd_new ha)
      refine fin a n6 ts _ (by walk_at "kp") (by walk_at "stt") ⟨a, b, us, rfl, upd_same, hl_new upd_same ha, ht.to (T6.trans (Tups.same S8))⟩ ⟨hn6, ri.sublist sb, fun x m => ?_⟩ (fun x m => ?_) (by have := sb.length_le; rw [List.length_map, pm.length_eq] at this; exact this)
      · exact ⟨(gy _ (sb.subset (List.mem_map.mpr ⟨x, m, rfl⟩))).1, bd x m⟩
      · exact (gy _ (sb.subset (List.mem_map.mpr ⟨x, m, rfl⟩))).2
end
/-! ### dicts from texts to numbers: their readings -/
def DG3 (d : Addr) (Q : VK) (y z : V) (H : Hp) : Prop := ∃ o, DGet H d y o ∧ Q (o.getD z) H
def DG2 (ty tx : TE) (σ : L2.St) (Q : VK) (x : V) (H1 : Hp) : Prop := ∃ a, x = .ref a ∧ IsD H1 a ∧ ty σ H1 fun y H2 => tx σ H2 fun z H3 => DG3 a Q y z H3
def DG1 (Q : VK) (x y : V) (H2 : Hp) : Prop := ∃ a v, x = .ref a ∧ DGet H2 a y (some v) ∧ Q v H2
def rSortedD : List V → Hp → VK → Prop := fun xs H Q => ∃ (a : Addr) (kvs : List (Key × V)) (ks : List Str), xs = [.ref a] ∧ Rd H a (.dK kvs) ∧ kvs.map (·.1) = ks.map Sum.inr ∧ ks.length < 64 ∧
    ∀ ys p, ys.Perm ks → sortedS ys = true → H p = none → Q (.ref p) (upd H p (.lst (ys.map V.str)))
theorem cr_sortedD {X : Cx} (hc : X.calm = true) : CallR X (.builtin "sorted") rSortedD := call_sortedD hc
section
variable {K : PySem.W.Frag} {D : Ends} {σ : L2.St} {H : Hp} {Q : VK}
theorem r_par {i j : Nat} {ta : TA} (h : ta σ H fun vs H1 => ∃ v w, vs = [v, w] ∧ D.nx ((σ.set i (some v)).set j (some w)) H1) : tPar i j ta D σ H := h
theorem r_parx {v w : V} {R : V → V → Prop} (h : R v w) : ∃ v' w', [v, w] = [v', w'] ∧ R v' w' := ⟨v, w, rfl, h⟩
theorem r_gtup {n : Nat} {t : TGs} {a : Addr} {xs : List V} {N : L2.St → Hp → Prop} (h : SqT K H a xs) (e : xs.length = n) (q : t xs σ H N) : gTup K n t (.ref a) σ H N := ⟨a, xs, rfl, h, e, q⟩
theorem r_gcons {t : TG} {u : TGs} {v : V} {r : List V} {N : L2.St → Hp → Prop} (q : t v σ H fun σ' H' => u r σ' H' N) : gCons t u (v :: r) σ H N := ⟨v, r, rfl, q⟩
theorem r_gnil {N : L2.St → Hp → Prop} (q : N σ H) : gNil [] σ H N := ⟨rfl, q⟩
end
section
variable {σ : L2.St} {H : Hp} {Q : VK}
theorem r_dget2 {td ty tx : TE} (h : td σ H (DG2 ty tx σ Q)) : tDGet2 td ty tx σ H Q := h
theorem r_dg2 {ty tx : TE} {d : Addr} {D : List Tr} (e : H d = some (.dK (encT D))) (h : ty σ H fun y H2 => tx σ H2 fun z H3 => DG3 d Q y z H3) : DG2 ty tx σ Q (.ref d) H := ⟨d, rfl, .inl ⟨_, .inl e⟩, h⟩
theorem r_dg3 {d : Addr} {D : List Tr} {z : Str} {n : Int} (e : H d = some (.dK (encT D))) (q : Q (.int ((getT D z).getD n)) H) : DG3 d Q (.str z) (.int n) H :=
  ⟨_, DGet.k (k := Sum.inr z) e, by
    rw [enc_get]
    cases h : getT D z with
    | none => rw [h] at q; exact q
    | some k => rw [h] at q; exact q⟩
theorem r_dget {td ty : TE} (h : td σ H fun x H1 => ty σ H1 fun y H2 => DG1 Q x y H2) : tDGet td ty σ H Q := h
theorem r_dgv {d : Addr} {D : List Tr} {z : Str} {k : Int} (e : H d = some (.dK (encT D))) (g : getT D z = some k) (q : Q (.int k) H) : DG1 Q (.ref d) (.str z) H :=
  ⟨d, _, rfl, by
    have := DGet.k (k := Sum.inr z) e
    rw [enc_get, g] at this
    exact this, q⟩
theorem r_setD {d : Addr} {D : List Tr} {z : Str} {k : Int} {N : Hp → Prop} (e : H d = some (.dK (encT D))) (l : D.length ≤ 1000) (q : N (upd H d (.dK (encT (putT D z k))))) : rSetD (.ref d) (.str z) (.int k) H N :=
  ⟨d, _, rfl, by
    have := DPut.k (k := Sum.inr z) (v := .int k) e (by unfold encT; rw [List.length_map]; exact Nat.lt_of_le_of_lt l (by decide))
    rw [enc_put] at this
    exact this, q⟩
theorem r_sortD {d : Addr} {D : List Tr} (e : H d = some (.dK (encT D))) (l : D.length < 64) (q : ∀ (ys : List Str) (p : Addr), ys.Perm (D.map (·.1)) → sortedS ys = true → H p = none → Q (.ref p) (upd H p (.lst (ys.map V.str)))) : rSortedD [.ref d] H Q :=
  ⟨d, _, D.map (·.1), rfl, .inl e, by unfold encT; rw [List.map_map, List.map_map]; rfl, by rw [List.length_map]; exact l, q⟩
def DP (p : Addr) (Q : VK) (ps : List (V × V)) (H2 : Hp) : Prop := H2 p = some (.dK []) ∧ ∃ kvs : List (Key × V), ps = kvs.map (fun kv => (kV kv.1, kv.2)) ∧ kvs.length ≤ 15 ∧ Q (.ref p) (upd H2 p (.dK (mergeK [] kvs)))
theorem r_disp {trs : List (TE × TE)} (h : ∀ p, H p = none → tPairs trs σ (upd H p (.dK [])) (DP p Q)) : tDisp trs σ H Q := h
theorem r_tp1 {tk tv : TE} {r : List (TE × TE)} {R : List (V × V) → Hp → Prop} (h : tk σ H fun x H1 => tv σ H1 fun y H2 => tPairs r σ H2 fun ps H3 => R ((x, y) :: ps) H3) : tPairs ((tk, tv) :: r) σ H R := h
theorem r_tp0 {R : List (V × V) → Hp → Prop} (h : R [] H) : tPairs [] σ H R := h
theorem r_dp1 {p : Addr} {z : Str} {n : Int} (h : H p = some (.dK [])) (q : Q (.ref p) (upd H p (.dK (encT [(z, n)])))) : DP p Q [(V.str z, V.int n)] H := ⟨h, [(Sum.inr z, .int n)], rfl, by simp, q⟩
theorem r_dnewK (h : ∀ p, H p = none → Q (.ref p) (upd H p (.dK (encT [])))) : tDNewK σ H Q := h
end
local macro_rules | `(tactic| walk_at "st1") => `(tactic| first
  | with_reducible refine r_par ?_
  | with_reducible refine r_parx ?_
  | ((with_reducible refine' r_gtup ?e1 ?e2 ?_); (case e1 => walk_at "sq"); (case e2 => rfl))
  | with_reducible refine r_gcons ?_
  | with_reducible refine r_gnil ?_
  | with_reducible refine r_disp ?_
  | with_reducible refine r_tp1 ?_
  | with_reducible refine r_tp0 ?_
  | ((with_reducible refine' r_dp1 ?e1 ?_); (case e1 => walk_at "hl"))
  | with_reducible refine r_dnewK ?_
  | with_reducible refine r_dget2 ?_
  | ((with_reducible refine' r_dg2 ?e1 ?_); (case e1 => walk_at "hl"))
  | ((with_reducible refine' r_dg3 ?e1 ?_); (case e1 => walk_at "hl"))
  | with_reducible refine r_dget ?_
  | ((with_reducible refine' r_dgv ?e1 ?e2 ?_); (case e1 => walk_at "hl"); (case e2 => assumption))
  | ((with_reducible refine' r_setD ?e1 ?e2 ?_); (case e1 => walk_at "hl"); (case e2 => omega)))
def sp_new_form (_ : PySem.W.Frag) : Sp := fun vs H Q _ => ∃ (l : Addr) (n p : Int) (us : List V) (ps : List Tr), vs = [.int n, .ref l, .int p] ∧ H l = some (.lst us) ∧ Trs H us ps ∧ ps.length < 64 ∧ (2 ≤ p ∧ p ≤ 997) ∧
  ∀ (a : Addr) (ts : List Tr) (H' : Hp), Same H H' → FrmV H' (.ref a) (n % p) ts → Canon p ps ts → Q (.ref a) H'
section
variable {P : Program} {w : World} {K : PySem.W.Frag} {mg : Str → Option Value} {base : Heap}
theorem ok_new_form (T : Tx K mg)  {f : Addr} {fd : FuncData} (F : Here K mg "new_form" s_new_form ["n", "pairs", "p"] f fd) : Cal P w K mg base "new_form" 1 ["n", "pairs", "p"] (sp_new_form K) s_new_form f fd := by
  refine F.cal sc_new_form (fun vs H Q E h => ?_) (fun cdv A outer s H vs Q E hr h => ?_)
  · obtain ⟨l, n, p, us, ps, rfl, _⟩ := h
    rfl
  · obtain ⟨l, n, p, us, ps, rfl, hl, hu, lp, hp, q⟩ := h
    have lu : us.length < 64 := by rw [hu.1]; exact lp
    refine ⟨_, (pss_cons (ps_set (i := 3) sc_new_form.nd rfl (by first | exact .inl rfl | exact .inr rfl) pe_dnewK)
      (pss_cons (ps_for PassesOwn.never rfl (pi_listK (K := K) (pv 1)) (castPG (K := K) (n := 2) (pg_tup rfl (pgs_cons (pg_name (i := 4) sc_new_form.nd rfl (by first | exact .inl rfl | exact .inr rfl)) (pgs_cons (pg_name (i := 5) sc_new_form.nd rfl (by first | exact .inl rfl | exact .inr rfl)) pgs_nil)))) (pss_one (ps_asg (pe_op op_mod (pe_op op_add (pe_dget2 (hu_of hr) (pv 3) (pv 4) pe_int ⟨by rfl, by rfl, by rfl, by rfl⟩) (pv 5)) (pv 2)) (pg_sub (pv 3) (pv 4) (set_dict (hu_of hr))))))
      (pss_one (ps_ret (pe_tup (pa_cons (pe_op op_mod (pv 0) (pv 2)) (pa_cons (pe_callTy (cr_tupOfK (K := K)) (by rfl) T.m_tuple (by decide +kernel) (pa_cons (pe_lc rfl sc_new_form.nd (pi_listK (K := K) (pe_callB (cr_sortedD rfl) (by rfl) T.m_sorted (by decide +kernel) (pa_cons (pv 3) pa_nil))) (blkOk_by (own := [("place", 4)]) (N := ["n", "pairs", "p", "worths", "place", "k"]) (sc := (defScope s_new_form)) (by decide +kernel)) (fun _ _ _ _ _ => (pg_name (i := 4) sc_new_form.nd rfl (by first | exact .inl rfl | exact .inr rfl))) (fun _ _ _ _ _ => (pts_one (pt_cmpR op_ne (pe_dget (hu_of hr) (pv 3) (pv 4) (fun _ _ => rfl)) pe_int (nomark _)))) (fun _ _ _ _ _ => (pe_tup (pa_cons (pv 4) (pa_cons (pe_dget (hu_of hr) (pv 3) (pv 4) (fun _ _ => rfl)) pa_nil))))) pa_nil)) pa_nil))))))), ?_⟩
    walk_at "st"
    intro d hd
    walk_at "st"
    refine lp_by (walk_list (a := l) (xs := us)) (fun i σ' H' => ∃ x4 x5, σ' = [some (.int n), some (.ref l), some (.int p), some (.ref d), x4, x5] ∧ Same H H' ∧
      ∃ D, H' d = some (.dK (encT D)) ∧ (D.map (·.1)).Nodup ∧ D.length ≤ i ∧ ∀ z, (getT D z).getD 0 = coef (ps.take i) z % p) ⟨none, none, rfl, Same.upd_new hd, [], upd_same, List.nodup_nil, Nat.le_refl _, fun z => by simp [getT, coef]⟩ (fun i σ' H' _ g => ?_) (fun i x σ' H2 H3 hi g y => ?_) (fun σ' H2 g => ?_)
    · obtain ⟨_, _, _, sm, _⟩ := g
      exact SqL.of (sm _ _ hl)
    · obtain ⟨x4, x5, rfl, sm, D, eD, nd, lD, hD⟩ := g
      obtain ⟨rfl, ex⟩ := y
      obtain ⟨⟨z, k⟩, ez, t, rfl, ht⟩ := hu.2 i x ex
      have ht2 := sm _ _ ht
      have lD2 : D.length ≤ 1000 := by omega
      walk_at "st"
      refine ⟨_, _, rfl, fun b o e => hl_set (ne_of_none e hd) (sm _ _ e), _, upd_same, putT_nodup nd _ _, Nat.le_trans (putT_len _ _ _) (by omega), fun y => ?_⟩
      rw [getT_put, List.take_succ, ez]
      show _ = coef (ps.take i ++ [(z, k)]) y % p
      rw [coef_app, coef_cons, coef_nil, Int.add_zero]
      by_cases c : y = z
      · subst c
        rw [if_pos rfl, if_pos rfl, Option.getD_some, hD y, Int.emod_add_emod]
      · rw [if_neg c, if_neg (fun e => c e.symm), Int.add_zero]
        exact hD y
    · obtain ⟨x4, x5, rfl, sm, D, eD, nd, lD, hD⟩ := g
      rw [List.take_of_length_le (by rw [hu.1]; exact Nat.le_refl _)] at hD
      walk_at "st"
      refine r_sortD eD (by omega) fun ys p0 pm so hp0 => ?_
      have sD : Same H2 (upd H2 p0 (.lst (ys.map V.str))) := Same.upd_new hp0
      have nys : ys.Nodup := pm.symm.nodup nd
      have ri := sortedS_rise so nys
      have lys : ys.length < 64 := by rw [pm.length_eq, List.length_map]; omega
      have ed := sD _ _ eD
      have ep : upd H2 p0 (.lst (ys.map V.str)) p0 = some (.lst (ys.map V.str)) := upd_same
      have S0 := sm.trans sD
      generalize upd H2 p0 (.lst (ys.map V.str)) = H3 at *
      walk_at "st"
      intro Dl hDl
      refine lc_by (walk_list (a := p0) (xs := ys.map V.str)) (fun i H' => Same H3 H' ∧ ∃ us ts, H' Dl = some (.lst us) ∧ Trs H' us ts ∧ (ts.map (·.1)).Sublist (ys.take i) ∧ (∀ x ∈ ts, getT D x.1 = some x.2 ∧ x.2 ≠ 0) ∧ ∀ (j : Nat) z k, j < i → ys[j]? = some z → getT D z = some k → k ≠ 0 → (z, k) ∈ ts)
        ⟨Same.upd_new hDl, [], [], upd_same, Trs.nil, List.Sublist.refl _, by simp, fun j z k g => absurd g (Nat.not_lt_zero j)⟩ (fun i H' _ g => SqL.of (g.1 _ _ ep)) (fun i x H4 H5 hi g y => ?_) (fun H4 g => ?_)
      · obtain ⟨s4, us, ts, et, ht, sb, h1, h2⟩ := g
        obtain ⟨rfl, ex⟩ := y
        obtain ⟨z, ez, rfl⟩ := getElem?_map_str ex
        have mz : z ∈ D.map (·.1) := pm.mem_iff.mp (List.mem_of_getElem? ez)
        obtain ⟨⟨z', k⟩, mk, rfl⟩ := List.mem_map.mp mz
        have gk := getT_in nd mk
        have ed4 := s4 _ _ ed
        have lts : ts.length ≤ 64 := by
          have := sb.length_le
          rw [List.length_map, List.length_take] at this
          omega
        have sb' : (ts.map (·.1)).Sublist (ys.take (i + 1)) := sb.trans (by rw [List.take_succ]; exact List.sublist_append_left _ _)
        refine ⟨rfl, ?_⟩
        walk_at "st"
        have old : ∀ (j : Nat) z'' k'', j < i + 1 → ys[j]? = some z'' → getT D z'' = some k'' → k'' ≠ 0 → (z'', k'') ∈ ts ∨ (z'', k'') = (z', k) := fun j z'' k'' lt e1 e2 e3 => by
          rcases Nat.lt_succ_iff_lt_or_eq.mp lt with g | g
          · exact .inl (h2 j _ _ g e1 e2 e3)
          · rw [g, ez] at e1
            cases e1
            rw [gk] at e2
            cases e2
            exact .inr rfl
        refine r_iteB (fun h => ?_) (fun h => ?_)
        · have k0 : k ≠ 0 := by simpa using h
          walk_at "st"
          intro t ht8
          have ht4 := hl_new et ht8 (u := .tup [V.str z', V.int k])
          refine ⟨us, ht4, by rw [ht.1]; exact Nat.lt_of_le_of_lt lts (by decide), fun b o e => hl_set (ne_of_none e hDl) (hl_new (s4 _ _ e) ht8), us ++ [.ref t], ts ++ [(z', k)], upd_same, ?_, ?_, fun x m => ?_, fun j z'' k'' lt e1 e2 e3 => ?_⟩
          · exact ((ht.to (Tups.same (Same.upd_new ht8))).append (Trs.one ⟨t, rfl, upd_same⟩)).to (Tups.lst ht4)
          · rw [List.map_append, List.take_succ, ez]
            exact sb.append (List.Sublist.refl _)
          · rcases List.mem_append.mp m with m | m
            · exact h1 x m
            · rw [List.mem_singleton.mp m]; exact ⟨gk, k0⟩
          · rcases old j z'' k'' lt e1 e2 e3 with g | g
            · exact List.mem_append_left _ g
            · rw [g]; exact List.mem_append_right _ (List.mem_singleton.mpr rfl)
        · have k0 : k = 0 := by simpa using h
          refine ⟨s4, us, ts, et, ht, sb', h1, fun j z'' k'' lt e1 e2 e3 => ?_⟩
          rcases old j z'' k'' lt e1 e2 e3 with g | g
          · exact g
          · cases g; exact absurd k0 e3
      · obtain ⟨s4, us, ts, et, ht, sb, h1, h2⟩ := g
        rw [List.take_of_length_le (by rw [List.length_map]; exact Nat.le_refl _)] at sb
        walk_at "st"
        intro b hb
        walk_at "st"
        intro a ha
        have S5 : Same H4 (upd (upd H4 b (.tup us)) a (.tup [V.int (n % p), V.ref b])) := (Same.upd_new hb).trans (Same.upd_new ha)
        refine q a ts _ ((S0.trans s4).trans S5) ⟨a, b, us, rfl, upd_same, hl_new upd_same ha, ht.to (Tups.same S5)⟩ ⟨ri.sublist sb, fun z k => ⟨fun m => ?_, fun m => ?_⟩⟩
        · have e := h1 _ m
          have e2 := hD z
          rw [e.1] at e2
          exact ⟨e2, e.2⟩
        · obtain ⟨e, ne⟩ := m
          have e2 := hD z
          cases g : getT D z with
          | none => rw [g] at e2; exact absurd (e.trans e2.symm) ne
          | some k' =>
            rw [g] at e2
            obtain rfl : k' = k := e2.trans e.symm
            have mz : z ∈ D.map (·.1) := by
              by_cases c : z ∈ D.map (·.1)
              · exact c
              · rw [getT_out c] at g; cases g
            obtain ⟨j, ej⟩ := List.getElem?_of_mem (pm.mem_iff.mpr mz)
            exact h2 j z k' (by rw [List.length_map]; exact (List.getElem?_eq_some_iff.mp ej).1) ej g ne
end
local macro_rules | `(tactic| walk_at "st1") => `(tactic| first
  | with_reducible refine r_par ?_
  | with_reducible refine r_parx ?_
  | ((with_reducible refine' r_gtup ?e1 ?e2 ?_); (case e1 => walk_at "sq"); (case e2 => rfl))
  | with_reducible refine r_gcons ?_
  | with_reducible refine r_gnil ?_
  | with_reducible refine r_disp ?_
  | with_reducible refine r_tp1 ?_
  | with_reducible refine r_tp0 ?_
  | ((with_reducible refine' r_dp1 ?e1 ?_); (case e1 => walk_at "hl"))
  | with_reducible refine r_dnewK ?_
  | with_reducible refine r_dget2 ?_
  | ((with_reducible refine' r_dg2 ?e1 ?_); (case e1 => walk_at "hl"))
  | ((with_reducible refine' r_dg3 ?e1 ?_); (case e1 => walk_at "hl"))
  | with_reducible refine r_dget ?_
  | ((with_reducible refine' r_dgv ?e1 ?e2 ?_); (case e1 => walk_at "hl"); (case e2 => assumption))
  | ((with_reducible refine' r_setD ?e1 ?e2 ?_); (case e1 => walk_at "hl"); (case e2 => omega)))
theorem list_ext_int {ys : List V} {ms : List Int} (hl : ys.length = ms.length) (h : ∀ (i : Nat) (y : V), ys[i]? = some y → ∃ m, ms[i]? = some m ∧ y = V.int m) : ys = ms.map V.int := by
  apply List.ext_getElem?
  intro i
  cases e : ys[i]? with
  | none =>
    rw [List.getElem?_eq_none_iff] at e
    rw [List.getElem?_eq_none_iff.mpr (by rw [List.length_map]; omega)]
  | some y =>
    obtain ⟨m, h1, rfl⟩ := h i y e
    rw [List.getElem?_map, h1]; rfl
/-- a comprehension's list of pairs -/
theorem trs_of {H : Hp} {ys : List V} {ts : List Tr} (hl : ys.length = ts.length) (h : ∀ (i : Nat) (y : V), ys[i]? = some y → ∃ x, ts[i]? = some x ∧ TrV H y x) : Trs H ys ts := ⟨hl, h⟩
def sp_place_form (_ : PySem.W.Frag) : Sp := fun vs H Q _ => ∃ z : Str, vs = [.str z] ∧ ∀ (a : Addr) (H' : Hp), Same H H' → FrmV H' (.ref a) 0 [(z, 1)] → Q (.ref a) H'
def sp_sum_of (_ : PySem.W.Frag) : Sp := fun vs H Q _ => ∃ (a b : Addr) (n m p : Int) (ts us : List Tr), vs = [.ref a, .ref b, .int p] ∧ FrmV H (.ref a) n ts ∧ FrmV H (.ref b) m us ∧ ts.length + us.length < 64 ∧ (2 ≤ p ∧ p ≤ 997) ∧
  ∀ (c : Addr) (rs : List Tr) (H' : Hp), Same H H' → FrmV H' (.ref c) ((n + m) % p) rs → Canon p (ts ++ us) rs → Q (.ref c) H'
def mulT (k : Int) (ts : List Tr) : List Tr := ts.map fun x => (x.1, x.2 * k)
def sp_times_of (_ : PySem.W.Frag) : Sp := fun vs H Q _ => ∃ (a : Addr) (n k p : Int) (ts : List Tr), vs = [.ref a, .int k, .int p] ∧ FrmV H (.ref a) n ts ∧ ts.length < 64 ∧ (2 ≤ p ∧ p ≤ 997) ∧ (-1000000000000 ≤ k ∧ k ≤ 1000000000000) ∧
  ∀ (c : Addr) (rs : List Tr) (H' : Hp), Same H H' → FrmV H' (.ref c) (n * k % p) rs → Canon p (mulT k ts) rs → Q (.ref c) H'
def sp_worth_of (_ : PySem.W.Frag) : Sp := fun vs H Q _ => ∃ (a d : Addr) (n p : Int) (ts D : List Tr), vs = [.ref a, .ref d, .int p] ∧ FrmV H (.ref a) n ts ∧ H d = some (.dK (encT D)) ∧ ts.length < 64 ∧ (2 ≤ p ∧ p ≤ 997) ∧ (∀ x ∈ ts, 0 ≤ x.2 ∧ x.2 ≤ 1000) ∧
  ∀ H', Same H H' → Q (.int ((n + (ts.map fun x => x.2 * (getT D x.1).getD 0).sum) % p)) H'
section
variable {P : Program} {w : World} {K : PySem.W.Frag} {mg : Str → Option Value} {base : Heap}
theorem ok_place_form (T : Tx K mg)  {f : Addr} {fd : FuncData} (F : Here K mg "place_form" s_place_form ["place"] f fd) : Cal P w K mg base "place_form" 1 ["place"] (sp_place_form K) s_place_form f fd := by
  refine F.cal sc_place_form (fun vs H Q E h => ?_) (fun cdv A outer s H vs Q E hr h => ?_)
  · obtain ⟨z, rfl, _⟩ := h
    rfl
  · obtain ⟨z, rfl, q⟩ := h
    refine ⟨_, (pss_one (ps_ret (pe_tup (pa_cons pe_int (pa_cons (pe_tup (pa_cons (pe_tup (pa_cons (pv 0) (pa_cons pe_int pa_nil))) pa_nil)) pa_nil))))), ?_⟩
    walk_at "st"
    intro p1 h1
    walk_at "st"
    intro p2 h2
    walk_at "st"
    intro p3 h3
    exact q p3 _ (by walk_at "sm") ⟨p3, p2, [.ref p1], rfl, upd_same, hl_new upd_same h3, Trs.one ⟨p1, rfl, hl_new (hl_new upd_same h2) h3⟩⟩
theorem ok_sum_of (T : Tx K mg) {f_new_form : Addr} {fd_new_form : FuncData} (C_new_form : Cal P w K mg base "new_form" 1 ["n", "pairs", "p"] (sp_new_form K) s_new_form f_new_form fd_new_form) {f : Addr} {fd : FuncData} (F : Here K mg "sum_of" s_sum_of ["a", "b", "p"] f fd) : Cal P w K mg base "sum_of" 2 ["a", "b", "p"] (sp_sum_of K) s_sum_of f fd := by
  refine F.cal sc_sum_of (fun vs H Q E h => ?_) (fun cdv A outer s H vs Q E hr h => ?_)
  · obtain ⟨a, b, n, m, p, ts, us, rfl, _⟩ := h
    rfl
  · obtain ⟨a, b, n, m, p, ts, us, rfl, ⟨a, a2, vs1, e1, ha, ha2, hts⟩, ⟨b, b2, vs2, e2, hb, hb2, hus⟩, hl, hp, q⟩ := h
    cases e1; cases e2
    refine ⟨_, (pss_one (ps_ret (pe_call C_new_form.ok (hr.mono (by decide)) (by rfl) C_new_form.at_ C_new_form.kp C_new_form.b .nil pass0 (pa_cons (pe_op op_add (pe_ix (ix_tupK (K := K)) (pv 0) pe_int (fun _ _ => rfl)) (pe_ix (ix_tupK (K := K)) (pv 1) pe_int (fun _ _ => rfl))) (pa_cons (pe_op op_cat (pe_callTy (cr_listOfK (K := K)) (by rfl) T.m_list (by decide +kernel) (pa_cons (pe_ix (ix_tupK (K := K)) (pv 0) pe_int (fun _ _ => rfl)) pa_nil)) (pe_callTy (cr_listOfK (K := K)) (by rfl) T.m_list (by decide +kernel) (pa_cons (pe_ix (ix_tupK (K := K)) (pv 1) pe_int (fun _ _ => rfl)) pa_nil))) (pa_cons (pv 2) pa_nil)))))), ?_⟩
    walk_at "st"
    intro l1 hl1
    walk_at "st"
    intro l2 hl2
    have z1 : vs1.length + vs2.length ≤ sizeLine := by rw [hts.1, hus.1]; exact Nat.le_trans (show _ ≤ 64 by omega) (by decide)
    refine r_cat (hl_new upd_same hl2) upd_same z1 fun l3 hl3 => ?_
    walk_at "st"
    have S3 : Same H (upd (upd (upd H l1 (.lst vs1)) l2 (.lst vs2)) l3 (.lst (vs1 ++ vs2))) := by walk_at "sm"
    refine ⟨l3, _, p, vs1 ++ vs2, ts ++ us, rfl, upd_same, (hts.append hus).to (Tups.same S3), by rw [List.length_append]; exact hl, hp, fun c rs H' sm hf hc => ?_⟩
    exact q c rs H' (S3.trans sm) hf hc
theorem ok_times_of (T : Tx K mg) {f_new_form : Addr} {fd_new_form : FuncData} (C_new_form : Cal P w K mg base "new_form" 1 ["n", "pairs", "p"] (sp_new_form K) s_new_form f_new_form fd_new_form) {f : Addr} {fd : FuncData} (F : Here K mg "times_of" s_times_of ["a", "n", "p"] f fd) : Cal P w K mg base "times_of" 2 ["a", "n", "p"] (sp_times_of K) s_times_of f fd := by
  refine F.cal sc_times_of (fun vs H Q E h => ?_) (fun cdv A outer s H vs Q E hr h => ?_)
  · obtain ⟨a, n, k, p, ts, rfl, _⟩ := h
    rfl
  · obtain ⟨a, n, k, p, ts, rfl, ⟨a, a2, vs1, e1, ha, ha2, hts⟩, hl, hp, hk, q⟩ := h
    cases e1
    have lv : vs1.length < 64 := by rw [hts.1]; exact hl
    refine ⟨_, (pss_one (ps_ret (pe_call C_new_form.ok (hr.mono (by decide)) (by rfl) C_new_form.at_ C_new_form.kp C_new_form.b .nil pass0 (pa_cons (pe_op op_mul (pe_ix (ix_tupK (K := K)) (pv 0) pe_int (fun _ _ => rfl)) (pv 1)) (pa_cons (pe_lc rfl sc_times_of.nd (pi_tupK (K := K) (pe_ix (ix_tupK (K := K)) (pv 0) pe_int (fun _ _ => rfl))) (blkOk_by (own := [("place", 3), ("k", 4)]) (N := ["a", "n", "p", "place", "k"]) (sc := (defScope s_times_of)) (by decide +kernel)) (fun _ _ _ _ _ => (castPG (K := K) (n := 2) (pg_tup rfl (pgs_cons (pg_name (i := 3) sc_times_of.nd rfl (by first | exact .inl rfl | exact .inr rfl)) (pgs_cons (pg_name (i := 4) sc_times_of.nd rfl (by first | exact .inl rfl | exact .inr rfl)) pgs_nil))))) (fun _ _ _ _ _ => pts_nil) (fun _ _ _ _ _ => (pe_tup (pa_cons (pv 3) (pa_cons (pe_op op_mul (pv 4) (pv 1)) pa_nil))))) (pa_cons (pv 2) pa_nil)))))), ?_⟩
    walk_at "st"
    intro D hD
    refine lc_map (walk_tup (xs := vs1)) (by omega) hD (fun i y H' => ∃ x, (mulT k ts)[i]? = some x ∧ TrV H' y x) (fun _ _ _ _ h k => h.imp fun _ z => ⟨z.1, z.2.to (Tups.same k)⟩) (fun i v H' acc acc' h eD => h.imp fun _ z => ⟨z.1, z.2.to (Tups.lst eD)⟩) (fun H' k => SqT.of (k _ _ ha2)) (fun i H1 x H2 y => by rw [y.1]; exact Same.refl _)
      (fun i x H1 H2 Y No hi sm y hY => ?_) (fun ys H' el sm eD hys => ?_)
    · obtain ⟨rfl, ex⟩ := y
      obtain ⟨⟨z, j⟩, ez, t, rfl, ht⟩ := hts.2 i x ex
      have ht2 := sm _ _ ht
      refine ⟨t, _, rfl, SqT.of ht2, rfl, ?_⟩
      walk_at "st"
      refine ⟨rfl, ?_⟩
      walk_at "st"
      intro t2 ht3
      exact hY _ _ (Same.upd_new ht3) ⟨(z, j * k), by unfold mulT; rw [List.getElem?_map, ez]; rfl, t2, rfl, upd_same⟩
    · walk_at "st"
      refine ⟨D, _, p, ys, mulT k ts, rfl, eD, ⟨by rw [el, hts.1]; unfold mulT; rw [List.length_map], hys⟩, by unfold mulT; rw [List.length_map]; exact hl, hp, fun c rs H2 sm2 hf hc => ?_⟩
      exact q c rs H2 (sm.trans sm2) hf hc
theorem ok_worth_of (T : Tx K mg)  {f : Addr} {fd : FuncData} (F : Here K mg "worth_of" s_worth_of ["form", "worths", "p"] f fd) : Cal P w K mg base "worth_of" 1 ["form", "worths", "p"] (sp_worth_of K) s_worth_of f fd := by
  refine F.cal sc_worth_of (fun vs H Q E h => ?_) (fun cdv A outer s H vs Q E hr h => ?_)
  · obtain ⟨a, d, n, p, ts, D, rfl, _⟩ := h
    rfl
  · obtain ⟨a, d, n, p, ts, D, rfl, ⟨a, a2, vs1, e1, ha, ha2, hts⟩, hd, hl, hp, hb, q⟩ := h
    cases e1
    have lv : vs1.length < 64 := by rw [hts.1]; exact hl
    refine ⟨_, (pss_cons (ps_asg (pv 0) (castPG (K := K) (n := 2) (pg_tup rfl (pgs_cons (pg_name (i := 3) sc_worth_of.nd rfl (by first | exact .inl rfl | exact .inr rfl)) (pgs_cons (pg_name (i := 4) sc_worth_of.nd rfl (by first | exact .inl rfl | exact .inr rfl)) pgs_nil)))))
      (pss_one (ps_ret (pe_op op_mod (pe_op op_add (pv 3) (pe_callB (cr_sumK (K := K) rfl) (by rfl) T.m_sum (by decide +kernel) (pa_cons (pe_lc rfl sc_worth_of.nd (pi_tupK (K := K) (pv 4)) (blkOk_by (own := [("place", 5), ("k", 6)]) (N := ["form", "worths", "p", "n", "terms", "place", "k"]) (sc := (defScope s_worth_of)) (by decide +kernel)) (fun _ _ _ _ _ => (castPG (K := K) (n := 2) (pg_tup rfl (pgs_cons (pg_name (i := 5) sc_worth_of.nd rfl (by first | exact .inl rfl | exact .inr rfl)) (pgs_cons (pg_name (i := 6) sc_worth_of.nd rfl (by first | exact .inl rfl | exact .inr rfl)) pgs_nil))))) (fun _ _ _ _ _ => pts_nil) (fun _ _ _ _ _ => (pe_op op_mul (pv 6) (pe_dget2 (hu_of hr) (pv 1) (pv 5) pe_int ⟨by rfl, by rfl, by rfl, by rfl⟩)))) pa_nil))) (pv 2))))), ?_⟩
    walk_at "st"
    intro Dl hD
    refine lc_map (walk_tup (xs := vs1)) (by omega) hD (fun i y _ => ∃ m, (ts.map fun x => x.2 * (getT D x.1).getD 0)[i]? = some m ∧ y = .int m) (fun _ _ _ _ h _ => h) (fun _ _ _ _ _ h _ => h) (fun H' k => SqT.of (k _ _ ha2)) (fun i H1 x H2 y => by rw [y.1]; exact Same.refl _)
      (fun i x H1 H2 Y No hi sm y hY => ?_) (fun ys H' el sm eD hys => ?_)
    · obtain ⟨rfl, ex⟩ := y
      obtain ⟨⟨z, j⟩, ez, t, rfl, ht⟩ := hts.2 i x ex
      have ht2 := sm _ _ ht
      have hd2 := sm _ _ hd
      have hj : 0 ≤ j ∧ j ≤ 1000 := hb _ (List.mem_of_getElem? ez)
      refine ⟨t, _, rfl, SqT.of ht2, rfl, ?_⟩
      walk_at "st"
      refine ⟨rfl, ?_⟩
      walk_at "st"
      exact hY _ _ (Same.refl _) ⟨_, by rw [List.getElem?_map, ez]; rfl, rfl⟩
    · obtain rfl := list_ext_int (by rw [el, List.length_map, hts.1]) hys
      walk_at "st"
      exact q _ sm
end
local macro_rules | `(tactic| walk_at "st1") => `(tactic| first
  | with_reducible refine r_par ?_
  | with_reducible refine r_parx ?_
  | ((with_reducible refine' r_gtup ?e1 ?e2 ?_); (case e1 => walk_at "sq"); (case e2 => rfl))
  | with_reducible refine r_gcons ?_
  | with_reducible refine r_gnil ?_
  | with_reducible refine r_disp ?_
  | with_reducible refine r_tp1 ?_
  | with_reducible refine r_tp0 ?_
  | ((with_reducible refine' r_dp1 ?e1 ?_); (case e1 => walk_at "hl"))
  | with_reducible refine r_dnewK ?_
  | with_reducible refine r_dget2 ?_
  | ((with_reducible refine' r_dg2 ?e1 ?_); (case e1 => walk_at "hl"))
  | ((with_reducible refine' r_dg3 ?e1 ?_); (case e1 => walk_at "hl"))
  | with_reducible refine r_dget ?_
  | ((with_reducible refine' r_dgv ?e1 ?e2 ?_); (case e1 => walk_at "hl"); (case e2 => assumption))
  | ((with_reducible refine' r_setD ?e1 ?e2 ?_); (case e1 => walk_at "hl"); (case e2 => omega)))
abbrev Fm := Str × Int × List Tr
def look (F : List Fm) (z : Str) : Int × List Tr := ((F.find? fun x => decide (x.1 = z)).map (·.2)).getD (0, [(z, 1)])
def putN (F : List Fm) (ts : List Tr) : Int := (ts.map fun x => (look F x.1).1 * x.2).sum
def putP (F : List Fm) (ts : List Tr) : List Tr := ts.flatMap fun x => mulT x.2 (look F x.1).2
def DF (H : Hp) (d : Addr) (F : List Fm) : Prop := ∃ kvs, H d = some (.dK kvs) ∧ kvs.length = F.length ∧ ∀ (i : Nat) (e : Key × V), kvs[i]? = some e → ∃ x, F[i]? = some x ∧ e.1 = Sum.inr x.1 ∧ FrmV H e.2 x.2.1 x.2.2
theorem df_get {H : Hp} {z : Str} {a : Addr} : ∀ {kvs : List (Key × V)} {F : List Fm}, kvs.length = F.length → (∀ (i : Nat) (e : Key × V), kvs[i]? = some e → ∃ x, F[i]? = some x ∧ e.1 = Sum.inr x.1 ∧ FrmV H e.2 x.2.1 x.2.2) → FrmV H (.ref a) 0 [(z, 1)] →
    FrmV H ((valV kvs (Sum.inr z)).getD (.ref a)) (look F z).1 (look F z).2
  | [], [], _, _, h => h
  | [], _ :: _, e, _, _ => by simp at e
  | _ :: _, [], e, _, _ => by simp at e
  | e :: kvs, x :: F, l, k, h => by
    obtain ⟨y, ey, e1, e2⟩ := k 0 e rfl
    obtain rfl : x = y := Option.some.inj ey
    have ih := df_get (H := H) (z := z) (a := a) (kvs := kvs) (F := F) (by simpa using l) (fun i e he => k (i + 1) e (by simpa using he)) h
    by_cases c : x.1 = z
    · have h1 : valV (e :: kvs) (Sum.inr z) = some e.2 := valV_pos (by rw [e1, c])
      have h2 : look (x :: F) z = x.2 := by
        unfold look
        rw [List.find?_cons_of_pos (by simpa using c)]; rfl
      rw [h1, h2]
      exact e2
    · have h1 : valV (e :: kvs) (Sum.inr z) = valV kvs (Sum.inr z) := valV_neg (by rw [e1]; exact fun g => c (Sum.inr.inj g))
      have h2 : look (x :: F) z = look F z := by
        unfold look
        rw [List.find?_cons_of_neg (by simpa using c)]
      rw [h1, h2]
      exact ih
theorem DF.to {H H' : Hp} {d : Addr} {F : List Fm} (h : DF H d F) (k : Tups H H') (e : ∀ kvs, H d = some (.dK kvs) → H' d = some (.dK kvs)) : DF H' d F := by
  obtain ⟨kvs, h1, h2, h3⟩ := h
  exact ⟨kvs, e _ h1, h2, fun i x ex => (h3 i x ex).imp fun _ z => ⟨z.1, z.2.1, z.2.2.to k⟩⟩
theorem r_dg2K {ty tx : TE} {σ : L2.St} {Q : VK} {H : Hp} {d : Addr} {kvs : List (Key × V)} (e : H d = some (.dK kvs)) (h : ty σ H fun y H2 => tx σ H2 fun z H3 => DG3 d Q y z H3) : DG2 ty tx σ Q (.ref d) H := ⟨d, rfl, .inl ⟨_, .inl e⟩, h⟩
theorem mulT_len (k : Int) (ts : List Tr) : (mulT k ts).length = ts.length := by unfold mulT; rw [List.length_map]
theorem putP_take (F : List Fm) (ts : List Tr) (i : Nat) : (putP F (ts.take i)).length ≤ (putP F ts).length := by
  have : putP F ts = putP F (ts.take i) ++ putP F (ts.drop i) := by
    unfold putP
    rw [← List.flatMap_append, List.take_append_drop]
  rw [this, List.length_append]; omega
def sp_put_in (_ : PySem.W.Frag) : Sp := fun vs H Q _ => ∃ (a d : Addr) (n p : Int) (ts : List Tr) (F : List Fm), vs = [.ref a, .ref d, .int p] ∧ FrmV H (.ref a) n ts ∧ DF H d F ∧ ts.length < 64 ∧ (putP F ts).length < 64 ∧ (2 ≤ p ∧ p ≤ 997) ∧ (∀ x ∈ ts, 0 ≤ x.2 ∧ x.2 ≤ 1000) ∧
  ∀ (c : Addr) (rs : List Tr) (H' : Hp), Same H H' → FrmV H' (.ref c) ((n + putN F ts) % p) rs → Canon p (putP F ts) rs → Q (.ref c) H'
section
variable {P : Program} {w : World} {K : PySem.W.Frag} {mg : Str → Option Value} {base : Heap}
theorem ok_put_in (T : Tx K mg) {f_new_form : Addr} {fd_new_form : FuncData} (C_new_form : Cal P w K mg base "new_form" 1 ["n", "pairs", "p"] (sp_new_form K) s_new_form f_new_form fd_new_form) {f_place_form : Addr} {fd_place_form : FuncData} (C_place_form : Cal P w K mg base "place_form" 1 ["place"] (sp_place_form K) s_place_form f_place_form fd_place_form) {f : Addr} {fd : FuncData} (F : Here K mg "put_in" s_put_in ["form", "forms", "p"] f fd) : Cal P w K mg base "put_in" 2 ["form", "forms", "p"] (sp_put_in K) s_put_in f fd := by
  refine F.cal sc_put_in (fun vs H Q E h => ?_) (fun cdv A outer s H vs Q E hr h => ?_)
  · obtain ⟨a, d, n, p, ts, F, rfl, _⟩ := h
    rfl
  · obtain ⟨a, d, n, p, ts, F, rfl, ⟨a, a2, vs1, e1, ha, ha2, hts⟩, ⟨kvs, hd, lF, hF⟩, hl, hl2, hp, hb, q⟩ := h
    cases e1
    have lv : vs1.length < 64 := by rw [hts.1]; exact hl
    refine ⟨_, (pss_cons (ps_asg (pv 0) (castPG (K := K) (n := 2) (pg_tup rfl (pgs_cons (pg_name (i := 3) sc_put_in.nd rfl (by first | exact .inl rfl | exact .inr rfl)) (pgs_cons (pg_name (i := 4) sc_put_in.nd rfl (by first | exact .inl rfl | exact .inr rfl)) pgs_nil)))))
      (pss_cons (ps_set (i := 5) sc_put_in.nd rfl (by first | exact .inl rfl | exact .inr rfl) (pe_lst pa_nil))
      (pss_cons (ps_for PassesOwn.never rfl (pi_tupK (K := K) (pv 4)) (castPG (K := K) (n := 2) (pg_tup rfl (pgs_cons (pg_name (i := 6) sc_put_in.nd rfl (by first | exact .inl rfl | exact .inr rfl)) (pgs_cons (pg_name (i := 7) sc_put_in.nd rfl (by first | exact .inl rfl | exact .inr rfl)) pgs_nil)))) (pss_cons (ps_asg (pe_dget2 (hu_of hr) (pv 1) (pv 6) (pe_call C_place_form.ok (hr.mono (by decide)) (by rfl) C_place_form.at_ C_place_form.kp C_place_form.b .nil pass0 (pa_cons (pv 6) pa_nil)) ⟨by rfl, by rfl, by rfl, by rfl⟩) (castPG (K := K) (n := 2) (pg_tup rfl (pgs_cons (pg_name (i := 8) sc_put_in.nd rfl (by first | exact .inl rfl | exact .inr rfl)) (pgs_cons (pg_name (i := 9) sc_put_in.nd rfl (by first | exact .inl rfl | exact .inr rfl)) pgs_nil)))))
      (pss_cons (ps_set (i := 3) sc_put_in.nd rfl (by first | exact .inl rfl | exact .inr rfl) (pe_op op_add (pv 3) (pe_op op_mul (pv 8) (pv 7))))
      (pss_one (ps_expr (castBM (K := K) (pe_bm PySem.F.plainAttrs_list PySem.F.slot_list_extend PySem.F.type_list_extend mt_extend (pv 5) (pa_cons (pe_lc rfl sc_put_in.nd (pi_tupK (K := K) (pv 9)) (blkOk_by (own := [("other", 10), ("many", 11)]) (N := ["form", "forms", "p", "n", "terms", "pairs", "place", "k", "more", "inner", "other", "many"]) (sc := (defScope s_put_in)) (by decide +kernel)) (fun _ _ _ _ _ => (castPG (K := K) (n := 2) (pg_tup rfl (pgs_cons (pg_name (i := 10) sc_put_in.nd rfl (by first | exact .inl rfl | exact .inr rfl)) (pgs_cons (pg_name (i := 11) sc_put_in.nd rfl (by first | exact .inl rfl | exact .inr rfl)) pgs_nil))))) (fun _ _ _ _ _ => pts_nil) (fun _ _ _ _ _ => (pe_tup (pa_cons (pv 10) (pa_cons (pe_op op_mul (pv 11) (pv 7)) pa_nil))))) pa_nil))))))))
      (pss_one (ps_ret (pe_call C_new_form.ok (hr.mono (by decide)) (by rfl) C_new_form.at_ C_new_form.kp C_new_form.b .nil pass0 (pa_cons (pv 3) (pa_cons (pv 5) (pa_cons (pv 2) pa_nil))))))))), ?_⟩
    walk_at "st"
    intro lp hlp
    walk_at "st"
    refine lp_by (walk_tup (xs := vs1)) (fun i σ' H' => ∃ x6 x7 x8 x9, σ' = [some (.ref a), some (.ref d), some (.int p), some (.int (n + putN F (ts.take i))), some (.ref a2), some (.ref lp), x6, x7, x8, x9, none, none] ∧ Same H H' ∧ ∃ us, H' lp = some (.lst us) ∧ Trs H' us (putP F (ts.take i)))
      ⟨none, none, none, none, by simp [putN]; rfl, Same.upd_new hlp, [], upd_same, Trs.nil⟩ (fun i σ' H' _ g => ?_) (fun i x σ' H2 H3 hi g y => ?_) (fun σ' H2 g => ?_)
    · obtain ⟨_, _, _, _, _, sm, _⟩ := g
      exact SqT.of (sm _ _ ha2)
    · obtain ⟨x6, x7, x8, x9, rfl, sm, us, eu, hu⟩ := g
      obtain ⟨rfl, ex⟩ := y
      obtain ⟨⟨z, j⟩, ez, t, rfl, ht⟩ := hts.2 i x ex
      have ht2 := sm _ _ ht
      have hd2 := sm _ _ hd
      have hj : 0 ≤ j ∧ j ≤ 1000 := hb _ (List.mem_of_getElem? ez)
      have hF2 := fun i e he => (hF i e he).imp fun _ z => And.intro z.1 (And.intro z.2.1 (z.2.2.to (Tups.same sm)))
      walk_at "st"
      refine r_dg2K hd2 ?_
      walk_at "st"
      refine ⟨z, rfl, fun ap H4 sm4 hf4 => ?_⟩
      walk_at "st"
      refine ⟨_, DGet.k (k := Sum.inr z) (sm4 _ _ hd2), ?_⟩
      have hv := df_get lF (fun i e he => (hF2 i e he).imp fun _ z => And.intro z.1 (And.intro z.2.1 (z.2.2.to (Tups.same sm4)))) hf4
      obtain ⟨v8, b8, us8, ev, h8, h8b, h8t⟩ := hv
      rw [ev]
      have eu4 := sm4 _ _ eu
      have hu4 := hu.to (Tups.same sm4)
      have S4 := sm.trans sm4
      have step1 : putN F (ts.take (i + 1)) = putN F (ts.take i) + (look F z).1 * j := by
        unfold putN
        rw [List.take_succ, ez]; simp
      have step2 : putP F (ts.take (i + 1)) = putP F (ts.take i) ++ mulT j (look F z).2 := by
        unfold putP
        rw [List.take_succ, ez]; simp
      have l9 := putP_take F ts (i + 1)
      rw [step2, List.length_append, mulT_len] at l9
      have lu8 : us8.length < 64 := by rw [h8t.1]; omega
      generalize look F z = lk at *
      walk_at "st"
      intro D hD
      refine lc_map (walk_tup (xs := us8)) (by omega) hD (fun i y H' => ∃ x, (mulT j lk.2)[i]? = some x ∧ TrV H' y x) (fun _ _ _ _ h k => h.imp fun _ z => ⟨z.1, z.2.to (Tups.same k)⟩) (fun i v H' acc acc' h eD => h.imp fun _ z => ⟨z.1, z.2.to (Tups.lst eD)⟩) (fun H' k => SqT.of (k _ _ h8b)) (fun i H1 x H2 y => by rw [y.1]; exact Same.refl _)
        (fun i x H1 H2 Y No hi sm y hY => ?_) (fun ys H' el sm eD hys => ?_)
      · obtain ⟨rfl, ex⟩ := y
        obtain ⟨⟨z2, j2⟩, ez2, t2, rfl, ht2⟩ := h8t.2 i x ex
        have ht3 := sm _ _ ht2
        refine ⟨t2, _, rfl, SqT.of ht3, rfl, ?_⟩
        walk_at "st"
        refine ⟨rfl, ?_⟩
        walk_at "st"
        intro t4 ht4
        exact hY _ _ (Same.upd_new ht4) ⟨(z2, j2 * j), by unfold mulT; rw [List.getElem?_map, ez2]; rfl, t4, rfl, upd_same⟩
      · have eu9 := sm _ _ eu4
        have hy : Trs H' ys (mulT j lk.2) := ⟨by rw [el, h8t.1, mulT_len], hys⟩
        have zl : us.length + ys.length ≤ sizeLine := by rw [hu.1, hy.1, mulT_len]; exact Nat.le_trans (show _ ≤ 64 by omega) (by decide)
        walk_at "st"
        refine ⟨lp, D, us, ys, rfl, rfl, eu9, eD, zl, ?_⟩
        walk_at "st"
        rw [step1, ← Int.add_assoc]
        refine ⟨_, _, _, _, rfl, fun b o e => hl_set (ne_of_none e hlp) (sm _ _ (S4 _ _ e)), us ++ ys, upd_same, ?_⟩
        · rw [step2]
          exact ((hu4.to (Tups.same sm)).append hy).to (Tups.lst eu9)
    · obtain ⟨x6, x7, x8, x9, rfl, sm, us, eu, hu⟩ := g
      rw [List.take_of_length_le (by rw [hts.1]; exact Nat.le_refl _)] at hu
      walk_at "st"
      refine ⟨lp, _, p, us, putP F ts, rfl, eu, hu, hl2, hp, fun c rs H' sm2 hf hc => ?_⟩
      rw [List.take_of_length_le (by rw [hts.1]; exact Nat.le_refl _)] at hf
      exact q c rs H' (sm.trans sm2) hf hc
end
local macro_rules | `(tactic| walk_at "ssz") => `(tactic| first | decide | exact str_small (by assumption) | (have : (1000000 : Nat) ≤ sizeLine := (by decide); omega))
local macro_rules | `(tactic| walk_at "st1") => `(tactic| first
  | with_reducible refine' r_nt ?_ | with_reducible refine' r_nf ?_
  | ((with_reducible refine r_lenS ?e1 ?_); (case e1 => walk_at "ssz"))
  | with_reducible refine r_inS ?_
  | with_reducible refine r_ninS ?_
  | ((with_reducible refine r_addS ?e1 ?_); (case e1 => walk_at "ssz"))
  | ((with_reducible refine' r_ixS ?e1 ?e2 ?_); (case e1 => walk_at "ssz"); (case e2 => first | assumption | rfl))
  | with_reducible refine r_istr ?_
  | with_reducible refine r_is ?_
  | with_reducible refine r_un ?_
  | with_reducible refine r_u ?_)
local macro_rules | `(tactic| walk_at "st1") => `(tactic| first
  | with_reducible refine r_par ?_
  | with_reducible refine r_parx ?_
  | ((with_reducible refine' r_gtup ?e1 ?e2 ?_); (case e1 => walk_at "sq"); (case e2 => rfl))
  | with_reducible refine r_gcons ?_
  | with_reducible refine r_gnil ?_
  | with_reducible refine r_disp ?_
  | with_reducible refine r_tp1 ?_
  | with_reducible refine r_tp0 ?_
  | ((with_reducible refine' r_dp1 ?e1 ?_); (case e1 => walk_at "hl"))
  | with_reducible refine r_dnewK ?_
  | with_reducible refine r_dget2 ?_
  | ((with_reducible refine' r_dg2 ?e1 ?_); (case e1 => walk_at "hl"))
  | ((with_reducible refine' r_dg3 ?e1 ?_); (case e1 => walk_at "hl"))
  | with_reducible refine r_dget ?_
  | ((with_reducible refine' r_dgv ?e1 ?e2 ?_); (case e1 => walk_at "hl"); (case e2 => assumption))
  | ((with_reducible refine' r_setD ?e1 ?e2 ?_); (case e1 => walk_at "hl"); (case e2 => omega)))
def rLtS : R2 := fun x y H Q => ∃ i j, x = .str i ∧ y = .str j ∧ Q (.bl (decide (i.cps.toList < j.cps.toList))) H
theorem op_ltS {X : Cx} : OpR X (compareOp .Lt) rLtS := op_lt_str
section
variable {K : PySem.W.Frag} {σ : L2.St} {H : Hp} {Q : VK}
theorem walk_zipL {a b : Addr} {xs ys : List V} {n : Nat} (hn : n = min xs.length ys.length) : Walk (Itz K a b) n (fun H => SqL K H a xs ∧ SqL K H b ys) (YPair (fun i => xs[i]?) (fun i => ys[i]?)) where
  goes := fun i H hi h => ⟨xs, ys, xs[i]'(by omega), ys[i]'(by omega), h.1, h.2, List.getElem?_eq_getElem (by omega), List.getElem?_eq_getElem (by omega)⟩
  stops := fun H h => ⟨xs, ys, h.1, h.2, by omega⟩
  yields := fun i H x H' _ h y => by
    obtain ⟨T, x1, y1, e1, e2, e3, e4, e5⟩ := y
    exact ⟨T, x1, y1, e1, e2, e3, e4 xs h.1, e5 ys h.2⟩
theorem r_izl {R : It → Hp → Prop} {a b : Addr} {xs ys : List V} (e1 : SqL K H a xs) (e2 : SqL K H b ys) (h : R (Itz K a b) H) : IzR K R [.ref a, .ref b] H := ⟨a, b, xs, ys, rfl, .inl ⟨e1, e2, h⟩⟩
theorem r_ltS {i j : Str} (q : Q (.bl (decide (i.cps.toList < j.cps.toList))) H) : rLtS (.str i) (.str j) H Q := ⟨i, j, rfl, rfl, q⟩
end
local macro_rules | `(tactic| walk_at "st1") => `(tactic| first
  | ((with_reducible refine' r_izl ?e1 ?e2 ?_); (case e1 => walk_at "sq"); (case e2 => walk_at "sq"))
  | with_reducible refine r_ltS ?_)
def tupleO (lo hi : Int) : O → Bool
  | .tup os => decide (lo ≤ (os.length : Int)) && decide ((os.length : Int) ≤ hi)
  | _ => false
def nz : O → Bool
  | .int k => !decide (k = 0)
  | _ => true
def termO (p : Int) : O → Bool
  | .tup [a, b] => placeO a && (numO p b && nz b)
  | _ => false
def keyO : O → Str
  | .tup (.str z :: _) => z
  | _ => ""
def riseL (zs : List Str) : Bool := (List.zipWith (fun x y => decide (cs x < cs y)) zs (zs.drop 1)).all id
def formO (p : Int) : O → Bool
  | .tup [n, .tup ts] => numO p n && (ts.all (termO p) && riseL (ts.map keyO))
  | _ => false
def smallT : O → Prop
  | .tup [a, _] => smallS a
  | _ => True
def smallF : O → Prop
  | .tup [_, .tup ts] => ts.length ≤ 1000 ∧ ∀ t ∈ ts, smallT t
  | _ => True
theorem tuple2 {o : O} (h : tupleO 2 2 o = true) : ∃ a b, o = .tup [a, b] := by
  cases o with
  | tup os =>
    simp [tupleO] at h
    match os, h with
    | [a, b], _ => exact ⟨a, b, rfl⟩
    | [], h => simp at h
    | [_], h => simp at h
    | _ :: _ :: _ :: _, h => simp at h; omega
  | _ => simp [tupleO] at h
theorem term_not {p : Int} {o : O} (h : tupleO 2 2 o = false) : termO p o = false := by
  cases o with
  | tup os =>
    match os with
    | [a, b] => simp [tupleO] at h
    | [] => rfl
    | [_] => rfl
    | _ :: _ :: _ :: _ => rfl
  | _ => rfl
theorem form_not {p : Int} {o : O} (h : tupleO 2 2 o = false) : formO p o = false := by
  cases o with
  | tup os =>
    match os with
    | [a, b] => simp [tupleO] at h
    | [] => rfl
    | [_] => rfl
    | _ :: _ :: _ :: _ => simp [formO]
  | _ => rfl
theorem Rep.pair {S : List Addr} {H : Hp} {v : V} {a b : O} (r : Rep S H v (.tup [a, b])) : ∃ x va vb, v = .ref x ∧ H x = some (.tup [va, vb]) ∧ x ∉ S ∧ Rep S H va a ∧ Rep S H vb b := by
  obtain ⟨x, xs, rfl, h, n, t⟩ := r.tupInv
  cases t with
  | cons r1 t => cases t with
    | cons r2 t => cases t; exact ⟨x, _, _, rfl, h, n, r1, r2⟩
def sp_is_tuple (_ : PySem.W.Frag) : Sp := fun vs H Q _ => ∃ (S : List Addr) (v : V) (o : O) (lo hi : Int), vs = [v, .int lo, .int hi] ∧ Rep S H v o ∧ Q (.bl (tupleO lo hi o)) H
def sp_is_term (_ : PySem.W.Frag) : Sp := fun vs H Q _ => ∃ (S : List Addr) (v : V) (o : O) (p : Int), vs = [v, .int p] ∧ Rep S H v o ∧ smallT o ∧ ∀ H', Same H H' → Q (.bl (termO p o)) H'
def sp_do_rise (_ : PySem.W.Frag) : Sp := fun vs H Q _ => ∃ (l : Addr) (zs : List Str), vs = [.ref l] ∧ H l = some (.lst (zs.map V.str)) ∧ zs.length ≤ 1000 ∧ ∀ H', Same H H' → Q (.bl (riseL zs)) H'
def sp_is_form (_ : PySem.W.Frag) : Sp := fun vs H Q _ => ∃ (S : List Addr) (v : V) (o : O) (p : Int), vs = [v, .int p] ∧ Rep S H v o ∧ smallF o ∧ ∀ H', Same H H' → Q (.bl (formO p o)) H'
theorem cut_from1 (xs : List V) : cutV xs (some 1) none = xs.drop 1 := by
  cases xs with
  | nil => rfl
  | cons x xs =>
    unfold cutV
    simp [HT.sIx]
theorem bools_of : ∀ {ys : List V} {bs : List Bool}, ys.length = bs.length → (∀ (i : Nat) (y : V), ys[i]? = some y → ∃ b, bs[i]? = some b ∧ y = .bl b) → ys = bs.map V.bl
  | [], [], _, _ => rfl
  | [], _ :: _, h, _ => by simp at h
  | _ :: _, [], h, _ => by simp at h
  | y :: ys, b :: bs, h, k => by
    obtain ⟨b', e, rfl⟩ := k 0 y rfl
    obtain rfl : b = b' := Option.some.inj e
    rw [List.map_cons, ← bools_of (by simpa using h) fun i z e => k (i + 1) z (by simpa using e)]
section
variable {P : Program} {w : World} {K : PySem.W.Frag} {mg : Str → Option Value} {base : Heap}
theorem ok_is_tuple (T : Tx K mg)  {f : Addr} {fd : FuncData} (F : Here K mg "is_tuple" s_is_tuple ["thing", "least", "most"] f fd) : Cal P w K mg base "is_tuple" 1 ["thing", "least", "most"] (sp_is_tuple K) s_is_tuple f fd := by
  refine F.cal sc_is_tuple (fun vs H Q E h => ?_) (fun cdv A outer s H vs Q E hr h => ?_)
  · obtain ⟨S, v, o, lo, hi, rfl, _⟩ := h
    rfl
  · obtain ⟨S, v, o, lo, hi, rfl, r, q⟩ := h
    refine ⟨_, (pss_one (ps_ret (pe_and (pe_callB (cr_isiK (K := K)) (by rfl) T.m_isinstance (by decide +kernel) (pa_cons (pv 0) (pa_cons (pe_bltn (v := .ty "tuple") (by rfl) T.m_tuple (by decide +kernel) rfl) pa_nil))) (pe_one (pe_chain op_le op_le (pv 1) (pe_callB (cr_lenK (K := K)) (by rfl) T.m_len (by decide +kernel) (pa_cons (pv 0) pa_nil)) (pv 2)))))), ?_⟩
    cases r with
    | @tup a xs os ha na t =>
      have el := t.length
      walk_at "st"
      rw [el]
      refine r_ite (fun h => ?_) (fun h => ?_)
      · walk_at "st"
        have e : tupleO lo hi (.tup os) = decide ((os.length : Int) ≤ hi) := by
          show (decide _ && _) = _
          rw [decide_eq_true h]; rfl
        rw [e] at q
        exact q
      · have e : tupleO lo hi (.tup os) = false := by
          show (decide _ && _) = _
          rw [decide_eq_false h]; rfl
        rw [e] at q
        exact q
    | _ => (walk_at "st"; exact q)
theorem ok_is_term (T : Tx K mg) {f_is_tuple : Addr} {fd_is_tuple : FuncData} (C_is_tuple : Cal P w K mg base "is_tuple" 1 ["thing", "least", "most"] (sp_is_tuple K) s_is_tuple f_is_tuple fd_is_tuple) {f_is_place : Addr} {fd_is_place : FuncData} (C_is_place : Cal P w K mg base "is_place" 2 ["thing"] (sp_is_place K) s_is_place f_is_place fd_is_place) {f_is_number : Addr} {fd_is_number : FuncData} (C_is_number : Cal P w K mg base "is_number" 2 ["thing", "p"] (sp_is_number K) s_is_number f_is_number fd_is_number) {f : Addr} {fd : FuncData} (F : Here K mg "is_term" s_is_term ["thing", "p"] f fd) : Cal P w K mg base "is_term" 3 ["thing", "p"] (sp_is_term K) s_is_term f fd := by
  refine F.cal sc_is_term (fun vs H Q E h => ?_) (fun cdv A outer s H vs Q E hr h => ?_)
  · obtain ⟨S, v, o, p, rfl, _⟩ := h
    rfl
  · obtain ⟨S, v, o, p, rfl, r, sm0, q⟩ := h
    refine ⟨_, (pss_one (ps_ret (pe_and (pe_call C_is_tuple.ok (hr.mono (by decide)) (by rfl) C_is_tuple.at_ C_is_tuple.kp C_is_tuple.b .nil pass0 (pa_cons (pv 0) (pa_cons pe_int (pa_cons pe_int pa_nil)))) (pe_and (pe_call C_is_place.ok (hr.mono (by decide)) (by rfl) C_is_place.at_ C_is_place.kp C_is_place.b .nil pass0 (pa_cons (pe_ix (ix_tupK (K := K)) (pv 0) pe_int (fun _ _ => rfl)) pa_nil)) (pe_and (pe_call C_is_number.ok (hr.mono (by decide)) (by rfl) C_is_number.at_ C_is_number.kp C_is_number.b .nil pass0 (pa_cons (pe_ix (ix_tupK (K := K)) (pv 0) pe_int (fun _ _ => rfl)) (pa_cons (pv 1) pa_nil))) (pe_one (pe_cmpR op_ne (pe_ix (ix_tupK (K := K)) (pv 0) pe_int (fun _ _ => rfl)) pe_int (nomark _)))))))), ?_⟩
    walk_at "st"
    refine ⟨S, v, o, 2, 2, rfl, r, ?_⟩
    cases h2 : tupleO 2 2 o with
    | false =>
      walk_at "st"
      have := q H (Same.refl _)
      rw [term_not h2] at this
      exact this
    | true =>
      obtain ⟨a, b, rfl⟩ := tuple2 h2
      obtain ⟨x, va, vb, rfl, hx, nx, ra, rb⟩ := r.pair
      have e0 : termO p (.tup [a, b]) = (placeO a && (numO p b && nz b)) := rfl
      walk_at "st"
      refine ⟨S, va, a, rfl, ra, sm0, fun H1 sm1 => ?_⟩
      have hx1 := sm1 _ _ hx
      cases h3 : placeO a with
      | false =>
        walk_at "st"
        have := q H1 sm1
        rw [e0, h3] at this
        exact this
      | true =>
        walk_at "st"
        refine ⟨S, vb, b, p, rfl, rb.to (Lft.same sm1), ?_⟩
        cases h4 : numO p b with
        | false =>
          walk_at "st"
          have := q H1 sm1
          rw [e0, h3, h4] at this
          exact this
        | true =>
          cases rb with
          | int k =>
            walk_at "st"
            have := q H1 sm1
            rw [e0, h3, h4] at this
            have e : (!decide (V.int k = V.int 0)) = nz (.int k) := by
              show _ = !decide (k = 0)
              congr 1
              exact decide_eq_decide.mpr ⟨fun h => by injection h, fun h => by rw [h]⟩
            rw [e]
            exact this
          | _ => simp [numO] at h4
theorem ok_do_rise (T : Tx K mg)  {f : Addr} {fd : FuncData} (F : Here K mg "do_rise" s_do_rise ["things"] f fd) : Cal P w K mg base "do_rise" 1 ["things"] (sp_do_rise K) s_do_rise f fd := by
  refine F.cal sc_do_rise (fun vs H Q E h => ?_) (fun cdv A outer s H vs Q E hr h => ?_)
  · obtain ⟨l, zs, rfl, _⟩ := h
    rfl
  · obtain ⟨l, zs, rfl, hl, lz, q⟩ := h
    refine ⟨_, (pss_one (ps_ret (pe_callB (cr_allK (K := K) rfl) (by rfl) T.m_all (by decide +kernel) (pa_cons (pe_lc rfl sc_do_rise.nd (castPI (K := K) (wi := fun K => iZipA K _) (pi_zipA (by rfl) T.m_zip (pa_cons (pv 0) (pa_cons (pe_slice (sl_listK (K := K)) (pv 0) (po_some pe_int) po_none) pa_nil)))) (blkOk_by (own := [("one", 1), ("other", 2)]) (N := ["things", "one", "other"]) (sc := (defScope s_do_rise)) (by decide +kernel)) (fun _ _ _ _ _ => (castPG (K := K) (n := 2) (pg_tup rfl (pgs_cons (pg_name (i := 1) sc_do_rise.nd rfl (by first | exact .inl rfl | exact .inr rfl)) (pgs_cons (pg_name (i := 2) sc_do_rise.nd rfl (by first | exact .inl rfl | exact .inr rfl)) pgs_nil))))) (fun _ _ _ _ _ => pts_nil) (fun _ _ _ _ _ => (pe_cmpR op_ltS (pv 1) (pv 2) (nomark _)))) pa_nil)))), ?_⟩
    walk_at "st"
    intro p hp
    rw [cut_from1, ← List.map_drop]
    have hl2 := hl_new hl hp (u := .lst ((zs.drop 1).map V.str))
    have hp2 : upd H p (.lst ((zs.drop 1).map V.str)) p = some (.lst ((zs.drop 1).map V.str)) := upd_same
    have S1 : Same H (upd H p (.lst ((zs.drop 1).map V.str))) := Same.upd_new hp
    generalize upd H p (.lst ((zs.drop 1).map V.str)) = H1 at *
    walk_at "st"
    intro D hD
    refine lc_map (walk_zipL (xs := zs.map V.str) (ys := (zs.drop 1).map V.str) rfl) (by rw [List.length_map]; omega) hD (fun i y _ => ∃ b, (List.zipWith (fun x y => decide (cs x < cs y)) zs (zs.drop 1))[i]? = some b ∧ y = .bl b) (fun _ _ _ _ h _ => h) (fun _ _ _ _ _ h _ => h) (fun H' k => ⟨SqL.of (k _ _ hl2), SqL.of (k _ _ hp2)⟩) (fun i H1 x H2 y => ?_)
      (fun i x H1 H2 Y No hi sm y hY => ?_) (fun ys H' el sm eD hys => ?_)
    · obtain ⟨t, x1, y1, rfl, nt, rfl, _⟩ := y
      exact Same.upd_new nt
    · obtain ⟨t, x1, y1, rfl, nt, rfl, e1, e2⟩ := y
      obtain ⟨z1, ez1, rfl⟩ := getElem?_map_str e1
      obtain ⟨z2, ez2, rfl⟩ := getElem?_map_str e2
      refine ⟨t, _, rfl, .inl (.inl upd_same), rfl, _, _, rfl, _, _, rfl, rfl, rfl, ?_⟩
      walk_at "st"
      exact hY _ _ (Same.refl _) ⟨_, by rw [List.getElem?_zipWith, ez1, ez2]; rfl, rfl⟩
    · have e := bools_of (by rw [el, List.length_zipWith, List.length_map, List.length_map]) hys
      rw [e] at eD
      walk_at "st"
      exact q _ (S1.trans sm)
theorem ok_is_form (T : Tx K mg) {f_is_tuple : Addr} {fd_is_tuple : FuncData} (C_is_tuple : Cal P w K mg base "is_tuple" 1 ["thing", "least", "most"] (sp_is_tuple K) s_is_tuple f_is_tuple fd_is_tuple) {f_do_rise : Addr} {fd_do_rise : FuncData} (C_do_rise : Cal P w K mg base "do_rise" 1 ["things"] (sp_do_rise K) s_do_rise f_do_rise fd_do_rise) {f_is_number : Addr} {fd_is_number : FuncData} (C_is_number : Cal P w K mg base "is_number" 2 ["thing", "p"] (sp_is_number K) s_is_number f_is_number fd_is_number) {f_is_term : Addr} {fd_is_term : FuncData} (C_is_term : Cal P w K mg base "is_term" 3 ["thing", "p"] (sp_is_term K) s_is_term f_is_term fd_is_term) {f : Addr} {fd : FuncData} (F : Here K mg "is_form" s_is_form ["thing", "p"] f fd) : Cal P w K mg base "is_form" 4 ["thing", "p"] (sp_is_form K) s_is_form f fd := by
  refine F.cal sc_is_form (fun vs H Q E h => ?_) (fun cdv A outer s H vs Q E hr h => ?_)
  · obtain ⟨S, v, o, p, rfl, _⟩ := h
    rfl
  · obtain ⟨S, v, o, p, rfl, r, sm0, q⟩ := h
    refine ⟨_, (pss_cons (ps_if (pt_not (pt_val (pe_call C_is_tuple.ok (hr.mono (by decide)) (by rfl) C_is_tuple.at_ C_is_tuple.kp C_is_tuple.b .nil pass0 (pa_cons (pv 0) (pa_cons pe_int (pa_cons pe_int pa_nil)))))) (pss_one (ps_ret pe_bl)) pss_nil)
      (pss_cons (ps_asg (pv 0) (castPG (K := K) (n := 2) (pg_tup rfl (pgs_cons (pg_name (i := 2) sc_is_form.nd rfl (by first | exact .inl rfl | exact .inr rfl)) (pgs_cons (pg_name (i := 3) sc_is_form.nd rfl (by first | exact .inl rfl | exact .inr rfl)) pgs_nil)))))
      (pss_cons (ps_if (PW.pt (pw_or (pt_not (pt_val (pe_call C_is_number.ok (hr.mono (by decide)) (by rfl) C_is_number.at_ C_is_number.kp C_is_number.b .nil pass0 (pa_cons (pv 2) (pa_cons (pv 1) pa_nil))))) (pw_or1 (pt_not (pt_val (pe_callB (cr_isiK (K := K)) (by rfl) T.m_isinstance (by decide +kernel) (pa_cons (pv 3) (pa_cons (pe_bltn (v := .ty "tuple") (by rfl) T.m_tuple (by decide +kernel) rfl) pa_nil)))))))) (pss_one (ps_ret pe_bl)) pss_nil)
      (pss_one (ps_ret (pe_and (pe_callB (cr_allK (K := K) rfl) (by rfl) T.m_all (by decide +kernel) (pa_cons (pe_lc rfl sc_is_form.nd (pi_tupK (K := K) (pv 3)) (blkOk_by (own := [("term", 4)]) (N := ["thing", "p", "n", "terms", "term", "place", "_"]) (sc := (defScope s_is_form)) (by decide +kernel)) (fun _ _ _ _ _ => (pg_name (i := 4) sc_is_form.nd rfl (by first | exact .inl rfl | exact .inr rfl))) (fun _ _ _ _ _ => pts_nil) (fun _ _ _ _ _ => (pe_call C_is_term.ok (hr.mono (by decide)) (by rfl) C_is_term.at_ C_is_term.kp C_is_term.b .nil pass0 (pa_cons (pv 4) (pa_cons (pv 1) pa_nil))))) pa_nil)) (pe_one (pe_call C_do_rise.ok (hr.mono (by decide)) (by rfl) C_do_rise.at_ C_do_rise.kp C_do_rise.b .nil pass0 (pa_cons (pe_lc rfl sc_is_form.nd (pi_tupK (K := K) (pv 3)) (blkOk_by (own := [("place", 5), ("_", 6)]) (N := ["thing", "p", "n", "terms", "term", "place", "_"]) (sc := (defScope s_is_form)) (by decide +kernel)) (fun _ _ _ _ _ => (castPG (K := K) (n := 2) (pg_tup rfl (pgs_cons (pg_name (i := 5) sc_is_form.nd rfl (by first | exact .inl rfl | exact .inr rfl)) (pgs_cons (pg_name (i := 6) sc_is_form.nd rfl (by first | exact .inl rfl | exact .inr rfl)) pgs_nil))))) (fun _ _ _ _ _ => pts_nil) (fun _ _ _ _ _ => (pv 5))) pa_nil))))))))), ?_⟩
    walk_at "st"
    walk_at "if"
    refine ⟨S, v, o, 2, 2, rfl, r, ?_⟩
    cases h2 : tupleO 2 2 o with
    | false =>
      walk_at "st"
      have := q H (Same.refl _)
      rw [form_not h2] at this
      exact this
    | true =>
      obtain ⟨n, t, rfl⟩ := tuple2 h2
      obtain ⟨x, vn, vt, rfl, hx, nx, rn, rt⟩ := r.pair
      walk_at "st"
      walk_at "if"
      refine ⟨S, vn, n, p, rfl, rn, ?_⟩
      cases h3 : numO p n with
      | false =>
        walk_at "st"
        have := q H (Same.refl _)
        have e : formO p (.tup [n, t]) = false := by
          cases t with
          | tup ts => show (numO p n && _) = false; rw [h3]; rfl
          | _ => rfl
        rw [e] at this
        exact this
      | true =>
        have no : (∀ ts, t ≠ .tup ts) → formO p (.tup [n, t]) = false := fun z => by
          cases t with
          | tup ts => exact absurd rfl (z ts)
          | _ => rfl
        cases rt with
        | @tup b us ts hb nb tt =>
          have lts : ts.length ≤ 1000 := sm0.1
          have el := tt.length
          have e0 : formO p (.tup [n, .tup ts]) = (ts.all (termO p) && riseL (ts.map keyO)) := by
            show (numO p n && _) = _
            rw [h3]; rfl
          walk_at "st"
          intro D hD
          refine lc_map (walk_tup (xs := us)) (by omega) hD (fun i y _ => ∃ b, (ts.map (termO p))[i]? = some b ∧ y = .bl b) (fun _ _ _ _ h _ => h) (fun _ _ _ _ _ h _ => h) (fun H' k => SqT.of (k _ _ hb)) (fun i H1 x H2 y => by rw [y.1]; exact Same.refl _)
            (fun i x H1 H2 Y No hi sm y hY => ?_) (fun ys H' ely sm eD hys => ?_)
          · obtain ⟨rfl, ex⟩ := y
            obtain ⟨o', eo, ro⟩ := tt.get ex
            refine ⟨rfl, ?_⟩
            walk_at "st"
            refine ⟨S, x, o', p, rfl, ro.to (Lft.same sm), sm0.2 o' (List.mem_of_getElem? eo), fun H3 sm3 => ?_⟩
            exact hY _ _ sm3 ⟨_, by rw [List.getElem?_map, eo]; rfl, rfl⟩
          · have e := bools_of (by rw [ely, el, List.length_map]) hys
            rw [e] at eD
            have hb2 := sm _ _ hb
            walk_at "st"
            have ea : ((ts.map (termO p)).all id) = ts.all (termO p) := by rw [List.all_map]; rfl
            rw [ea]
            cases h5 : ts.all (termO p) with
            | false =>
              walk_at "st"
              have := q H' sm
              rw [e0, h5] at this
              exact this
            | true =>
              have good : ∀ t ∈ ts, ∃ z k, t = .tup [.str z, .int k] := fun t m => by
                have g := List.all_eq_true.mp h5 t m
                cases t with
                | tup os =>
                  match os, g with
                  | [a, b], g =>
                    have g : (placeO a && (numO p b && nz b)) = true := g
                    simp only [Bool.and_eq_true] at g
                    cases a with
                    | str z =>
                      cases b with
                      | int k => exact ⟨z, k, rfl⟩
                      | _ => simp [numO] at g
                    | _ => simp [placeO] at g
                  | [], g => cases g
                  | [_], g => cases g
                  | _ :: _ :: _ :: _, g => cases g
                | _ => cases g
              walk_at "st"
              intro D2 hD2
              refine lc_map (walk_tup (xs := us)) (by omega) hD2 (fun i y _ => ∃ z, (ts.map keyO)[i]? = some z ∧ y = .str z) (fun _ _ _ _ h _ => h) (fun _ _ _ _ _ h _ => h) (fun H' k => SqT.of (k _ _ hb2)) (fun i H1 x H2 y => by rw [y.1]; exact Same.refl _)
                (fun i x H1 H2 Y No hi sm2 y hY => ?_) (fun ys2 H2 ely2 sm2 eD2 hys2 => ?_)
              · obtain ⟨rfl, ex⟩ := y
                obtain ⟨o', eo, ro⟩ := tt.get ex
                obtain ⟨z, k, rfl⟩ := good o' (List.mem_of_getElem? eo)
                obtain ⟨y2, vz, vk, rfl, hy2, _, rz, rk⟩ := ro.pair
                cases rz
                cases rk
                have hy3 := sm2 _ _ (sm _ _ hy2)
                refine ⟨y2, _, rfl, SqT.of hy3, rfl, ?_⟩
                walk_at "st"
                refine ⟨rfl, ?_⟩
                walk_at "st"
                exact hY _ _ (Same.refl _) ⟨z, by rw [List.getElem?_map, eo]; rfl, rfl⟩
              · have e2 : ys2 = (ts.map keyO).map V.str := by
                  apply List.ext_getElem?
                  intro i
                  cases e : ys2[i]? with
                  | none =>
                    rw [List.getElem?_eq_none_iff] at e
                    rw [List.getElem?_eq_none_iff.mpr (by rw [List.length_map, List.length_map]; omega)]
                  | some y =>
                    obtain ⟨z, h1, rfl⟩ := hys2 i y e
                    rw [List.getElem?_map, h1]; rfl
                subst e2
                walk_at "st"
                refine ⟨D2, ts.map keyO, rfl, eD2, by rw [List.length_map]; exact lts, fun H3 sm3 => ?_⟩
                have := q H3 ((sm.trans sm2).trans sm3)
                rw [e0, h5] at this
                exact this
        | _ =>
          (have := q H (Same.refl _)
           rw [no fun ts z => by cases z] at this
           walk_at "st"
           exact this)
end
local macro_rules | `(tactic| walk_at "ssz") => `(tactic| first | decide | exact str_small (by assumption) | (have : (1000000 : Nat) ≤ sizeLine := (by decide); omega))
local macro_rules | `(tactic| walk_at "st1") => `(tactic| first
  | with_reducible refine' r_nt ?_ | with_reducible refine' r_nf ?_
  | ((with_reducible refine r_lenS ?e1 ?_); (case e1 => walk_at "ssz"))
  | with_reducible refine r_inS ?_
  | with_reducible refine r_ninS ?_
  | ((with_reducible refine r_addS ?e1 ?_); (case e1 => walk_at "ssz"))
  | ((with_reducible refine' r_ixS ?e1 ?e2 ?_); (case e1 => walk_at "ssz"); (case e2 => first | assumption | rfl))
  | with_reducible refine r_istr ?_
  | with_reducible refine r_is ?_
  | with_reducible refine r_un ?_
  | with_reducible refine r_u ?_)
local macro_rules | `(tactic| walk_at "st1") => `(tactic| first
  | with_reducible refine r_par ?_
  | with_reducible refine r_parx ?_
  | ((with_reducible refine' r_gtup ?e1 ?e2 ?_); (case e1 => walk_at "sq"); (case e2 => rfl))
  | with_reducible refine r_gcons ?_
  | with_reducible refine r_gnil ?_
  | with_reducible refine r_disp ?_
  | with_reducible refine r_tp1 ?_
  | with_reducible refine r_tp0 ?_
  | ((with_reducible refine' r_dp1 ?e1 ?_); (case e1 => walk_at "hl"))
  | with_reducible refine r_dnewK ?_
  | with_reducible refine r_dget2 ?_
  | ((with_reducible refine' r_dg2 ?e1 ?_); (case e1 => walk_at "hl"))
  | ((with_reducible refine' r_dg3 ?e1 ?_); (case e1 => walk_at "hl"))
  | with_reducible refine r_dget ?_
  | ((with_reducible refine' r_dgv ?e1 ?e2 ?_); (case e1 => walk_at "hl"); (case e2 => assumption))
  | ((with_reducible refine' r_setD ?e1 ?e2 ?_); (case e1 => walk_at "hl"); (case e2 => omega)))
def sp_places_in (_ : PySem.W.Frag) : Sp := fun vs H Q _ => ∃ (a : Addr) (n : Int) (ts : List Tr), vs = [.ref a] ∧ FrmV H (.ref a) n ts ∧ ts.length < 64 ∧ ∀ (b : Addr) (H' : Hp), Same H H' → H' b = some (.tup ((ts.map fun x : Tr => x.1).map V.str)) → Q (.ref b) H'
section
variable {P : Program} {w : World} {K : PySem.W.Frag} {mg : Str → Option Value} {base : Heap}
theorem ok_places_in (T : Tx K mg)  {f : Addr} {fd : FuncData} (F : Here K mg "places_in" s_places_in ["form"] f fd) : Cal P w K mg base "places_in" 1 ["form"] (sp_places_in K) s_places_in f fd := by
  refine F.cal sc_places_in (fun vs H Q E h => ?_) (fun cdv A outer s H vs Q E hr h => ?_)
  · obtain ⟨a, n, ts, rfl, _⟩ := h
    rfl
  · obtain ⟨a, n, ts, rfl, ⟨a, b, us, e1, ha, hb, hts⟩, lts, q⟩ := h
    cases e1
    have lus : us.length < 64 := by rw [hts.1]; exact lts
    refine ⟨_, (pss_one (ps_ret (pe_callTy (cr_tupOfK (K := K)) (by rfl) T.m_tuple (by decide +kernel) (pa_cons (pe_lc rfl sc_places_in.nd (pi_tupK (K := K) (pe_ix (ix_tupK (K := K)) (pv 0) pe_int (fun _ _ => rfl))) (blkOk_by (own := [("place", 1), ("_", 2)]) (N := ["form", "place", "_"]) (sc := (defScope s_places_in)) (by decide +kernel)) (fun _ _ _ _ _ => (castPG (K := K) (n := 2) (pg_tup rfl (pgs_cons (pg_name (i := 1) sc_places_in.nd rfl (by first | exact .inl rfl | exact .inr rfl)) (pgs_cons (pg_name (i := 2) sc_places_in.nd rfl (by first | exact .inl rfl | exact .inr rfl)) pgs_nil))))) (fun _ _ _ _ _ => pts_nil) (fun _ _ _ _ _ => (pv 1))) pa_nil)))), ?_⟩
    walk_at "st"
    intro D2 hD2
    refine lc_map (walk_tup (xs := us)) (by omega) hD2 (fun i y _ => ∃ x, ts[i]? = some x ∧ y = .str x.1) (fun _ _ _ _ h _ => h) (fun _ _ _ _ _ h _ => h) (fun H' k => SqT.of (k _ _ hb)) (fun i H1 x H2 y => by rw [y.1]; exact Same.refl _)
      (fun i x H1 H2 Y No hi sm2 y hY => ?_) (fun ys2 H2 el2 sm2 eD2 hys2 => ?_)
    · obtain ⟨rfl, ex⟩ := y
      obtain ⟨⟨z, k⟩, ez, t, rfl, ht⟩ := hts.2 i x ex
      have ht2 := sm2 _ _ ht
      refine ⟨t, _, rfl, SqT.of ht2, rfl, ?_⟩
      walk_at "st"
      refine ⟨rfl, ?_⟩
      walk_at "st"
      exact hY _ _ (Same.refl _) ⟨_, ez, rfl⟩
    · have e2 : ys2 = (ts.map fun x : Tr => x.1).map V.str := by
        apply List.ext_getElem?
        intro i
        cases e : ys2[i]? with
        | none =>
          rw [List.getElem?_eq_none_iff] at e
          rw [List.getElem?_eq_none_iff.mpr (by rw [List.length_map, List.length_map]; rw [el2, hts.1] at e; exact e)]
        | some y =>
          obtain ⟨x, h1, rfl⟩ := hys2 i y e
          rw [List.getElem?_map, List.getElem?_map, h1]; rfl
      subst e2
      walk_at "st"
      intro c hc
      exact q c _ (sm2.trans (Same.upd_new hc)) upd_same
end
/-! ### texts of forms, by their codes -/
abbrev Sx (a : List Nat) : Str := SX.S a
theorem Sx_cs (z : Str) : Sx (cs z) = z := SX.S_tl z
theorem cs_Sx (a : List Nat) : cs (Sx a) = a := rfl
theorem Sx_len (a : List Nat) : (Sx a).length = a.length := SX.S_len a
def digC (c : Nat) : Bool := decide (48 ≤ c) && decide (c ≤ 57)
def numC (n : Int) : List Nat := TL.numL n.toNat
def termC (x : Tr) : List Nat := (if x.2 = 1 then [] else numC x.2) ++ cs x.1
def partsC (n : Int) (ts : List Tr) : List (List Nat) := (if n ≠ 0 ∨ ts = [] then [numC n] else []) ++ ts.map termC
def textC (n : Int) (ts : List Tr) : List Nat := TL.joinL [43] (partsC n ts)
/-- a number that is told by figures, at most so many, none with a 0 ahead of others -/
def figC (a : List Nat) (m : Int) : Option Int :=
  if (1 ≤ a.length ∧ (a.length : Int) ≤ m) ∧ a.all digC = true ∧ ¬ (a.head? = some 48 ∧ 1 < a.length) then some ((NumText.digitsVal a : Nat) : Int) else none
def optV : Option Int → V
  | none => .non
  | some n => .int n
def optO : Option Int → O
  | none => .non
  | some n => .int n
theorem digC_iff (c : Nat) : digC c = decide (c ∈ cs "0123456789") := by
  have e : cs "0123456789" = [48, 49, 50, 51, 52, 53, 54, 55, 56, 57] := by decide
  rw [e]
  unfold digC
  by_cases h : 48 ≤ c ∧ c ≤ 57
  · have : c = 48 ∨ c = 49 ∨ c = 50 ∨ c = 51 ∨ c = 52 ∨ c = 53 ∨ c = 54 ∨ c = 55 ∨ c = 56 ∨ c = 57 := by omega
    rcases this with h | h | h | h | h | h | h | h | h | h <;> subst h <;> decide
  · have h1 : (decide (48 ≤ c) && decide (c ≤ 57)) = false := by
      rw [Bool.and_eq_false_iff]
      by_cases d : 48 ≤ c
      · exact .inr (decide_eq_false fun z => h ⟨d, z⟩)
      · exact .inl (decide_eq_false d)
    rw [h1]
    symm
    refine decide_eq_false fun m => ?_
    simp at m
    omega
theorem numC_digits (n : Int) : (numC n).all digC = true := by
  refine List.all_eq_true.mpr fun c m => ?_
  have := TL.numL_digits n.toNat c m
  unfold digC
  rw [decide_eq_true this.1, decide_eq_true this.2]; rfl
theorem numC_ne (n : Int) : numC n ≠ [] := TL.numL_ne _
theorem numC_val {n : Int} (h : 0 ≤ n) : ((NumText.digitsVal (numC n) : Nat) : Int) = n := by
  unfold numC; rw [TL.numL_val]; omega
theorem numC_len {n p : Int} (h0 : 0 ≤ n) (h : n < p) (hp : p < 1000) : (numC n).length ≤ (numC p).length := by
  have key : ((List.range 1000).all fun k => decide ((TL.numL k).length = if k < 10 then 1 else if k < 100 then 2 else 3)) = true := by decide +kernel
  have f : ∀ k : Int, 0 ≤ k → k < 1000 → (numC k).length = if k < 10 then 1 else if k < 100 then 2 else 3 := fun k a b => by
    have := of_decide_eq_true (List.all_eq_true.mp key k.toNat (List.mem_range.mpr (by omega)))
    unfold numC
    rw [this]
    by_cases c : k < 10
    · rw [if_pos c, if_pos (by omega)]
    · rw [if_neg c, if_neg (by omega)]
      by_cases d : k < 100
      · rw [if_pos d, if_pos (by omega)]
      · rw [if_neg d, if_neg (by omega)]
  rw [f n h0 (by omega), f p (by omega) hp]
  (repeat' split) <;> omega
theorem numC_head {n : Int} (h0 : 0 ≤ n) (hp : n < 1000) : ¬ ((numC n).head? = some 48 ∧ 1 < (numC n).length) := by
  have key : ((List.range 1000).all fun k => !(decide ((TL.numL k).head? = some 48) && decide (1 < (TL.numL k).length))) = true := by decide +kernel
  have := List.all_eq_true.mp key n.toNat (List.mem_range.mpr (by omega))
  rintro ⟨h1, h2⟩
  unfold numC at h1 h2
  rw [decide_eq_true h1, decide_eq_true h2] at this
  exact absurd this (by decide)
theorem fig_num {n p : Int} (h0 : 0 ≤ n) (h : n < p) (hp : p < 1000) : figC (numC n) (numC p).length = some n := by
  unfold figC
  rw [if_pos ⟨⟨List.length_pos_iff.mpr (numC_ne n), by have := numC_len h0 h hp; omega⟩, numC_digits n, numC_head h0 (by omega)⟩, numC_val h0]
theorem good_head {w : List Nat} (h : goodW w) : ∃ c r, w = c :: r ∧ digC c = false ∧ c ≠ 43 := by
  obtain ⟨_, _, ⟨c, r, e, hc⟩, _⟩ := h
  have key : lettersL.all (fun c => !digC c && decide (c ≠ 43)) = true := by decide +kernel
  have := List.all_eq_true.mp key c hc
  rw [Bool.and_eq_true, Bool.not_eq_true', decide_eq_true_eq] at this
  exact ⟨c, r, e, this.1, this.2⟩
theorem good_plus {w : List Nat} (h : goodW w) : 43 ∉ w := fun m => by
  have key : signsL.all (fun c => decide (c ≠ 43)) = true := by decide +kernel
  exact absurd rfl (of_decide_eq_true (List.all_eq_true.mp key 43 (h.2.2.2 43 m)))
theorem num_plus (n : Int) : 43 ∉ numC n := TL.numL_free (.inl (by decide))
theorem drop_term {a w : List Nat} (ha : a.all digC = true) (hw : goodW w) : (a ++ w).dropWhile digC = w ∧ (a ++ w).takeWhile digC = a := by
  obtain ⟨c, r, e, hc, _⟩ := good_head hw
  induction a with
  | nil =>
    rw [List.nil_append, e, List.dropWhile_cons, List.takeWhile_cons, hc]
    exact ⟨rfl, rfl⟩
  | cons d a ih =>
    rw [List.all_cons, Bool.and_eq_true] at ha
    rw [List.cons_append, List.dropWhile_cons, List.takeWhile_cons, ha.1]
    have := ih ha.2
    exact ⟨this.1, by rw [if_pos rfl, this.2]⟩
/-- what a part tells -/
def partC (a : List Nat) (m : Int) : Str × Option Int := (Sx (a.dropWhile digC), if a.takeWhile digC = [] then some 1 else figC (a.takeWhile digC) m)
theorem part_term {p : Int} {x : Tr} (hx : goodW (cs x.1) ∧ 1 ≤ x.2 ∧ x.2 < p) (hp : p < 1000) : partC (termC x) (numC p).length = (x.1, some x.2) := by
  unfold partC termC
  by_cases c : x.2 = 1
  · rw [if_pos c]
    obtain ⟨h1, h2⟩ := drop_term (a := []) (w := cs x.1) rfl hx.1
    rw [List.nil_append] at h1 h2 ⊢
    rw [h1, h2, if_pos rfl, Sx_cs, c]
  · rw [if_neg c]
    obtain ⟨h1, h2⟩ := drop_term (numC_digits x.2) hx.1
    rw [h1, h2, if_neg (numC_ne _), Sx_cs, fig_num (by omega) hx.2.2 hp]
theorem term_fig {p : Int} {x : Tr} (hx : goodW (cs x.1)) (m : Int) : figC (termC x) m = none := by
  unfold figC
  rw [if_neg]
  rintro ⟨_, h, _⟩
  obtain ⟨c, r, e, hc, _⟩ := good_head hx
  have : digC c = true := List.all_eq_true.mp h c (by unfold termC; rw [e]; exact List.mem_append_right _ List.mem_cons_self)
  rw [hc] at this; cases this
theorem parts_ne (n : Int) (ts : List Tr) : partsC n ts ≠ [] := by
  unfold partsC
  by_cases c : n ≠ 0 ∨ ts = []
  · rw [if_pos c]; simp
  · rw [if_neg c]
    cases ts with
    | nil => exact absurd (.inr rfl) c
    | cons x ts => simp
theorem parts_free {n : Int} {ts : List Tr} (h : ∀ x ∈ ts, goodW (cs x.1)) : ∀ p ∈ partsC n ts, 43 ∉ p := fun p m => by
  unfold partsC at m
  rcases List.mem_append.mp m with m | m
  · split at m
    · rw [List.mem_singleton.mp m]; exact num_plus n
    · cases m
  · obtain ⟨x, hx, rfl⟩ := List.mem_map.mp m
    intro z
    unfold termC at z
    rcases List.mem_append.mp z with z | z
    · split at z
      · cases z
      · exact num_plus _ z
    · exact good_plus (h x hx) z
theorem split_text {n : Int} {ts : List Tr} (h : ∀ x ∈ ts, goodW (cs x.1)) : TL.spl [43] 0 [] (textC n ts) = partsC n ts := TL.spl_join (parts_ne n ts) (parts_free h)
/-- what a text tells: a number and pairs -/
def readC (a : List Nat) (m : Int) : Int × List (Str × Option Int) :=
  match TL.spl [43] 0 [] a with
  | [] => (0, [])
  | x :: r => match figC x m with
    | none => (0, (x :: r).map fun y => partC y m)
    | some n => (n, r.map fun y => partC y m)
theorem read_text {p n : Int} {ts : List Tr} (h : FormOk p n ts) (hp : p < 1000) : readC (textC n ts) (numC p).length = (n, ts.map fun x => (x.1, some x.2)) := by
  unfold readC
  rw [split_text fun x m => (h.ok.ok x m).1]
  unfold partsC
  have e : (ts.map termC).map (fun y => partC y (numC p).length) = ts.map fun x => (x.1, some x.2) := by
    rw [List.map_map]
    exact List.map_congr_left fun x m => part_term (h.ok.ok x m) hp
  by_cases c : n ≠ 0 ∨ ts = []
  · rw [if_pos c]
    show (match figC (numC n) (numC p).length with | none => _ | some n => _) = _
    rw [fig_num h.num.1 h.num.2 hp]
    show (n, (ts.map termC).map _) = _
    rw [e]
  · rw [if_neg c]
    have n0 : n = 0 := by
      by_cases z : n = 0
      · exact z
      · exact absurd (.inl z) c
    cases ts with
    | nil => exact absurd (.inr rfl) c
    | cons x ts =>
      show (match figC (termC x) (numC p).length with | none => _ | some n => _) = _
      rw [term_fig (p := p) (h.ok.ok x List.mem_cons_self).1]
      rw [n0]
      exact congrArg (Prod.mk (0 : Int)) e
theorem text_inj {p n m : Int} {ts us : List Tr} (h : FormOk p n ts) (k : FormOk p m us) (hp : p < 1000) (e : textC n ts = textC m us) : n = m ∧ ts = us := by
  have h1 := read_text h hp
  rw [e, read_text k hp] at h1
  injection h1 with h1 h2
  refine ⟨h1.symm, ?_⟩
  have inj : ∀ {a b : List Tr}, (a.map fun x => (x.1, some x.2)) = (b.map fun x => (x.1, some x.2)) → a = b := fun {a} => by
    induction a with
    | nil => intro b e; cases b with
      | nil => rfl
      | cons _ _ => simp at e
    | cons x a ih => intro b e; cases b with
      | nil => simp at e
      | cons y b =>
        rw [List.map_cons, List.map_cons] at e
        injection e with e1 e2
        injection e1 with e3 e4
        rw [ih e2, show x = y from Prod.ext e3 (Option.some.inj e4)]
  exact (inj h2).symm
local macro_rules | `(tactic| walk_at "ssz") => `(tactic| first | decide | exact str_small (by assumption) | (have : (1000000 : Nat) ≤ sizeLine := (by decide); omega))
local macro_rules | `(tactic| walk_at "st1") => `(tactic| first
  | with_reducible refine' r_nt ?_ | with_reducible refine' r_nf ?_
  | ((with_reducible refine r_lenS ?e1 ?_); (case e1 => walk_at "ssz"))
  | with_reducible refine r_inS ?_
  | with_reducible refine r_ninS ?_
  | ((with_reducible refine r_addS ?e1 ?_); (case e1 => walk_at "ssz"))
  | ((with_reducible refine' r_ixS ?e1 ?e2 ?_); (case e1 => walk_at "ssz"); (case e2 => first | assumption | rfl))
  | with_reducible refine r_istr ?_
  | with_reducible refine r_is ?_
  | with_reducible refine r_un ?_
  | with_reducible refine r_u ?_)
local macro_rules | `(tactic| walk_at "st1") => `(tactic| first
  | with_reducible refine r_par ?_
  | with_reducible refine r_parx ?_
  | ((with_reducible refine' r_gtup ?e1 ?e2 ?_); (case e1 => walk_at "sq"); (case e2 => rfl))
  | with_reducible refine r_gcons ?_
  | with_reducible refine r_gnil ?_
  | with_reducible refine r_disp ?_
  | with_reducible refine r_tp1 ?_
  | with_reducible refine r_tp0 ?_
  | ((with_reducible refine' r_dp1 ?e1 ?_); (case e1 => walk_at "hl"))
  | with_reducible refine r_dnewK ?_
  | with_reducible refine r_dget2 ?_
  | ((with_reducible refine' r_dg2 ?e1 ?_); (case e1 => walk_at "hl"))
  | ((with_reducible refine' r_dg3 ?e1 ?_); (case e1 => walk_at "hl"))
  | with_reducible refine r_dget ?_
  | ((with_reducible refine' r_dgv ?e1 ?e2 ?_); (case e1 => walk_at "hl"); (case e2 => assumption))
  | ((with_reducible refine' r_setD ?e1 ?e2 ?_); (case e1 => walk_at "hl"); (case e2 => omega)))
def tTru (K : PySem.W.Frag) (ta : TE) : TT := fun σ H Q => ta σ H fun x H' => ∃ k, TruV K x H' k ∧ Q k H'
theorem pt_truthK {X : Cx} {K : PySem.W.Frag} {a : Expr} {ta : TE} (ha : PE X a ta) (he : ∀ whole, isTrue a X.env whole = (do let v ← whole; standAt a.pos; holding [v] (truthy v))) (q : X.K = K := by rfl) : PT X a (tTru K ta) := q ▸ pt_truth ha he
def rIntS : List V → Hp → VK → Prop := fun xs H Q => ∃ a n, xs = [.str a] ∧ PySem.intText? a = some n ∧ a.length ≤ 640 ∧ Q (.int n) H
theorem cr_intS {X : Cx} : CallR X (.type "int") rIntS := call_int_str
def rLstC : V → List V → Hp → VK → Prop := fun x xs H Q => ∃ a b, x = .str a ∧ xs = [.str b] ∧ a.length ≤ sizeLine ∧ Q (.str (Txt.lstripChars a b)) H
def rSplS : V → List V → Hp → VK → Prop := fun x xs H Q => ∃ a b, x = .str a ∧ xs = [.str b] ∧ (b.length == 0) = false ∧ a.length + 2 ≤ sizeLine ∧ ∀ p, H p = none → Q (.ref p) (upd H p (.lst ((Txt.split a b).map V.str)))
theorem mt_lstK {X : Cx} : MtR X "str.lstrip" rLstC := mt_lstripChars
theorem mt_splK {X : Cx} : MtR X "str.split" rSplS := mt_split
def rSlTx : V → Option Int → Option Int → Hp → VK → Prop := fun x lo hi H Q => ∃ z, x = .str z ∧ z.length ≤ sizeLine ∧ Q (.str (Txt.slice z lo hi)) H
theorem sl_txtK {X : Cx} : SlR X rSlTx := C8.sl_txt
theorem take_tw (f : Nat → Bool) : ∀ a : List Nat, a.take (a.takeWhile f).length = a.takeWhile f
  | [] => rfl
  | c :: a => by
    rw [List.takeWhile_cons]
    cases f c with
    | true => rw [if_pos rfl, List.length_cons, List.take_succ_cons, take_tw f a]
    | false => rw [if_neg (by decide)]; rfl
theorem numC_of {p : Int} (h : 0 ≤ p) : (toString p : Str) = Sx (numC p) := by
  obtain ⟨n, rfl⟩ := Int.eq_ofNat_of_zero_le h
  exact SX.num_S n
theorem log_small {p : Int} (h0 : 0 ≤ p) (h : p ≤ 1000000) : p.natAbs.log2 < 1920 := by
  have h1 : p.natAbs < 2 ^ 20 := by
    have : (2 : Nat) ^ 20 = 1048576 := by decide
    omega
  by_cases c : p.natAbs = 0
  · rw [c]; decide
  · exact Nat.lt_of_lt_of_le ((Nat.log2_lt c).mpr h1) (by decide)
theorem numC_le {p : Int} (h : p ≤ 1000000) : (numC p).length ≤ 7 := by
  have e : (10 : Nat) ^ 7 = 10000000 := by decide
  exact TL.numL_len (by decide) (by rw [e]; omega)
theorem drop_tw (f : Nat → Bool) : ∀ a : List Nat, a.drop (a.takeWhile f).length = a.dropWhile f
  | [] => rfl
  | c :: a => by
    rw [List.takeWhile_cons, List.dropWhile_cons]
    cases f c with
    | true => rw [if_pos rfl, if_pos rfl, List.length_cons, List.drop_succ_cons, drop_tw f a]
    | false => rw [if_neg (by decide), if_neg (by decide)]; rfl
theorem lstrip_S (a b : List Nat) : Txt.lstripChars (SX.S a) (SX.S b) = SX.S (a.dropWhile fun c => decide (c ∈ b)) := by
  have e0 : (fun c => (SX.S b).cps.contains c) = fun c => decide (c ∈ b) := by
    funext c
    rw [Array.contains_eq_mem]
    exact decide_eq_decide.mpr ⟨fun h => by simpa [SX.S] using h, fun h => by simpa [SX.S] using h⟩
  unfold Txt.lstripChars
  rw [show (SX.S b).cps.contains = fun c => (SX.S b).cps.contains c from rfl, e0, PyProof.Rows.stripBy_eq]
  have e1 : stripLo (fun c => decide (c ∈ b)) true (SX.S a) = (a.takeWhile fun c => decide (c ∈ b)).length := by
    unfold stripLo
    rw [if_pos rfl]
  have e2 : stripHi (fun c => decide (c ∈ b)) false (SX.S a) (stripLo (fun c => decide (c ∈ b)) true (SX.S a)) = a.length := by
    unfold stripHi
    rw [if_neg (by decide)]
    exact SX.S_len a
  rw [e2, e1]
  refine TL.ext_tl ?_
  show ((SX.S a).cps.extract _ _).toList = _
  rw [Array.toList_extract]
  show (a.drop _).take _ = a.dropWhile _
  rw [← List.length_drop, List.take_length]
  exact drop_tw _ a
def rJoin (K : PySem.W.Frag) : V → List V → Hp → VK → Prop := fun x xs H Q => ∃ a p, ∃ ys : List Str, x = .str a ∧ xs = [.ref p] ∧ (SqL K H p (ys.map V.str) ∨ SqT K H p (ys.map V.str)) ∧ (ys.map (·.length)).sum + ys.length * a.length ≤ 16777216 ∧ Q (.str (Txt.join a ys)) H
theorem castM1 {X : Cx} {K : PySem.W.Frag} {e : Expr} {to te : TE} (h : PE X e (tM1 (rJoin X.K) to te)) (q : X.K = K := by rfl) : PE X e (tM1 (rJoin K) to te) := q ▸ h
def rIsNn : R2 := fun x y H Q => y = .non ∧ Q (.bl (decide (x = .non))) H
theorem op_isNn {X : Cx} : OpR X (compareOp .Is) rIsNn := op_isN
section
variable {K : PySem.W.Frag} {σ : L2.St} {H : Hp} {Q : VK}
theorem r_tru {ta : TE} {R : Bool → Hp → Prop} (h : ta σ H fun x H' => ∃ k, TruV K x H' k ∧ R k H') : tTru K ta σ H R := h
theorem r_truT {p : Addr} {xs : List V} {R : Bool → Prop} (h : SqT K H p xs) (q : R (!xs.isEmpty)) : ∃ k, TruV K (.ref p) H k ∧ R k := ⟨_, .inr (.inl ⟨xs, h, rfl⟩), q⟩
theorem r_tyS {z : Str} {A : Prop} (q : A) : tyV K "str" (.str z) H ∧ A := ⟨(rfl : "str" = "str"), q⟩
theorem r_lstC {a b : List Nat} (h : a.length ≤ 1000000) (q : Q (.str (Sx (a.dropWhile fun c => decide (c ∈ b)))) H) : rLstC (.str (Sx a)) [.str (Sx b)] H Q := ⟨_, _, rfl, rfl, by rw [Sx_len]; exact Nat.le_trans h (by decide), by rw [lstrip_S]; exact q⟩
theorem r_slTo {a : List Nat} {i : Int} (h : a.length ≤ 1000000) (h0 : 0 ≤ i) (q : Q (.str (Sx (a.take i.toNat))) H) : rSlTx (.str (Sx a)) none (some i) H Q := ⟨_, rfl, by rw [Sx_len]; exact Nat.le_trans h (by decide), by rw [SX.slice_to h0]; exact q⟩
theorem r_strC {i : Int} (h : 0 ≤ i ∧ i ≤ 1000000) (q : Q (.str (Sx (numC i))) H) : rStrOf [.int i] H Q := ⟨i, rfl, log_small h.1 h.2, by rw [numC_of h.1]; exact q⟩
theorem r_m1 {r : V → List V → Hp → VK → Prop} {to te : TE} (h : to σ H fun x H1 => (∃ a, x = .str a) ∧ te σ H1 fun y H2 => r x [y] H2 Q) : tM1 r to te σ H Q := h
theorem r_sx {z : Str} {B : Prop} (h : B) : (∃ a, V.str z = .str a) ∧ B := ⟨⟨z, rfl⟩, h⟩
theorem r_joinS {a : Str} {p : Addr} {ys : List Str} (h : SqL K H p (ys.map V.str)) (z : (ys.map (·.length)).sum + ys.length * a.length ≤ 16777216) (q : Q (.str (Txt.join a ys)) H) : rJoin K (.str a) [.ref p] H Q := ⟨a, p, ys, rfl, rfl, .inl h, z, q⟩
theorem r_ifG {c : TT} {t u : TE} (J : V → Hp → Prop) (hQ : ∀ x H', J x H' → Q x H') (h : ∀ Q' : VK, (∀ x H', J x H' → Q' x H') → tIf c t u σ H Q') : tIf c t u σ H Q := h Q hQ
theorem r_tjs {t : TE} {ts : List TE} {acc : Str} {R : Str → Hp → Prop} (h : t σ H fun x H1 => ∃ y : Str, x = .str y ∧ (acc ++ y).length ≤ sizeLine ∧ tJs ts (acc ++ y) σ H1 R) : tJs (t :: ts) acc σ H R := h
theorem r_fmtI {te : TE} (h : te σ H fun x H1 => ∃ i, x = .int i ∧ (0 ≤ i ∧ i ≤ 1000000) ∧ Q (.str (Sx (numC i))) H1) (hm : ∀ {Q1 Q2 : VK}, (∀ x H1, Q1 x H1 → Q2 x H1) → te σ H Q1 → te σ H Q2) : tFmt te σ H Q :=
  hm (fun x H1 z => by
    obtain ⟨i, rfl, hi, q⟩ := z
    exact .inr ⟨i, rfl, log_small hi.1 hi.2, by rw [numC_of hi.1]; exact q⟩) h
theorem r_fmtVI {i : Nat} {k : Int} (e : σ[i]? = some (some (.int k))) (hk : 0 ≤ k ∧ k ≤ 1000000) (q : Q (.str (Sx (numC k))) H) : tFmt (tVar i) σ H Q := ⟨_, e, .inr ⟨k, rfl, log_small hk.1 hk.2, by rw [numC_of hk.1]; exact q⟩⟩
theorem r_fmtVS {i : Nat} {z : Str} (e : σ[i]? = some (some (.str z))) (hz : z.length ≤ 1000000) (q : Q (.str z) H) : tFmt (tVar i) σ H Q := ⟨_, e, .inl ⟨z, rfl, Nat.le_trans hz (by decide), q⟩⟩
theorem r_isN {x : V} (q : Q (.bl (decide (x = .non))) H) : rIsNn x .non H Q := ⟨rfl, q⟩
end
local macro_rules | `(tactic| walk_at "st1") => `(tactic| first
  | with_reducible refine r_tru ?_
  | ((with_reducible refine' r_truT ?e1 ?_); (case e1 => walk_at "sq"))
  | with_reducible refine r_isN ?_
  | with_reducible refine r_tyS ?_
  | with_reducible refine r_m1 ?_
  | with_reducible refine r_sx ?_
  | ((with_reducible refine r_strC ?e1 ?_); (case e1 => omega)))
def sp_read_figures (_ : PySem.W.Frag) : Sp := fun vs H Q _ => ∃ (a : List Nat) (m : Int), vs = [.str (Sx a), .int m] ∧ a.length ≤ 1000000 ∧ m ≤ 600 ∧ ∀ H', Same H H' → Q (optV (figC a m)) H'
def sp_term_of (_ : PySem.W.Frag) : Sp := fun vs H Q _ => ∃ (a : List Nat) (p : Int), vs = [.str (Sx a), .int p] ∧ a.length ≤ 1000000 ∧ (2 ≤ p ∧ p ≤ 997) ∧ ∀ (t : Addr) (H' : Hp), Same H H' → H' t = some (.tup [.str (partC a (numC p).length).1, optV (partC a (numC p).length).2]) → Q (.ref t) H'
def sp_form_text (_ : PySem.W.Frag) : Sp := fun vs H Q _ => ∃ (a : Addr) (n : Int) (ts : List Tr), vs = [.ref a] ∧ FrmV H (.ref a) n ts ∧ (0 ≤ n ∧ n ≤ 1000) ∧ (∀ x ∈ ts, (cs x.1).length ≤ 100 ∧ 0 ≤ x.2 ∧ x.2 ≤ 1000) ∧ ts.length ≤ 1000 ∧ ∀ H', Same H H' → Q (.str (Sx (textC n ts))) H'
section
variable {P : Program} {w : World} {K : PySem.W.Frag} {mg : Str → Option Value} {base : Heap}
theorem ok_read_figures (T : Tx K mg) {f_has_only : Addr} {fd_has_only : FuncData} (C_has_only : Cal P w K mg base "has_only" 1 ["text", "signs"] (sp_has_only K) s_has_only f_has_only fd_has_only) {f : Addr} {fd : FuncData} (F : Here K mg "read_figures" s_read_figures ["text", "most"] f fd) : Cal P w K mg base "read_figures" 2 ["text", "most"] (sp_read_figures K) s_read_figures f fd := by
  refine F.cal sc_read_figures (fun vs H Q E h => ?_) (fun cdv A outer s H vs Q E hr h => ?_)
  · obtain ⟨a, m, rfl, _⟩ := h
    rfl
  · obtain ⟨a, m, rfl, ha, hm, q⟩ := h
    refine ⟨_, (pss_cons (ps_if (PW.pt (pw_or (pt_not (pt_chain op_le op_le pe_int (pe_callB cr_lenS (by rfl) T.m_len (by decide +kernel) (pa_cons (pv 0) pa_nil)) (pv 1))) (pw_or1 (pt_not (pt_val (pe_call C_has_only.ok (hr.mono (by decide)) (by rfl) C_has_only.at_ C_has_only.kp C_has_only.b .nil pass0 (pa_cons (pv 0) (pa_cons (pe_glob (v := .str "0123456789") (by rfl) (T.c_FIGURES).choose_spec ⟨_, rfl⟩) pa_nil)))))))) (pss_one (ps_ret pe_non)) pss_nil)
      (pss_cons (ps_if (PW.pt (pw_and (pt_cmpR op_eq (pe_ix ix_str (pv 0) pe_int (fun _ _ => rfl)) pe_str (nomark _)) (pw_and1 (pt_cmpR op_gt (pe_callB cr_lenS (by rfl) T.m_len (by decide +kernel) (pa_cons (pv 0) pa_nil)) pe_int (nomark _))))) (pss_one (ps_ret pe_non)) pss_nil)
      (pss_one (ps_ret (pe_callTy cr_intS (by rfl) T.m_int (by decide +kernel) (pa_cons (pv 0) pa_nil)))))), ?_⟩
    have hla : (Sx a).length ≤ sizeLine := by rw [Sx_len]; exact Nat.le_trans ha (by decide)
    walk_at "st"
    walk_at "if"
    rw [Sx_len]
    have no : figC a m = none → ∀ H', Same H H' → Q .non H' := fun e H' k => by
      have := q H' k
      rw [e] at this
      exact this
    refine r_ite (fun h1 => ?_) (fun h1 => ?_)
    · walk_at "st"
      cases h2 : decide ((a.length : Int) ≤ m) with
      | false =>
        walk_at "st"
        refine no ?_ H (Same.refl _)
        unfold figC
        rw [if_neg fun z => of_decide_eq_false h2 z.1.2]
      | true =>
        have hm2 := of_decide_eq_true h2
        walk_at "st"
        refine ⟨Sx a, _, rfl, by rw [Sx_len]; omega, fun H1 s1 => ?_⟩
        have e1 : onlyIn (Sx a) (Str.ofString "0123456789") = a.all digC := by
          unfold onlyIn
          show (cs (Sx a)).all _ = _
          rw [cs_Sx]
          congr 1
          funext c
          exact (digC_iff c).symm
        rw [e1]
        walk_at "st"
        cases h3 : a.all digC with
        | false =>
          walk_at "st"
          refine no ?_ H1 s1
          unfold figC
          rw [if_neg fun z => by rw [h3] at z; exact absurd z.2.1 (by decide)]
        | true =>
          walk_at "st"
          walk_at "if"
          obtain ⟨c, r, rfl⟩ : ∃ c r, a = c :: r := by
            cases a with
            | nil => simp at h1
            | cons c r => exact ⟨c, r, rfl⟩
          have ix : atI (Sx (c :: r)).cps.toList 0 = some c := (show atI (c :: r) ((0 : Nat) : Int) = some c from atI_nat rfl)
          have yes : ∀ H', Same H H' → ¬ ((c :: r).head? = some 48 ∧ 1 < (c :: r).length) → Q (.int ((NumText.digitsVal (c :: r) : Nat) : Int)) H' := fun H' k z => by
            have := q H' k
            unfold figC at this
            rw [if_pos ⟨⟨by simp, hm2⟩, h3, z⟩] at this
            exact this
          have fin : ∀ H', Same H H' → ¬ ((c :: r).head? = some 48 ∧ 1 < (c :: r).length) → rIntS [.str (Sx (c :: r))] H' Q := fun H' k z =>
            ⟨_, _, rfl, SX.int_S h3 (List.cons_ne_nil _ _) (by omega), by rw [Sx_len]; omega, yes H' k z⟩
          walk_at "st"
          have e2 : decide (V.str ⟨#[c]⟩ = V.str (Str.ofString "0")) = decide (c = 48) := by
            refine decide_eq_decide.mpr ⟨fun z => ?_, fun z => by rw [z]; rfl⟩
            injection z with z
            injection z with z
            have : #[c] = #[48] := z
            simpa using this
          rw [e2]
          refine r_ite (fun h4 => ?_) (fun h4 => ?_)
          · walk_at "st"
            rw [Sx_len]
            refine r_ite (fun h5 => ?_) (fun h5 => ?_)
            · walk_at "st"
              refine no ?_ H1 s1
              unfold figC
              rw [if_neg fun z => z.2.2 ⟨by rw [h4]; rfl, by omega⟩]
            · walk_at "st"
              exact fin H1 s1 fun z => h5 (by have := z.2; omega)
          · walk_at "st"
            exact fin H1 s1 fun z => h4 (Option.some.inj z.1)
    · walk_at "st"
      refine no ?_ H (Same.refl _)
      unfold figC
      rw [if_neg fun z => h1 (by have := z.1.1; omega)]
theorem ok_term_of (T : Tx K mg) {f_read_figures : Addr} {fd_read_figures : FuncData} (C_read_figures : Cal P w K mg base "read_figures" 2 ["text", "most"] (sp_read_figures K) s_read_figures f_read_figures fd_read_figures) {f : Addr} {fd : FuncData} (F : Here K mg "term_of" s_term_of ["part", "p"] f fd) : Cal P w K mg base "term_of" 3 ["part", "p"] (sp_term_of K) s_term_of f fd := by
  refine F.cal sc_term_of (fun vs H Q E h => ?_) (fun cdv A outer s H vs Q E hr h => ?_)
  · obtain ⟨a, p, rfl, _⟩ := h
    rfl
  · obtain ⟨a, p, rfl, ha, hp, q⟩ := h
    refine ⟨_, (pss_cons (ps_set (i := 2) sc_term_of.nd rfl (by first | exact .inl rfl | exact .inr rfl) (castBM (K := K) (pe_bm PySem.F.plainAttrs_str PySem.F.slot_str_lstrip PySem.F.type_str_lstrip mt_lstK (pv 0) (pa_cons (pe_glob (v := .str "0123456789") (by rfl) (T.c_FIGURES).choose_spec ⟨_, rfl⟩) pa_nil))))
      (pss_cons (ps_set (i := 3) sc_term_of.nd rfl (by first | exact .inl rfl | exact .inr rfl) (pe_slice sl_txtK (pv 0) po_none (po_some (pe_op op_sub (pe_callB cr_lenS (by rfl) T.m_len (by decide +kernel) (pa_cons (pv 0) pa_nil)) (pe_callB cr_lenS (by rfl) T.m_len (by decide +kernel) (pa_cons (pv 2) pa_nil))))))
      (pss_one (ps_ret (pe_tup (pa_cons (pv 2) (pa_cons (pe_ifExp (pt_cmpR op_eq (pv 3) pe_str (nomark _)) pe_int (pe_call C_read_figures.ok (hr.mono (by decide)) (by rfl) C_read_figures.at_ C_read_figures.kp C_read_figures.b .nil pass0 (pa_cons (pv 3) (pa_cons (pe_callB cr_lenS (by rfl) T.m_len (by decide +kernel) (pa_cons (pe_callTy cr_strOf (by rfl) T.m_str (by decide +kernel) (pa_cons (pv 1) pa_nil)) pa_nil)) pa_nil)))) pa_nil))))))), ?_⟩
    have hla : (Sx a).length ≤ sizeLine := by rw [Sx_len]; exact Nat.le_trans ha (by decide)
    have eF : Str.ofString "0123456789" = Sx (cs "0123456789") := (Sx_cs _).symm
    have eD : (fun c => decide (c ∈ cs "0123456789")) = digC := by funext c; exact (digC_iff c).symm
    walk_at "st"
    rw [eF]
    refine r_lstC ha ?_
    rw [eD]
    have hd : (a.dropWhile digC).length ≤ a.length := (List.dropWhile_sublist _).length_le
    have lsum : a.length - (a.dropWhile digC).length = (a.takeWhile digC).length := by
      have := congrArg List.length (List.takeWhile_append_dropWhile (p := digC) (l := a))
      rw [List.length_append] at this
      omega
    have hl2 : (Sx (a.dropWhile digC)).length ≤ sizeLine := by rw [Sx_len]; exact Nat.le_trans hd (Nat.le_trans ha (by decide))
    walk_at "st"
    refine r_slTo ha (by rw [Sx_len, Sx_len]; omega) ?_
    rw [Sx_len, Sx_len, show ((a.length : Int) - ((a.dropWhile digC).length : Int)).toNat = (a.takeWhile digC).length by omega]
    have et : a.take (a.takeWhile digC).length = a.takeWhile digC := by
      exact take_tw digC a
    rw [et]
    walk_at "st"
    have e2 : decide (V.str (Sx (a.takeWhile digC)) = V.str (Str.ofString "")) = decide (a.takeWhile digC = []) := by
      refine decide_eq_decide.mpr ⟨fun z => ?_, fun z => by rw [z]; rfl⟩
      injection z with z
      exact SX.S_inj (z.trans (show Str.ofString "" = SX.S [] from rfl))
    rw [e2]
    refine r_ite (fun h4 => ?_) (fun h4 => ?_)
    · walk_at "st"
      intro t ht
      refine q t _ (Same.upd_new ht) ?_
      rw [upd_same]
      unfold partC
      rw [if_pos h4]; rfl
    · have hl3 : (Sx (numC p)).length ≤ sizeLine := by rw [Sx_len]; exact Nat.le_trans (numC_le (by omega)) (by decide)
      walk_at "st"
      rw [Sx_len]
      refine ⟨a.takeWhile digC, _, rfl, by have := (List.takeWhile_sublist (l := a) digC).length_le; omega, by have := numC_le (p := p) (by omega); omega, fun H1 s1 => ?_⟩
      walk_at "st"
      intro t ht
      refine q t _ (s1.trans (Same.upd_new ht)) ?_
      rw [upd_same]
      unfold partC
      rw [if_neg h4]
theorem ok_form_text (T : Tx K mg)  {f : Addr} {fd : FuncData} (F : Here K mg "form_text" s_form_text ["form"] f fd) : Cal P w K mg base "form_text" 1 ["form"] (sp_form_text K) s_form_text f fd := by
  refine F.cal sc_form_text (fun vs H Q E h => ?_) (fun cdv A outer s H vs Q E hr h => ?_)
  · obtain ⟨a, n, ts, rfl, _⟩ := h
    rfl
  · obtain ⟨a, n, ts, rfl, ⟨a, b, us, e1, ha, hb, hts⟩, hn, ht0, lts, q⟩ := h
    cases e1
    refine ⟨_, (pss_cons (ps_asg (pv 0) (castPG (K := K) (n := 2) (pg_tup rfl (pgs_cons (pg_name (i := 1) sc_form_text.nd rfl (by first | exact .inl rfl | exact .inr rfl)) (pgs_cons (pg_name (i := 2) sc_form_text.nd rfl (by first | exact .inl rfl | exact .inr rfl)) pgs_nil)))))
      (pss_cons (ps_set (i := 3) sc_form_text.nd rfl (by first | exact .inl rfl | exact .inr rfl) (pe_ifExp (PW.pt (pw_or (pt_cmpR op_ne (pv 1) pe_int (nomark _)) (pw_or1 (pt_not (pt_truthK (K := K) (pv 2) (by intro _; rfl)))))) (pe_lst (pa_cons (pe_callTy cr_strOf (by rfl) T.m_str (by decide +kernel) (pa_cons (pv 1) pa_nil)) pa_nil)) (pe_lst pa_nil)))
      (pss_one (ps_ret (castM1 (K := K) (pe_join pe_str (pe_op op_cat (pv 3) (pe_lc rfl sc_form_text.nd (pi_tupK (K := K) (pv 2)) (blkOk_by (own := [("place", 4), ("k", 5)]) (N := ["form", "n", "terms", "first", "place", "k"]) (sc := (defScope s_form_text)) (by decide +kernel)) (fun _ _ _ _ _ => (castPG (K := K) (n := 2) (pg_tup rfl (pgs_cons (pg_name (i := 4) sc_form_text.nd rfl (by first | exact .inl rfl | exact .inr rfl)) (pgs_cons (pg_name (i := 5) sc_form_text.nd rfl (by first | exact .inl rfl | exact .inr rfl)) pgs_nil))))) (fun _ _ _ _ _ => pts_nil) (fun _ _ _ _ _ => (pe_ifExp (pt_cmpR op_eq (pv 5) pe_int (nomark _)) (pv 4) (pe_joined (.cons (pe_fmt (pv 5)) (.cons (pe_fmt (pv 4)) .nil))))))))))))), ?_⟩
    repeat ((fail_if_success (with_reducible refine r_ife ?_)); (walk_at "st1"))
    have lus : us.length = ts.length := hts.1
    refine r_ifG (fun x H' => ∃ l, x = .ref l ∧ Same H H' ∧ H' l = some (.lst ((if n ≠ 0 ∨ ts = [] then [numC n] else []).map fun a => V.str (Sx a)))) (fun x H' g => ?_) (fun Q' hQ' => ?_)
    · obtain ⟨l, rfl, s1, el⟩ := g
      have hb1 := s1 _ _ hb
      walk_at "st"
      intro D hD
      have el1 := hl_new el hD (u := .lst [])
      refine lc_map (walk_tup (xs := us)) (by omega) hD (fun i y _ => ∃ x, ts[i]? = some x ∧ y = .str (Sx (termC x))) (fun _ _ _ _ h _ => h) (fun _ _ _ _ _ h _ => h) (fun H'' k => SqT.of (k _ _ hb1)) (fun i H1 x H2 y => by rw [y.1]; exact Same.refl _)
        (fun i x H1 H2 Y No hi sm y hY => ?_) (fun ys H2 ely sm eD hys => ?_)
      · obtain ⟨rfl, ex⟩ := y
        obtain ⟨⟨z, k⟩, ez, t, rfl, ht⟩ := hts.2 i x ex
        have ht2 := sm _ _ (s1 _ _ ht)
        have hx := ht0 _ (List.mem_of_getElem? ez)
        refine ⟨t, _, rfl, SqT.of ht2, rfl, ?_⟩
        walk_at "st"
        refine ⟨rfl, ?_⟩
        walk_at "st"
        have e1 : decide (V.int k = V.int 1) = decide (k = 1) := decide_eq_decide.mpr ⟨fun h => by injection h, fun h => by rw [h]⟩
        rw [e1]
        refine r_ite (fun h => ?_) (fun h => ?_)
        · walk_at "st"
          refine hY _ _ (Same.refl _) ⟨_, ez, ?_⟩
          unfold termC
          rw [if_pos h, List.nil_append, Sx_cs]
        · have hz : z.length ≤ 100 := by rw [← cs_len]; exact hx.1
          have hn7 : (numC k).length ≤ 7 := numC_le (by have := hx.2.2; show k ≤ 1000000; have e : (z, k).2 = k := rfl; omega)
          have sl : (1000000 : Nat) ≤ sizeLine := by decide
          have hz2 : (cs z).length ≤ 100 := hx.1
          refine r_tjs ?_
          refine r_fmtVI (k := k) rfl (by have := hx.2; exact ⟨this.1, by have := this.2; show k ≤ 1000000; have e : (z, k).2 = k := rfl; omega⟩) ?_
          have e3 : Str.empty ++ Sx (numC k) = Sx (numC k) := SX.S_cat [] (numC k)
          refine ⟨_, rfl, by rw [e3, Sx_len]; omega, ?_⟩
          rw [e3]
          refine r_tjs ?_
          refine r_fmtVS (z := z) rfl (by omega) ?_
          have e4 : Sx (numC k) ++ z = Sx (termC (z, k)) := by
            unfold termC
            rw [if_neg h]
            have := SX.S_cat (numC k) (cs z)
            rw [show SX.S (cs z) = z from Sx_cs z] at this
            exact this
          refine ⟨_, rfl, by rw [e4, Sx_len]; unfold termC; rw [if_neg h, List.length_append]; show (numC k).length + (cs z).length ≤ _; omega, ?_⟩
          rw [e4]
          exact hY _ _ (Same.refl _) ⟨_, ez, rfl⟩
      · have e5 : ys = ts.map fun x => V.str (Sx (termC x)) := by
          apply List.ext_getElem?
          intro i
          cases e : ys[i]? with
          | none =>
            rw [List.getElem?_eq_none_iff] at e
            rw [List.getElem?_eq_none_iff.mpr (by rw [List.length_map]; omega)]
          | some y =>
            obtain ⟨x, h1, rfl⟩ := hys i y e
            rw [List.getElem?_map, h1]; rfl
        subst e5
        have el2 := sm _ _ el
        have l1 : ((if n ≠ 0 ∨ ts = [] then [numC n] else []) : List (List Nat)).length ≤ 1 := by split <;> simp
        have sl : (1000000 : Nat) ≤ sizeLine := by decide
        refine r_cat el2 eD (by rw [List.length_map, List.length_map]; omega) fun l3 hl3 => ?_
        have ep : ((if n ≠ 0 ∨ ts = [] then [numC n] else []).map fun a => V.str (Sx a)) ++ (ts.map fun x => V.str (Sx (termC x))) = ((partsC n ts).map Sx).map V.str := by
          unfold partsC
          rw [List.map_append, List.map_append, List.map_map, List.map_map, List.map_map]; rfl
        rw [ep]
        have hsum : ∀ qs : List (List Nat), (∀ q ∈ qs, q.length ≤ 200) → ((qs.map Sx).map (·.length)).sum ≤ 200 * qs.length := fun qs => by
          induction qs with
          | nil => intro _; simp
          | cons q0 qs ih =>
            intro h
            rw [List.map_cons, List.map_cons, List.sum_cons, List.length_cons, Sx_len]
            have := ih fun x m => h x (List.mem_cons_of_mem _ m)
            have := h q0 List.mem_cons_self
            omega
        have hpl : (partsC n ts).length ≤ 1001 := by
          unfold partsC
          rw [List.length_append, List.length_map]
          omega
        have hs2 := hsum (partsC n ts) fun q0 m => by
          unfold partsC at m
          rcases List.mem_append.mp m with m | m
          · split at m
            · rw [List.mem_singleton.mp m]; have := numC_le (p := n) (by omega); omega
            · cases m
          · obtain ⟨x, hx, rfl⟩ := List.mem_map.mp m
            have h1 := ht0 x hx
            have h2 := numC_le (p := x.2) (by omega)
            unfold termC
            rw [List.length_append]
            split
            · simp; omega
            · omega
        refine r_joinS (SqL.of upd_same) ?_ ?_
        · rw [List.length_map]
          have : (Str.ofString "+").length = 1 := rfl
          rw [this]
          omega
        · have : Txt.join (Str.ofString "+") ((partsC n ts).map Sx) = Sx (textC n ts) := SX.join_S [43] (partsC n ts)
          rw [this]
          exact q _ ((s1.trans sm).trans (Same.upd_new hl3))
    · walk_at "st"
      have e1 : (!decide (V.int n = V.int 0)) = decide (n ≠ 0) := by
        rw [← decide_not]
        exact decide_eq_decide.mpr ⟨fun h z => h (by rw [z]), fun h z => h (by injection z)⟩
      rw [e1]
      have yes : n ≠ 0 ∨ ts = [] → ∀ l, H l = none → Q' (.ref l) (upd H l (.lst [V.str (Sx (numC n))])) := fun c l hl => hQ' _ _ ⟨l, rfl, Same.upd_new hl, by rw [if_pos c]; exact upd_same⟩
      have no : ¬ (n ≠ 0 ∨ ts = []) → ∀ l, H l = none → Q' (.ref l) (upd H l (.lst [])) := fun c l hl => hQ' _ _ ⟨l, rfl, Same.upd_new hl, by rw [if_neg c]; exact upd_same⟩
      refine r_ite (fun h => ?_) (fun h => ?_)
      · walk_at "st"
        intro l hl
        exact yes (.inl h) l hl
      · walk_at "st"
        cases ts with
        | nil =>
          have : us = [] := List.length_eq_zero_iff.mp lus
          subst this
          walk_at "st"
          refine r_iteB (fun _ => ?_) (fun h => by cases h)
          walk_at "st"
          intro l hl
          exact yes (.inr rfl) l hl
        | cons x ts =>
          cases us with
          | nil => simp at lus
          | cons u us =>
            walk_at "st"
            refine r_iteB (fun h => by cases h) (fun _ => ?_)
            walk_at "st"
            intro l hl
            exact no (fun c => c.elim h (fun z => by cases z)) l hl
end
local macro_rules | `(tactic| walk_at "ssz") => `(tactic| first | decide | exact str_small (by assumption) | (have : (1000000 : Nat) ≤ sizeLine := (by decide); omega))
local macro_rules | `(tactic| walk_at "st1") => `(tactic| first
  | with_reducible refine' r_nt ?_ | with_reducible refine' r_nf ?_
  | ((with_reducible refine r_lenS ?e1 ?_); (case e1 => walk_at "ssz"))
  | with_reducible refine r_inS ?_
  | with_reducible refine r_ninS ?_
  | ((with_reducible refine r_addS ?e1 ?_); (case e1 => walk_at "ssz"))
  | ((with_reducible refine' r_ixS ?e1 ?e2 ?_); (case e1 => walk_at "ssz"); (case e2 => first | assumption | rfl))
  | with_reducible refine r_istr ?_
  | with_reducible refine r_is ?_
  | with_reducible refine r_un ?_
  | with_reducible refine r_u ?_)
local macro_rules | `(tactic| walk_at "st1") => `(tactic| first
  | with_reducible refine r_par ?_
  | with_reducible refine r_parx ?_
  | ((with_reducible refine' r_gtup ?e1 ?e2 ?_); (case e1 => walk_at "sq"); (case e2 => rfl))
  | with_reducible refine r_gcons ?_
  | with_reducible refine r_gnil ?_
  | with_reducible refine r_disp ?_
  | with_reducible refine r_tp1 ?_
  | with_reducible refine r_tp0 ?_
  | ((with_reducible refine' r_dp1 ?e1 ?_); (case e1 => walk_at "hl"))
  | with_reducible refine r_dnewK ?_
  | with_reducible refine r_dget2 ?_
  | ((with_reducible refine' r_dg2 ?e1 ?_); (case e1 => walk_at "hl"))
  | ((with_reducible refine' r_dg3 ?e1 ?_); (case e1 => walk_at "hl"))
  | with_reducible refine r_dget ?_
  | ((with_reducible refine' r_dgv ?e1 ?e2 ?_); (case e1 => walk_at "hl"); (case e2 => assumption))
  | ((with_reducible refine' r_setD ?e1 ?e2 ?_); (case e1 => walk_at "hl"); (case e2 => omega)))
local macro_rules | `(tactic| walk_at "st1") => `(tactic| first
  | with_reducible refine r_tru ?_
  | ((with_reducible refine' r_truT ?e1 ?_); (case e1 => walk_at "sq"))
  | with_reducible refine r_isN ?_
  | with_reducible refine r_tyS ?_
  | with_reducible refine r_m1 ?_
  | with_reducible refine r_sx ?_
  | ((with_reducible refine r_strC ?e1 ?_); (case e1 => omega)))
/-! ### what is a form among what texts tell -/
def pairO (y : Str × Option Int) : O := .tup [.str y.1, optO y.2]
def dataO (n : Int) (L : List (Str × Option Int)) : O := .tup [.int n, .tup (L.map pairO)]
def someP (ts : List Tr) : List (Str × Option Int) := ts.map fun x => (x.1, some x.2)
theorem goodW.place {z : Str} (h : goodW (cs z)) : placeO (.str z) = true := by
  obtain ⟨h1, h2, ⟨c, r, e, hc⟩, h4⟩ := h
  rw [cs_len] at h1 h2
  have e1 : firstIn z "abcdefghijklmnopqrstuvwxyz" = true := by
    unfold firstIn; rw [e]; exact decide_eq_true hc
  have e2 : onlyIn z "abcdefghijklmnopqrstuvwxyz0123456789." = true := List.all_eq_true.mpr fun x m => decide_eq_true (h4 x m)
  show (decide (1 ≤ z.length) && (decide (z.length ≤ 40) && (firstIn z "abcdefghijklmnopqrstuvwxyz" && onlyIn z "abcdefghijklmnopqrstuvwxyz0123456789."))) = true
  rw [e1, e2, decide_eq_true h1, decide_eq_true h2]; rfl
theorem place_good {z : Str} (h : placeO (.str z) = true) : goodW (cs z) := by
  have h : (decide (1 ≤ z.length) && (decide (z.length ≤ 40) && (firstIn z "abcdefghijklmnopqrstuvwxyz" && onlyIn z "abcdefghijklmnopqrstuvwxyz0123456789."))) = true := h
  simp only [Bool.and_eq_true, decide_eq_true_eq] at h
  obtain ⟨h1, h2, h3, h4⟩ := h
  refine ⟨by rw [cs_len]; exact h1, by rw [cs_len]; exact h2, ?_, fun c m => ?_⟩
  · unfold firstIn at h3
    cases e : cs z with
    | nil => rw [e] at h3; cases h3
    | cons c r =>
      rw [e] at h3
      exact ⟨c, r, rfl, of_decide_eq_true h3⟩
  · unfold onlyIn at h4
    exact of_decide_eq_true (List.all_eq_true.mp h4 c m)
theorem rise_pair : ∀ {zs : List Str}, riseL zs = true → zs.Pairwise ltS
  | [], _ => .nil
  | [_], _ => List.pairwise_singleton _ _
  | x :: y :: r, h => by
    have h : (decide (cs x < cs y) && riseL (y :: r)) = true := h
    rw [Bool.and_eq_true] at h
    have ih := rise_pair h.2
    have xy : ltS x y := (show cs x < cs y from of_decide_eq_true h.1)
    refine List.pairwise_cons.mpr ⟨fun z m => ?_, ih⟩
    rcases List.mem_cons.mp m with rfl | m
    · exact xy
    · exact (show cs x < cs z from List.lt_trans (show cs x < cs y from xy) (show cs y < cs z from (List.pairwise_cons.mp ih).1 z m))
theorem pair_rise : ∀ {zs : List Str}, zs.Pairwise ltS → riseL zs = true
  | [], _ => rfl
  | [_], _ => rfl
  | x :: y :: r, h => by
    have h1 := List.pairwise_cons.mp h
    show (decide (cs x < cs y) && riseL (y :: r)) = true
    rw [Bool.and_eq_true]
    exact ⟨decide_eq_true (h1.1 y List.mem_cons_self), pair_rise h1.2⟩
theorem data_ok {p n : Int} {ts : List Tr} (h : FormOk p n ts) : formO p (dataO n (someP ts)) = true := by
  show (numO p (.int n) && ((((someP ts).map pairO)).all (termO p) && riseL (((someP ts).map pairO).map keyO))) = true
  have e : ((someP ts).map pairO).map keyO = ts.map fun x : Tr => x.1 := by
    unfold someP
    rw [List.map_map, List.map_map]; rfl
  rw [e, pair_rise h.ok.rise, Bool.and_true, Bool.and_eq_true]
  refine ⟨by simp [numO, h.num.1, h.num.2], List.all_eq_true.mpr fun o m => ?_⟩
  unfold someP at m
  rw [List.map_map] at m
  obtain ⟨x, hx, rfl⟩ := List.mem_map.mp m
  have g := h.ok.ok x hx
  show (placeO (.str x.1) && (numO p (.int x.2) && nz (.int x.2))) = true
  rw [g.1.place]
  have h1 := g.2
  simp [numO, nz]
  omega
theorem data_form {p n : Int} {L : List (Str × Option Int)} (h : formO p (dataO n L) = true) : ∃ ts, L = someP ts ∧ FormOk p n ts := by
  have h : (numO p (.int n) && ((L.map pairO).all (termO p) && riseL ((L.map pairO).map keyO))) = true := h
  simp only [Bool.and_eq_true] at h
  obtain ⟨h1, h2, h3⟩ := h
  have each : ∀ y ∈ L, ∃ k, y.2 = some k ∧ goodW (cs y.1) ∧ 1 ≤ k ∧ k < p := fun y m => by
    have g : (placeO (.str y.1) && (numO p (optO y.2) && nz (optO y.2))) = true := List.all_eq_true.mp h2 _ (List.mem_map_of_mem m)
    simp only [Bool.and_eq_true] at g
    obtain ⟨g1, g2, g3⟩ := g
    cases e : y.2 with
    | none => rw [e] at g2; simp [optO, numO] at g2
    | some k =>
      rw [e] at g2 g3
      simp [optO, numO] at g2
      simp [optO, nz] at g3
      exact ⟨k, rfl, place_good g1, by omega, g2.2⟩
  have eL : L = someP (L.map fun y => (y.1, y.2.getD 0)) := by
    unfold someP
    rw [List.map_map]
    conv => lhs; rw [← List.map_id L]
    refine List.map_congr_left fun y m => ?_
    obtain ⟨k, e, _⟩ := each y m
    show y = (y.1, some (y.2.getD 0))
    rw [e]
    exact Prod.ext rfl e
  refine ⟨_, eL, ⟨by simpa [numO] using h1, ⟨?_, fun x m => ?_⟩⟩⟩
  · have := rise_pair h3
    unfold rise
    rw [List.map_map] at this ⊢
    exact this
  · obtain ⟨y, hy, rfl⟩ := List.mem_map.mp m
    obtain ⟨k, e, g⟩ := each y hy
    show goodW (cs y.1) ∧ 1 ≤ y.2.getD 0 ∧ y.2.getD 0 < p
    rw [e]
    exact g
/-- the pairs that stand in a list or a tuple -/
def PairV (H : Hp) (v : V) (y : Str × Option Int) : Prop := ∃ t, v = .ref t ∧ H t = some (.tup [.str y.1, optV y.2])
def Prsv (H : Hp) (us : List V) (L : List (Str × Option Int)) : Prop := us.length = L.length ∧ ∀ (i : Nat) (v : V), us[i]? = some v → ∃ y, L[i]? = some y ∧ PairV H v y
theorem Prsv.rep {H : Hp} : ∀ {us : List V} {L : List (Str × Option Int)}, Prsv H us L → RepAll [] H us (L.map pairO)
  | [], [], _ => .nil
  | [], _ :: _, h => by have := h.1; simp at this
  | _ :: _, [], h => by have := h.1; simp at this
  | u :: us, y :: L, h => by
    obtain ⟨y', e, t, rfl, ht⟩ := h.2 0 u rfl
    obtain rfl : y = y' := Option.some.inj e
    refine .cons (.tup ht List.not_mem_nil (.cons (.str _) (.cons ?_ .nil))) (Prsv.rep ⟨by have := h.1; simp at this; exact this, fun i v e => h.2 (i + 1) v (by simpa using e)⟩)
    cases y.2 with
    | none => exact .non
    | some k => exact .int k
theorem Prsv.trs {H : Hp} {us : List V} {ts : List Tr} (h : Prsv H us (someP ts)) : Trs H us ts := ⟨by have := h.1; unfold someP at this; rw [List.length_map] at this; exact this, fun i v e => by
  obtain ⟨y, ey, t, rfl, ht⟩ := h.2 i v e
  unfold someP at ey
  rw [List.getElem?_map] at ey
  cases g : ts[i]? with
  | none => rw [g] at ey; cases ey
  | some x =>
    rw [g] at ey
    cases ey
    exact ⟨x, rfl, t, rfl, ht⟩⟩
theorem mem_le_sum : ∀ {l : List Nat} {x : Nat}, x ∈ l → x ≤ l.sum
  | y :: l, x, h => by
    rw [List.sum_cons]
    rcases List.mem_cons.mp h with rfl | h
    · omega
    · have := mem_le_sum h; omega
theorem prs_of {H : Hp} {ys : List V} {bs : List (List Nat)} {m : Int} (el : ys.length = bs.length) (h : ∀ (i : Nat) (y : V), ys[i]? = some y → ∃ b, bs[i]? = some b ∧ PairV H y (partC b m)) : Prsv H ys (bs.map fun b => partC b m) :=
  ⟨by rw [List.length_map]; exact el, fun i v e => by
    obtain ⟨b, eb, pv⟩ := h i v e
    exact ⟨_, by rw [List.getElem?_map, eb]; rfl, pv⟩⟩
theorem PairV.same {H H' : Hp} {v : V} {y : Str × Option Int} (h : PairV H v y) (k : Same H H') : PairV H' v y := by
  obtain ⟨t, e, ht⟩ := h
  exact ⟨t, e, k _ _ ht⟩
theorem PairV.lst {H : Hp} {v : V} {y : Str × Option Int} {D : Addr} {acc acc' : List V} (h : PairV H v y) (e : H D = some (.lst acc)) : PairV (upd H D (.lst acc')) v y := by
  obtain ⟨t, ev, ht⟩ := h
  exact ⟨t, ev, hl_set (fun z => by rw [z, e] at ht; cases ht) ht⟩
theorem Prsv.same {H H' : Hp} {us : List V} {L : List (Str × Option Int)} (h : Prsv H us L) (k : Same H H') : Prsv H' us L := ⟨h.1, fun i v e => (h.2 i v e).imp fun _ z => ⟨z.1, z.2.same k⟩⟩
def sp_read_form (_ : PySem.W.Frag) : Sp := fun vs H Q _ => ∃ (a : List Nat) (p : Int), vs = [.str (Sx a), .int p] ∧ (a.length ≤ 10000 ∧ (TL.spl [43] 0 [] a).length ≤ 1000 ∧ ∀ b ∈ TL.spl [43] 0 [] a, (b.dropWhile digC).length ≤ 1000) ∧ (2 ≤ p ∧ p ≤ 997) ∧
  (∀ (v : V) (n : Int) (ts : List Tr) (H' : Hp), Same H H' → FormOk p n ts → textC n ts = a → FrmV H' v n ts → Q v H') ∧ ((∀ n ts, FormOk p n ts → textC n ts ≠ a) → ∀ H', Same H H' → Q .non H')
section
variable {P : Program} {w : World} {K : PySem.W.Frag} {mg : Str → Option Value} {base : Heap}
theorem ok_read_form (T : Tx K mg) {f_read_figures : Addr} {fd_read_figures : FuncData} (C_read_figures : Cal P w K mg base "read_figures" 2 ["text", "most"] (sp_read_figures K) s_read_figures f_read_figures fd_read_figures) {f_is_form : Addr} {fd_is_form : FuncData} (C_is_form : Cal P w K mg base "is_form" 4 ["thing", "p"] (sp_is_form K) s_is_form f_is_form fd_is_form) {f_form_text : Addr} {fd_form_text : FuncData} (C_form_text : Cal P w K mg base "form_text" 1 ["form"] (sp_form_text K) s_form_text f_form_text fd_form_text) {f_term_of : Addr} {fd_term_of : FuncData} (C_term_of : Cal P w K mg base "term_of" 3 ["part", "p"] (sp_term_of K) s_term_of f_term_of fd_term_of) {f : Addr} {fd : FuncData} (F : Here K mg "read_form" s_read_form ["text", "p"] f fd) : Cal P w K mg base "read_form" 5 ["text", "p"] (sp_read_form K) s_read_form f fd := by
  refine F.cal sc_read_form (fun vs H Q E h => ?_) (fun cdv A outer s H vs Q E hr h => ?_)
  · obtain ⟨a, p, rfl, _⟩ := h
    rfl
  · obtain ⟨a, p, rfl, ⟨la, lp, lb⟩, hp, q1, q2⟩ := h
    refine ⟨_, (pss_cons (ps_if (pt_not (pt_val (pe_callB (cr_isiK (K := K)) (by rfl) T.m_isinstance (by decide +kernel) (pa_cons (pv 0) (pa_cons (pe_bltn (v := .ty "str") (by rfl) T.m_str (by decide +kernel) rfl) pa_nil))))) (pss_one (ps_ret pe_non)) pss_nil)
      (pss_cons (ps_set (i := 2) sc_read_form.nd rfl (by first | exact .inl rfl | exact .inr rfl) (castBM (K := K) (pe_bm PySem.F.plainAttrs_str PySem.F.slot_str_split PySem.F.type_str_split mt_splK (pv 0) (pa_cons pe_str pa_nil))))
      (pss_cons (ps_set (i := 3) sc_read_form.nd rfl (by first | exact .inl rfl | exact .inr rfl) (pe_call C_read_figures.ok (hr.mono (by decide)) (by rfl) C_read_figures.at_ C_read_figures.kp C_read_figures.b .nil pass0 (pa_cons (pe_ix (ix_listK (K := K)) (pv 2) pe_int (fun _ _ => rfl)) (pa_cons (pe_callB cr_lenS (by rfl) T.m_len (by decide +kernel) (pa_cons (pe_callTy cr_strOf (by rfl) T.m_str (by decide +kernel) (pa_cons (pv 1) pa_nil)) pa_nil)) pa_nil))))
      (pss_cons (ps_if (pt_cmpR op_isNn (pv 3) pe_non (nomark _)) (pss_one (ps_set (i := 4) sc_read_form.nd rfl (by first | exact .inl rfl | exact .inr rfl) (pe_tup (pa_cons pe_int (pa_cons (pe_callTy (cr_tupOfK (K := K)) (by rfl) T.m_tuple (by decide +kernel) (pa_cons (pe_lc rfl sc_read_form.nd (pi_listK (K := K) (pv 2)) (blkOk_by (own := [("part", 5)]) (N := ["text", "p", "parts", "n", "form", "part"]) (sc := (defScope s_read_form)) (by decide +kernel)) (fun _ _ _ _ _ => (pg_name (i := 5) sc_read_form.nd rfl (by first | exact .inl rfl | exact .inr rfl))) (fun _ _ _ _ _ => pts_nil) (fun _ _ _ _ _ => (pe_call C_term_of.ok (hr.mono (by decide)) (by rfl) C_term_of.at_ C_term_of.kp C_term_of.b .nil pass0 (pa_cons (pv 5) (pa_cons (pv 1) pa_nil))))) pa_nil)) pa_nil))))) (pss_one (ps_set (i := 4) sc_read_form.nd rfl (by first | exact .inl rfl | exact .inr rfl) (pe_tup (pa_cons (pv 3) (pa_cons (pe_callTy (cr_tupOfK (K := K)) (by rfl) T.m_tuple (by decide +kernel) (pa_cons (pe_lc rfl sc_read_form.nd (pi_listK (K := K) (pe_slice (sl_listK (K := K)) (pv 2) (po_some pe_int) po_none)) (blkOk_by (own := [("part", 5)]) (N := ["text", "p", "parts", "n", "form", "part"]) (sc := (defScope s_read_form)) (by decide +kernel)) (fun _ _ _ _ _ => (pg_name (i := 5) sc_read_form.nd rfl (by first | exact .inl rfl | exact .inr rfl))) (fun _ _ _ _ _ => pts_nil) (fun _ _ _ _ _ => (pe_call C_term_of.ok (hr.mono (by decide)) (by rfl) C_term_of.at_ C_term_of.kp C_term_of.b .nil pass0 (pa_cons (pv 5) (pa_cons (pv 1) pa_nil))))) pa_nil)) pa_nil))))))
      (pss_one (ps_ret (pe_ifExp (PW.pt (pw_and (pt_val (pe_call C_is_form.ok (hr.mono (by decide)) (by rfl) C_is_form.at_ C_is_form.kp C_is_form.b .nil pass0 (pa_cons (pv 4) (pa_cons (pv 1) pa_nil)))) (pw_and1 (pt_cmpR op_eq (pe_call C_form_text.ok (hr.mono (by decide)) (by rfl) C_form_text.at_ C_form_text.kp C_form_text.b .nil pass0 (pa_cons (pv 4) pa_nil)) (pv 0) (nomark _))))) (pv 4) pe_non))))))), ?_⟩
    walk_at "st"
    walk_at "if"
    have la2 : (Sx a).length ≤ 10000 := by rw [Sx_len]; exact la
    have es : Txt.split (Sx a) (Str.ofString "+") = (TL.spl [43] 0 [] a).map Sx := SX.split_S (a := a) (b := [43]) (by simp) (by decide)
    have wt := PyProof.Rows.split_weight (Sx a) (Str.ofString "+") (by decide)
    rw [es] at wt
    have p1 := PyProof.Rows.split_pos (Sx a) (Str.ofString "+")
    rw [es, List.length_map] at p1
    have hpart : ∀ b ∈ TL.spl [43] 0 [] a, b.length ≤ 10001 := fun b m => by
      have h1 : b.length ≤ (((TL.spl [43] 0 [] a).map Sx).map (·.length)).sum := by
        have m2 : b.length ∈ ((TL.spl [43] 0 [] a).map Sx).map (·.length) := List.mem_map.mpr ⟨Sx b, List.mem_map_of_mem m, Sx_len b⟩
        exact mem_le_sum m2
      omega
    refine ⟨_, _, rfl, rfl, rfl, by have : (1000000 : Nat) ≤ sizeLine := (by decide); omega, fun l hl => ?_⟩
    rw [es]
    have eR : ∀ n ts, FormOk p n ts → textC n ts = a → readC a (numC p).length = (n, someP ts) := fun n ts f e => by rw [← e]; exact read_text f (by omega)
    unfold readC at eR
    generalize hsp : TL.spl [43] 0 [] a = parts at *
    cases parts with
    | nil => simp at p1
    | cons x0 rest =>
    have el : upd H l (.lst (((x0 :: rest).map Sx).map V.str)) l = some (.lst (((x0 :: rest).map Sx).map V.str)) := upd_same
    have s1 : Same H (upd H l (.lst (((x0 :: rest).map Sx).map V.str))) := Same.upd_new hl
    generalize upd H l (.lst (((x0 :: rest).map Sx).map V.str)) = H1 at *
    have ix : atI (((x0 :: rest).map Sx).map V.str) 0 = some (V.str (Sx x0)) := (show atI _ ((0 : Nat) : Int) = _ from atI_nat rfl)
    have hl3 : (Sx (numC p)).length ≤ sizeLine := by rw [Sx_len]; exact Nat.le_trans (numC_le (by omega)) (by decide)
    walk_at "st"
    rw [Sx_len]
    refine ⟨x0, _, rfl, by have := hpart x0 List.mem_cons_self; omega, by have := numC_le (p := p) (by omega); omega, fun H2 s2 => ?_⟩
    walk_at "st"
    have el2 := s2 _ _ el
    refine r_join (fun σ' H' => ∃ (f b : Addr) (us : List V) (L : List (Str × Option Int)) (n' : Int) (x3 : Option V), σ' = [some (.str (Sx a)), some (.int p), some (.ref l), x3, some (.ref f), none] ∧ Same H H' ∧ H' f = some (.tup [.int n', .ref b]) ∧ H' b = some (.tup us) ∧ Prsv H' us L ∧
      (∀ n ts, FormOk p n ts → textC n ts = a → (n', L) = (n, someP ts)) ∧ L.length ≤ 1000 ∧ ∀ y ∈ L, y.1.length ≤ 1000) (fun σ' H' g => ?_) (fun N hN => ?_)
    · obtain ⟨f, b, us, L, n', x3, rfl, s3, ef, eb, pv, eL, lL, ly⟩ := g
      walk_at "st"
      have rep : Rep [] H' (.ref f) (dataO n' L) := .tup ef List.not_mem_nil (.cons (.int n') (.cons (.tup eb List.not_mem_nil pv.rep) .nil))
      refine ⟨[], .ref f, dataO n' L, p, rfl, rep, ⟨by rw [List.length_map]; exact lL, fun t m => ?_⟩, fun H3 s4 => ?_⟩
      · obtain ⟨y, hy, rfl⟩ := List.mem_map.mp m
        exact ly y hy
      have none_of : (∀ ts, L = someP ts → FormOk p n' ts → textC n' ts ≠ a) → ∀ H5, Same H H5 → Q .non H5 := fun z H5 k => q2 (fun n ts f0 e => by
        have := eL n ts f0 e
        injection this with e1 e2
        subst e1
        exact z ts e2 f0 e) H5 k
      cases hF : formO p (dataO n' L) with
      | false =>
        walk_at "st"
        refine none_of (fun ts e f0 _ => ?_) _ (s3.trans s4)
        rw [e, data_ok f0] at hF
        cases hF
      | true =>
        obtain ⟨ts, rfl, f0⟩ := data_form hF
        have fv : FrmV H3 (.ref f) n' ts := ⟨f, b, us, rfl, s4 _ _ ef, s4 _ _ eb, (pv.same s4).trs⟩
        walk_at "st"
        refine ⟨f, n', ts, rfl, fv, by have := f0.num; omega, fun x m => ?_, by unfold someP at lL; rw [List.length_map] at lL; exact lL, fun H5 s5 => ?_⟩
        · have g := f0.ok.ok x m
          exact ⟨by have := g.1.2.1; omega, by omega, by omega⟩
        walk_at "st"
        have e6 : decide (V.str (Sx (textC n' ts)) = V.str (Sx a)) = decide (textC n' ts = a) := by
          refine decide_eq_decide.mpr ⟨fun z => ?_, fun z => by rw [z]⟩
          injection z with z
          exact SX.S_inj z
        rw [e6]
        refine r_ite (fun h => ?_) (fun h => ?_)
        · walk_at "st"
          exact q1 _ n' ts H5 ((s3.trans s4).trans s5) f0 h (fv.to (Tups.same s5))
        · walk_at "st"
          refine none_of (fun ts' e f1 e2 => h ?_) _ ((s3.trans s4).trans s5)
          have : ts = ts' := by
            unfold someP at e
            have inj : ∀ {a b : List Tr}, (a.map fun x => (x.1, some x.2)) = (b.map fun x => (x.1, some x.2)) → a = b := fun {a} => by
              induction a with
              | nil => intro b e; cases b with
                | nil => rfl
                | cons _ _ => simp at e
              | cons x a ih => intro b e; cases b with
                | nil => simp at e
                | cons y b =>
                  rw [List.map_cons, List.map_cons] at e
                  injection e with e1 e2
                  injection e1 with e3 e4
                  rw [ih e2, show x = y from Prod.ext e3 (Option.some.inj e4)]
            exact inj e
          rw [this]; exact e2
    · walk_at "if"
      have len1 : (x0 :: rest).length ≤ 1000 := lp
      have bnd : ∀ bs : List (List Nat), (∀ b ∈ bs, b ∈ x0 :: rest) → ∀ y ∈ bs.map (fun b => partC b (numC p).length), y.1.length ≤ 1000 := fun bs h y m => by
        obtain ⟨b, hb, rfl⟩ := List.mem_map.mp m
        show (Sx (b.dropWhile digC)).length ≤ 1000
        rw [Sx_len]
        exact lb b (h b hb)
      cases hf : figC x0 (numC p).length with
      | none =>
        have eR : ∀ n ts, FormOk p n ts → textC n ts = a → ((0 : Int), (x0 :: rest).map fun b => partC b (numC p).length) = (n, someP ts) := fun n ts f e => by
          have := eR n ts f e
          simp only [hf] at this
          exact this
        refine r_ite (fun _ => ?_) (fun h => absurd rfl h)
        walk_at "st"
        intro D hD
        refine lc_map (walk_list (xs := ((x0 :: rest).map Sx).map V.str)) (by rw [List.length_map, List.length_map]; omega) hD (fun i y H' => ∃ b, (x0 :: rest)[i]? = some b ∧ PairV H' y (partC b (numC p).length)) (fun i v H3 H4 h k => h.imp fun _ z => ⟨z.1, z.2.same k⟩) (fun i v H3 acc acc' h e => h.imp fun _ z => ⟨z.1, z.2.lst e⟩) (fun H' k => SqL.of (k _ _ el2)) (fun i H1 x H2 y => by rw [y.1]; exact Same.refl _)
          (fun i x H3 H4 Y No hi sm y hY => ?_) (fun ys H3 ely sm eD hys => ?_)
        · obtain ⟨rfl, ex⟩ := y
          rw [List.map_map, List.getElem?_map] at ex
          cases eb : (x0 :: rest)[i]? with
          | none => rw [eb] at ex; cases ex
          | some b =>
            rw [eb] at ex
            cases ex
            have mb := (fun b m => m) b (List.mem_of_getElem? eb)
            refine ⟨rfl, ?_⟩
            walk_at "st"
            refine ⟨b, p, rfl, by have := hpart b mb; omega, hp, fun t H5 s5 et => ?_⟩
            exact hY _ _ s5 ⟨b, eb, t, rfl, et⟩
        · have pv := prs_of (bs := x0 :: rest) (by rw [ely, List.length_map, List.length_map]) hys
          walk_at "st"
          intro bt hbt
          walk_at "st"
          intro ft hft
          have S6 : Same H3 (upd (upd H3 bt (.tup ys)) ft (.tup [V.int 0, V.ref bt])) := (Same.upd_new hbt).trans (Same.upd_new hft)
          exact hN _ _ ⟨ft, bt, ys, _, 0, _, rfl, ((s1.trans s2).trans sm).trans S6, upd_same, hl_new upd_same hft, pv.same S6, eR, by rw [List.length_map]; exact len1, bnd _ (fun b m => m)⟩
      | some n0 =>
        have eR : ∀ n ts, FormOk p n ts → textC n ts = a → (n0, rest.map fun b => partC b (numC p).length) = (n, someP ts) := fun n ts f e => by
          have := eR n ts f e
          simp only [hf] at this
          exact this
        refine r_ite (fun h => by cases h) (fun _ => ?_)
        show (tAsg _ _) _ _ _
        walk_at "st"
        intro q hq
        have ecut : cutV (((x0 :: rest).map Sx).map V.str) (some 1) none = (rest.map Sx).map V.str := by rw [cut_from1]; rfl
        rw [ecut]
        have eq0 : upd H2 q (.lst ((rest.map Sx).map V.str)) q = some (.lst ((rest.map Sx).map V.str)) := upd_same
        walk_at "st"
        intro D hD
        refine lc_map (walk_list (xs := (rest.map Sx).map V.str)) (by rw [List.length_map, List.length_map]; simp at len1; omega) hD (fun i y H' => ∃ b, rest[i]? = some b ∧ PairV H' y (partC b (numC p).length)) (fun i v H3 H4 h k => h.imp fun _ z => ⟨z.1, z.2.same k⟩) (fun i v H3 acc acc' h e => h.imp fun _ z => ⟨z.1, z.2.lst e⟩) (fun H' k => SqL.of (k _ _ eq0)) (fun i H1 x H2 y => by rw [y.1]; exact Same.refl _)
          (fun i x H3 H4 Y No hi sm y hY => ?_) (fun ys H3 ely sm eD hys => ?_)
        · obtain ⟨rfl, ex⟩ := y
          rw [List.map_map, List.getElem?_map] at ex
          cases eb : (rest)[i]? with
          | none => rw [eb] at ex; cases ex
          | some b =>
            rw [eb] at ex
            cases ex
            have mb : b ∈ x0 :: rest := List.mem_cons_of_mem _ (List.mem_of_getElem? eb)
            refine ⟨rfl, ?_⟩
            walk_at "st"
            refine ⟨b, p, rfl, by have := hpart b mb; omega, hp, fun t H5 s5 et => ?_⟩
            exact hY _ _ s5 ⟨b, eb, t, rfl, et⟩
        · have pv := prs_of (bs := rest) (by rw [ely, List.length_map, List.length_map]) hys
          walk_at "st"
          intro bt hbt
          walk_at "st"
          intro ft hft
          have S6 : Same H3 (upd (upd H3 bt (.tup ys)) ft (.tup [V.int n0, V.ref bt])) := (Same.upd_new hbt).trans (Same.upd_new hft)
          exact hN _ _ ⟨ft, bt, ys, _, n0, _, rfl, (((s1.trans s2).trans (Same.upd_new hq)).trans sm).trans S6, upd_same, hl_new upd_same hft, pv.same S6, eR, by rw [List.length_map]; (simp at len1; omega), bnd _ (fun b m => List.mem_cons_of_mem _ m)⟩
end
local macro_rules | `(tactic| walk_at "st1") => `(tactic| first
  | with_reducible refine r_par ?_
  | with_reducible refine r_parx ?_
  | ((with_reducible refine' r_gtup ?e1 ?e2 ?_); (case e1 => walk_at "sq"); (case e2 => rfl))
  | with_reducible refine r_gcons ?_
  | with_reducible refine r_gnil ?_
  | with_reducible refine r_disp ?_
  | with_reducible refine r_tp1 ?_
  | with_reducible refine r_tp0 ?_
  | ((with_reducible refine' r_dp1 ?e1 ?_); (case e1 => walk_at "hl"))
  | with_reducible refine r_dnewK ?_
  | with_reducible refine r_dget2 ?_
  | ((with_reducible refine' r_dg2 ?e1 ?_); (case e1 => walk_at "hl"))
  | ((with_reducible refine' r_dg3 ?e1 ?_); (case e1 => walk_at "hl"))
  | with_reducible refine r_dget ?_
  | ((with_reducible refine' r_dgv ?e1 ?e2 ?_); (case e1 => walk_at "hl"); (case e2 => assumption))
  | ((with_reducible refine' r_setD ?e1 ?e2 ?_); (case e1 => walk_at "hl"); (case e2 => omega)))
/-! ### what sums are worth by a table -/
def sumW (D ts : List Tr) : Int := (ts.map fun x : Tr => x.2 * (getT D x.1).getD 0).sum
theorem sum_addF {α : Type} (f g : α → Int) : ∀ Z : List α, (Z.map fun z => f z + g z).sum = (Z.map f).sum + (Z.map g).sum
  | [] => rfl
  | z :: Z => by
    rw [List.map_cons, List.map_cons, List.map_cons, List.sum_cons, List.sum_cons, List.sum_cons, sum_addF f g Z]
    omega
theorem sum_zero {α : Type} (f : α → Int) : ∀ Z : List α, (∀ z ∈ Z, f z = 0) → (Z.map f).sum = 0
  | [], _ => rfl
  | z :: Z, h => by
    rw [List.map_cons, List.sum_cons, h z List.mem_cons_self, sum_zero f Z fun y m => h y (List.mem_cons_of_mem _ m)]; rfl
theorem sum_one (d : Str → Int) (y : Str) (k : Int) : ∀ Z : List Str, Z.Nodup → (Z.map fun z => (if y = z then k else 0) * d z).sum = if y ∈ Z then k * d y else 0
  | [], _ => by simp
  | z :: Z, nd => by
    have nd2 := List.nodup_cons.mp nd
    rw [List.map_cons, List.sum_cons, sum_one d y k Z nd2.2]
    by_cases c : y = z
    · subst c
      rw [if_pos rfl, if_neg nd2.1, if_pos List.mem_cons_self, Int.add_zero]
    · rw [if_neg c, Int.zero_mul, Int.zero_add]
      by_cases e : y ∈ Z
      · rw [if_pos e, if_pos (List.mem_cons_of_mem _ e)]
      · rw [if_neg e, if_neg fun m => (List.mem_cons.mp m).elim c e]
theorem sum_coef (d : Str → Int) (Z : List Str) (nd : Z.Nodup) : ∀ ps : List Tr, (∀ x ∈ ps, x.1 ∈ Z) → (ps.map fun x : Tr => x.2 * d x.1).sum = (Z.map fun z => coef ps z * d z).sum
  | [], _ => by
    rw [sum_zero (fun z => coef [] z * d z) Z fun z _ => by rw [coef_nil, Int.zero_mul]]; rfl
  | x :: ps, h => by
    have ih := sum_coef d Z nd ps fun y m => h y (List.mem_cons_of_mem _ m)
    rw [List.map_cons, List.sum_cons, ih]
    have e : (Z.map fun z => coef (x :: ps) z * d z) = Z.map fun z => (if x.1 = z then x.2 else 0) * d z + coef ps z * d z := List.map_congr_left fun z _ => by rw [coef_cons, Int.add_mul]
    rw [e, sum_addF, sum_one d x.1 x.2 Z nd, if_pos (h x List.mem_cons_self)]
theorem cover : ∀ l : List Str, ∃ Z : List Str, Z.Nodup ∧ ∀ x ∈ l, x ∈ Z
  | [] => ⟨[], List.nodup_nil, fun x m => m⟩
  | y :: l => by
    obtain ⟨Z, nd, h⟩ := cover l
    by_cases c : y ∈ Z
    · exact ⟨Z, nd, fun x m => (List.mem_cons.mp m).elim (fun e => e ▸ c) (h x)⟩
    · exact ⟨y :: Z, List.nodup_cons.mpr ⟨c, nd⟩, fun x m => (List.mem_cons.mp m).elim (fun e => e ▸ List.mem_cons_self) fun m => List.mem_cons_of_mem _ (h x m)⟩
theorem Canon.coef {p : Int} {ps ts : List Tr} (h : Canon p ps ts) (z : Str) : Z.coef ts z = Z.coef ps z % p := by
  by_cases c : Z.coef ps z % p = 0
  · rw [c]
    refine coef_out fun m => ?_
    obtain ⟨⟨z', k⟩, hx, rfl⟩ := List.mem_map.mp m
    obtain ⟨e, ne⟩ := (h.mem z' k).mp hx
    exact ne (e.trans c)
  · exact coef_in h.rise.nodup ((h.mem z _).mpr ⟨rfl, c⟩)
theorem dvd_sum {α : Type} {p : Int} (f : α → Int) : ∀ Z : List α, (∀ z, p ∣ f z) → p ∣ (Z.map f).sum
  | [], _ => ⟨0, by simp⟩
  | z :: Z, h => by
    rw [List.map_cons, List.sum_cons]
    exact Int.dvd_add (h z) (dvd_sum f Z h)
theorem emod_dvd {p a b : Int} (h : p ∣ a - b) : a % p = b % p := Int.emod_eq_emod_iff_emod_sub_eq_zero.mpr (Int.emod_eq_zero_of_dvd h)
theorem dvd_emod {p : Int} (a : Int) : p ∣ a % p - a := by
  have := Int.emod_add_mul_ediv a p
  exact ⟨-(a / p), by rw [Int.mul_neg]; omega⟩
theorem Canon.sumW {p : Int} {ps ts : List Tr} (h : Canon p ps ts) (D : List Tr) : p ∣ Z.sumW D ts - Z.sumW D ps := by
  obtain ⟨Zs, nd, hZ⟩ := cover (ps.map (fun x : Tr => x.1) ++ ts.map fun x : Tr => x.1)
  have e1 := sum_coef (fun z => (getT D z).getD 0) Zs nd ps fun x m => hZ _ (List.mem_append_left _ (List.mem_map.mpr ⟨x, m, rfl⟩))
  have e2 := sum_coef (fun z => (getT D z).getD 0) Zs nd ts fun x m => hZ _ (List.mem_append_right _ (List.mem_map.mpr ⟨x, m, rfl⟩))
  unfold Z.sumW
  rw [e1, e2]
  have e3 : (Zs.map fun z => Z.coef ts z * (getT D z).getD 0) = Zs.map fun z => (Z.coef ps z % p - Z.coef ps z) * (getT D z).getD 0 + Z.coef ps z * (getT D z).getD 0 := List.map_congr_left fun z _ => by
    rw [h.coef, ← Int.add_mul]; congr 1; omega
  rw [e3, sum_addF, Int.add_sub_cancel]
  exact dvd_sum _ _ fun z => Int.dvd_mul_of_dvd_left (dvd_emod _)
theorem sumW_app (D a b : List Tr) : sumW D (a ++ b) = sumW D a + sumW D b := by
  unfold sumW; rw [List.map_append, List.sum_append]
theorem sumW_mul (D : List Tr) (k : Int) : ∀ ts : List Tr, sumW D (mulT k ts) = sumW D ts * k
  | [] => by show (0 : Int) = 0 * k; rw [Int.zero_mul]
  | x :: ts => by
    have ih := sumW_mul D k ts
    unfold sumW mulT at ih ⊢
    rw [List.map_cons, List.map_cons, List.sum_cons, List.map_cons, List.sum_cons, ih, Int.add_mul]
    congr 1
    show x.2 * k * _ = x.2 * _ * k
    rw [Int.mul_assoc, Int.mul_assoc, Int.mul_comm k]
theorem W_sum {p n m : Int} {a b rs : List Tr} (D : List Tr) (h : Canon p (a ++ b) rs) : ((n + m) % p + sumW D rs) % p = ((n + sumW D a) % p + (m + sumW D b) % p) % p := by
  rw [Int.emod_add_emod, Int.emod_add_emod, Int.add_emod_emod]
  refine emod_dvd ?_
  have := h.sumW D
  rw [sumW_app] at this
  have e : n + m + sumW D rs - (n + sumW D a + (m + sumW D b)) = sumW D rs - (sumW D a + sumW D b) := by omega
  rw [e]; exact this
theorem W_times {p n k : Int} {ts rs : List Tr} (D : List Tr) (h : Canon p (mulT k ts) rs) : (n * k % p + sumW D rs) % p = (n + sumW D ts) % p * k % p := by
  rw [Int.emod_add_emod, Int.mul_emod ((n + sumW D ts) % p), Int.emod_emod, ← Int.mul_emod]
  refine emod_dvd ?_
  have := h.sumW D
  rw [sumW_mul] at this
  have e : n * k + sumW D rs - (n + sumW D ts) * k = sumW D rs - sumW D ts * k := by rw [Int.add_mul]; omega
  rw [e]; exact this
/-- the table of what forms are worth -/
def pastT (p : Int) (D : List Tr) (F : List Fm) : List Tr := F.map fun x => (x.1, (x.2.1 + sumW D x.2.2) % p)
theorem past_get {p : Int} {D : List Tr} {F : List Fm} {z : Str} (h : z ∈ F.map fun x : Fm => x.1) : (getT (pastT p D F) z).getD 0 = ((look F z).1 + sumW D (look F z).2) % p := by
  unfold getT pastT look
  rw [List.find?_map]
  have e : ((fun x : Tr => decide (x.1 = z)) ∘ fun x : Fm => ((x.1, (x.2.1 + sumW D x.2.2) % p) : Tr)) = fun x : Fm => decide (x.1 = z) := rfl
  rw [e]
  cases g : F.find? fun x => decide (x.1 = z) with
  | none =>
    obtain ⟨x, hx, ex⟩ := List.mem_map.mp h
    have := List.find?_eq_none.mp g x hx
    exact absurd (decide_eq_true ex) (by simpa using this)
  | some f => rfl
theorem W_put {p n : Int} {ts rs : List Tr} {F : List Fm} (D : List Tr) (h : Canon p (putP F ts) rs) (hk : ∀ x ∈ ts, x.1 ∈ F.map fun x : Fm => x.1) : ((n + putN F ts) % p + sumW D rs) % p = (n + sumW (pastT p D F) ts) % p := by
  rw [Int.emod_add_emod]
  refine emod_dvd ?_
  have h1 := h.sumW D
  have h2 : p ∣ putN F ts + sumW D (putP F ts) - sumW (pastT p D F) ts := by
    clear h h1
    induction ts with
    | nil => exact ⟨0, by simp [putN, putP, sumW]⟩
    | cons x ts ih =>
      have ih := ih fun y m => hk y (List.mem_cons_of_mem _ m)
      have e1 : putN F (x :: ts) = (look F x.1).1 * x.2 + putN F ts := by unfold putN; rw [List.map_cons, List.sum_cons]
      have e2 : sumW D (putP F (x :: ts)) = sumW D (look F x.1).2 * x.2 + sumW D (putP F ts) := by
        unfold putP
        rw [List.flatMap_cons, sumW_app, sumW_mul]
      have e3 : sumW (pastT p D F) (x :: ts) = x.2 * (((look F x.1).1 + sumW D (look F x.1).2) % p) + sumW (pastT p D F) ts := by
        rw [← past_get (hk x List.mem_cons_self)]
        unfold sumW
        rw [List.map_cons, List.sum_cons]
      rw [e1, e2, e3]
      generalize putN F ts = A1 at *
      generalize sumW D (putP F ts) = A2 at *
      generalize sumW (pastT p D F) ts = A3 at *
      obtain ⟨c, hc⟩ := ih
      obtain ⟨d, hd⟩ := dvd_emod (p := p) ((look F x.1).1 + sumW D (look F x.1).2)
      generalize ((look F x.1).1 + sumW D (look F x.1).2) % p = w at *
      have e4 : w = (look F x.1).1 + sumW D (look F x.1).2 + p * d := by omega
      refine ⟨c - x.2 * d, ?_⟩
      rw [e4, Int.mul_sub, ← hc, Int.mul_add, Int.mul_add, Int.mul_comm x.2 (look F x.1).1, Int.mul_comm x.2 (sumW D _), Int.mul_left_comm x.2 p d]
      omega
  have e : n + putN F ts + sumW D rs - (n + sumW (pastT p D F) ts) = (sumW D rs - sumW D (putP F ts)) + (putN F ts + sumW D (putP F ts) - sumW (pastT p D F) ts) := by omega
  rw [e]
  exact Int.dvd_add h1 h2
/-! ### all rows -/
def allR (q : Nat) : Nat → List (List Int)
  | 0 => [[]]
  | m + 1 => (List.range q).flatMap fun (num : Nat) => (allR q m).map fun r => r ++ [(num : Int)]
theorem allR_len {q : Nat} (hq : q ≤ 5) : ∀ m, (allR q m).length ≤ 5 ^ m
  | 0 => by show 1 ≤ 1; exact Nat.le_refl _
  | m + 1 => by
    have ih := allR_len hq m
    have gen : ∀ l : List Nat, (l.flatMap fun (num : Nat) => (allR q m).map fun r => r ++ [(num : Int)]).length = l.length * (allR q m).length := fun l => by
      induction l with
      | nil => simp
      | cons x l ih => rw [List.flatMap_cons, List.length_append, ih, List.length_map, List.length_cons, Nat.succ_mul]; omega
    show ((List.range q).flatMap _).length ≤ 5 ^ (m + 1)
    rw [gen, List.length_range, Nat.pow_succ, Nat.mul_comm]
    exact Nat.mul_le_mul ih hq
theorem allR_ok {q : Nat} : ∀ {m : Nat} {r : List Int}, r ∈ allR q m → r.length = m ∧ ∀ x ∈ r, 0 ≤ x ∧ x < q
  | 0, r, h => by
    rw [List.mem_singleton.mp h]; simp
  | m + 1, r, h => by
    obtain ⟨num, hn, h⟩ := List.mem_flatMap.mp h
    obtain ⟨r0, h0, rfl⟩ := List.mem_map.mp h
    have ih := allR_ok h0
    have := List.mem_range.mp hn
    refine ⟨by rw [List.length_append, ih.1]; rfl, fun x m => ?_⟩
    rcases List.mem_append.mp m with m | m
    · exact ih.2 x m
    · rw [List.mem_singleton.mp m]; omega
theorem allR_in {q : Nat} : ∀ {m : Nat} {r : List Int}, r.length = m → (∀ x ∈ r, 0 ≤ x ∧ x < q) → r ∈ allR q m
  | 0, r, h, _ => by
    rw [List.length_eq_zero_iff.mp h]; exact List.mem_singleton.mpr rfl
  | m + 1, r, h, k => by
    have ne : r ≠ [] := fun e => by rw [e] at h; simp at h
    have e := (List.dropLast_concat_getLast ne).symm
    generalize r.dropLast = r0 at e
    generalize r.getLast ne = x at e
    subst e
    have hx := k x (by simp)
    refine List.mem_flatMap.mpr ⟨x.toNat, List.mem_range.mpr (by omega), List.mem_map.mpr ⟨r0, allR_in (by simpa using h) fun y m => k y (List.mem_append_left _ m), ?_⟩⟩
    congr 2; omega
/-! ### forms that are worth the same for all rows -/
theorem zip_mem {zs : List Str} {r : List Int} {j : Nat} (h : zs.length = r.length) (hj : j < zs.length) : (zs[j], r[j]'(by omega)) ∈ zs.zip r := by
  have : (zs.zip r)[j]'(by rw [List.length_zip]; omega) = (zs[j], r[j]'(by omega)) := List.getElem_zip
  rw [← this]; exact List.getElem_mem _
theorem zip_keys {zs : List Str} {r : List Int} (h : zs.length = r.length) : (zs.zip r).map (fun x : Tr => x.1) = zs := List.map_fst_zip (by omega)
theorem tab_at {zs : List Str} {r : List Int} {j : Nat} (nd : zs.Nodup) (h : zs.length = r.length) (hj : j < zs.length) : getT (zs.zip r) zs[j] = some (r[j]'(by omega)) := getT_in (by rw [zip_keys h]; exact nd) (zip_mem h hj)
theorem sum_unit (ts : List Tr) (d : Str → Int) (z0 : Str) (h : ∀ x ∈ ts, d x.1 = if x.1 = z0 then 1 else 0) : (ts.map fun x : Tr => x.2 * d x.1).sum = coef ts z0 := by
  induction ts with
  | nil => rfl
  | cons x ts ih =>
    rw [List.map_cons, List.sum_cons, coef_cons, ih fun y m => h y (List.mem_cons_of_mem _ m), h x List.mem_cons_self]
    by_cases c : x.1 = z0
    · rw [if_pos c, if_pos c, Int.mul_one]
    · rw [if_neg c, if_neg c, Int.mul_zero]
def eqOn (q : Int) (zs : List Str) (n m : Int) (a b : List Tr) (r : List Int) : Bool := decide ((n + sumW (zs.zip r) a) % q = (m + sumW (zs.zip r) b) % q)
theorem eq_all {q n m : Int} {zs : List Str} {a b : List Tr} {M : Nat} (hq : 2 ≤ q) (nd : zs.Nodup) (hM : zs.length = M) (fa : FormOk q n a) (fb : FormOk q m b) (ka : ∀ x ∈ a, x.1 ∈ zs) (kb : ∀ x ∈ b, x.1 ∈ zs) :
    (allR q.toNat M).all (eqOn q zs n m a b) = decide (n = m ∧ a = b) := by
  subst hM
  by_cases c : n = m ∧ a = b
  · rw [decide_eq_true c]
    obtain ⟨rfl, rfl⟩ := c
    exact List.all_eq_true.mpr fun r _ => decide_eq_true rfl
  · rw [decide_eq_false c]
    cases e : (allR q.toNat zs.length).all (eqOn q zs n m a b) with
    | false => rfl
    | true =>
      exfalso
      refine c ?_
      have all := List.all_eq_true.mp e
      have val : ∀ (r : List Int) (hr : zs.length = r.length), (∀ x ∈ r, 0 ≤ x ∧ x < q) → (n + sumW (zs.zip r) a) % q = (m + sumW (zs.zip r) b) % q := fun r hr h => of_decide_eq_true (all r (allR_in hr.symm fun x m => by have := h x m; omega))
      have n0 := val (List.replicate zs.length 0) (by simp) (fun x m => by rw [List.eq_of_mem_replicate m]; omega)
      have z0 : ∀ ts : List Tr, (∀ x ∈ ts, x.1 ∈ zs) → sumW (zs.zip (List.replicate zs.length 0)) ts = 0 := fun ts h => by
        refine sum_zero _ _ fun x mx => ?_
        obtain ⟨j, hj, ej⟩ := List.getElem_of_mem (h x mx)
        have := tab_at (r := List.replicate zs.length 0) nd (by simp) hj
        rw [← ej, this]; simp
      rw [z0 a ka, z0 b kb, Int.add_zero, Int.add_zero, Int.emod_eq_of_lt fa.num.1 fa.num.2, Int.emod_eq_of_lt fb.num.1 fb.num.2] at n0
      subst n0
      refine ⟨rfl, fa.ok.canon.same fb.ok.canon fun z => ?_⟩
      by_cases hz : z ∈ zs
      · obtain ⟨j, hj, ej⟩ := List.getElem_of_mem hz
        have u := val ((List.replicate zs.length 0).set j 1) (by simp) (fun x m => by
          rcases List.mem_or_eq_of_mem_set m with m | m
          · rw [List.eq_of_mem_replicate m]; omega
          · rw [m]; omega)
        have un : ∀ ts : List Tr, (∀ x ∈ ts, x.1 ∈ zs) → sumW (zs.zip ((List.replicate zs.length 0).set j 1)) ts = coef ts z := fun ts h => by
          refine sum_unit ts (fun y => (getT (zs.zip ((List.replicate zs.length 0).set j 1)) y).getD 0) z fun x mx => ?_
          obtain ⟨i, hi, ei⟩ := List.getElem_of_mem (h x mx)
          show (getT (zs.zip ((List.replicate zs.length 0).set j 1)) x.1).getD 0 = _
          rw [← ei, tab_at nd (by simp) hi, Option.getD_some, List.getElem_set]
          by_cases ij : j = i
          · subst ij
            rw [if_pos rfl, if_pos ej]
          · rw [if_neg ij, if_neg fun w => ij (by
              rw [← ej] at w
              rcases Nat.lt_trichotomy i j with t | t | t
              · exact absurd w (List.pairwise_iff_getElem.mp nd i j hi hj t)
              · exact t.symm
              · exact absurd w.symm (List.pairwise_iff_getElem.mp nd j i hj hi t))]
            simp
        rw [un a ka, un b kb] at u
        have d1 : q ∣ coef a z - coef b z := by
          have := Int.emod_eq_emod_iff_emod_sub_eq_zero.mp u
          have e : n + coef a z - (n + coef b z) = coef a z - coef b z := by omega
          rw [e] at this
          exact Int.dvd_of_emod_eq_zero this
        exact emod_dvd d1
      · rw [coef_out fun w => hz (by obtain ⟨x, hx, e⟩ := List.mem_map.mp w; exact e ▸ ka x hx), coef_out fun w => hz (by obtain ⟨x, hx, e⟩ := List.mem_map.mp w; exact e ▸ kb x hx)]
/-! ### dict(zip(a list, a tuple)) -/
section
variable {prog : Program} {w : World} {A : Around} {E : Value → Shared → Prop} {s : Shared} {z TI TO T i1 i2 : Addr} {fp1 fp2 : List Addr} {n1 n2 i : Nat} {f : Bool} {oT : Obj} {P1 P2 : Nat → Value → Prop} {St1 St2 : Nat → Heap → Prop}
/-- the next pair, while the one that was told before is still there -/
theorem zh_item {Q : Value → Shared → Prop} (S : ZipSep2 z TI TO i1 i2 fp1 fp2) (D1 : Draws prog w A i1 fp1 n1 P1 St1) (D2 : Draws prog w A i2 fp2 n2 P2 St2) (hz : IsZipHeld s.heap z TI TO T f) (hT : s.heap.get? T = some oT)
    (hTI : IsTupOf2 s.heap TI (.ref i1) (.ref i2)) (st1 : St1 i s.heap) (st2 : St2 i s.heap) (g1 : i < n1) (g2 : i < n2)
    (hQ : ∀ x y h' tk, P1 i x → P2 i y → IsZipHeld h' z TI TO T true → St1 (i + 1) h' → St2 (i + 1) h' → IsTupOf2 h' s.heap.objs.size x y → (∀ c o, c ≠ z → c ≠ i1 → c ≠ i2 → s.heap.get? c = some o → h'.get? c = some o) → Q (.ref s.heap.objs.size) { s with heap := h', toks := tk }) :
    wpAny (model prog w) A (Builtin.«zip.__next__» ⟨[.ref z], []⟩) (fun fin s' => ∃ v, fin = .done (.ret v) ∧ Q v s') E s := by
  obtain ⟨hp, g, d, tk0, os⟩ := s
  show wpAny _ _ (field (.ref z) 2 >>= _) _ _ _; refine wpAny_bind (wpAny_field hz rfl (x := .bool false) rfl ?_)
  show wpAny _ _ (field (.ref z) 3 >>= _) _ _ _; refine wpAny_bind (wpAny_field hz rfl (x := .ref TI) rfl ?_)
  refine wpAny_bind (wpAny_seqItems hTI rfl ?_); show wpAny _ _ (Builtin.SmallTypes.ownedTupleIsFree (.ref z) >>= _) _ _ _
  refine wpAny_bind (wpAny_tupleHeld_zip hz hT fun a1 hza hsa => ?_)
  simp only [Bool.false_eq_true, if_false]; refine wpAny_bind ?_; rw [← Array.forIn_toList]
  simp only [List.forIn_cons, List.forIn_nil]; refine wpAny_bind (wpAny_bind (wpAny_holding ?_))
  show wpAny _ _ (Builtin.SmallTypes.nextOf (.ref i1) >>= _) _ _ (⟨a1, g, d, tk0, os⟩ : Shared)
  refine wpAny_bind (D1.item i _ _ _ g1 (D1.over st1 hsa S.zf1) fun x a2 tk1 hx sn1 hsb => wpAny_pure ?_)
  replace hsb : Heap.SameBut i1 a1 a2 := hsb
  refine wpAny_pure ?_; refine wpAny_bind (wpAny_bind (wpAny_holding ?_))
  show wpAny _ _ (Builtin.SmallTypes.nextOf (.ref i2) >>= _) _ _ (⟨a2, g, d, tk1, os⟩ : Shared)
  refine wpAny_bind (D2.item i _ _ _ g2 (D2.over (D2.over st2 hsa S.zf2) hsb S.sep1_2) fun y a3 tk2 hy sn2 hsc => wpAny_pure ?_)
  replace hsc : Heap.SameBut i2 a2 a3 := hsc
  refine wpAny_pure (wpAny_pure ?_); show wpAny _ _ (newTuple [x, y] >>= _) _ _ _
  refine wpAny_bind (wpAny_newTuple ?_)
  have esz : a3.objs.size = hp.objs.size := by rw [hsc.1, hsb.1]; exact hsa.1
  have hz3 : IsZipHeld a3 z TI TO T true := hsc.extBut _ _ S.zi2 (hsb.extBut _ _ S.zi1 hza)
  have keep : ∀ c o, c ≠ z → c ≠ i1 → c ≠ i2 → hp.get? c = some o → a3.get? c = some o := fun c o c1 c2 c3 e => hsc.extBut _ _ c3 (hsb.extBut _ _ c2 (hsa.extBut _ _ c1 e))
  have s1 : St1 (i + 1) a3 := D1.over sn1 hsc S.sep2_1
  refine wpAny_pure ⟨_, rfl, ?_⟩
  show Q (.ref a3.objs.size) _
  have hp4 : IsTupOf2 (a3.push { cls := .type "tuple", data := .seq #[x, y] }) a3.objs.size x y := Heap.get?_push_size _ rfl
  rw [esz] at hp4 ⊢
  exact hQ x y _ tk2 hx hy (Heap.get?_push_of_some _ hz3) (D1.frame _ _ _ s1 fun b _ o e => Heap.get?_push_of_some _ e) (D2.frame _ _ _ sn2 fun b _ o e => Heap.get?_push_of_some _ e) hp4 fun c o c1 c2 c3 e => Heap.get?_push_of_some _ (keep c o c1 c2 c3 e)
theorem zh_end {Q : Fin → Shared → Prop} (S : ZipSep2 z TI TO i1 i2 fp1 fp2) (D1 : Draws prog w A i1 fp1 n1 P1 St1) (D2 : Draws prog w A i2 fp2 n2 P2 St2) (hz : IsZipHeld s.heap z TI TO T f) (hT : s.heap.get? T = some oT)
    (hTI : IsTupOf2 s.heap TI (.ref i1) (.ref i2)) (st1 : St1 n1 s.heap)
    (hE : ∀ h' tk e, (∀ c o, c ≠ z → c ≠ i1 → c ≠ i2 → s.heap.get? c = some o → h'.get? c = some o) → (∃ o, h'.get? e = some o ∧ o.cls = .type "StopIteration") → E (.ref e) { s with heap := h', toks := tk }) :
    wpAny (model prog w) A (Builtin.«zip.__next__» ⟨[.ref z], []⟩) Q E s := by
  obtain ⟨hp, g, d, tk0, os⟩ := s
  show wpAny _ _ (field (.ref z) 2 >>= _) _ _ _; refine wpAny_bind (wpAny_field hz rfl (x := .bool false) rfl ?_)
  show wpAny _ _ (field (.ref z) 3 >>= _) _ _ _; refine wpAny_bind (wpAny_field hz rfl (x := .ref TI) rfl ?_)
  refine wpAny_bind (wpAny_seqItems hTI rfl ?_); show wpAny _ _ (Builtin.SmallTypes.ownedTupleIsFree (.ref z) >>= _) _ _ _
  refine wpAny_bind (wpAny_tupleHeld_zip hz hT fun a1 hza hsa => ?_)
  simp only [Bool.false_eq_true, if_false]; refine wpAny_bind ?_; rw [← Array.forIn_toList]
  simp only [List.forIn_cons, List.forIn_nil]; refine wpAny_bind (wpAny_bind (wpAny_holding ?_))
  show wpAny _ _ (Builtin.SmallTypes.nextOf (.ref i1) >>= _) _ _ (⟨a1, g, d, tk0, os⟩ : Shared)
  exact wpAny_bind (D1.done _ _ _ (D1.over st1 hsa S.zf1) fun h' e hx he => hE h' tk0 e (fun c o c1 c2 _ q => hx _ _ c2 (hsa.extBut _ _ c1 q)) he)
theorem zhn_item {Q : Option Value → Shared → Prop} (S : ZipSep2 z TI TO i1 i2 fp1 fp2) (D1 : Draws prog w A.in1 i1 fp1 n1 P1 St1) (D2 : Draws prog w A.in1 i2 fp2 n2 P2 St2) (hz : IsZipHeld s.heap z TI TO T f) (hT : s.heap.get? T = some oT)
    (hTI : IsTupOf2 s.heap TI (.ref i1) (.ref i2)) (st1 : St1 i s.heap) (st2 : St2 i s.heap) (g1 : i < n1) (g2 : i < n2)
    (hQ : ∀ x y h' tk, P1 i x → P2 i y → IsZipHeld h' z TI TO T true → St1 (i + 1) h' → St2 (i + 1) h' → IsTupOf2 h' s.heap.objs.size x y → (∀ c o, c ≠ z → c ≠ i1 → c ≠ i2 → s.heap.get? c = some o → h'.get? c = some o) → Q (some (.ref s.heap.objs.size)) { s with heap := h', toks := tk }) :
    wpAny (model prog w) A (pyNext (.ref z)) Q E s := by
  have ty : s.TypeIs (.ref z) "zip" := ⟨_, hz, rfl⟩
  unfold pyNext
  exact wpAny_bind (wpAny_attempt (wpAny_callSpecial?_slot (name := Str.ofString "__next__") ty F.slot_zip_next (wpAny_call_entry F.slot_zip_next ty F.entry_zip_next (zh_item S D1 D2 hz hT hTI st1 st2 g1 g2 fun x y h' tk p1 p2 q1 q2 q3 q4 q5 => wpAny_pure (hQ x y h' tk p1 p2 q1 q2 q3 q4 q5)) (F.args_zip_next_1 _))))
theorem zhn_end {Q : Option Value → Shared → Prop} (S : ZipSep2 z TI TO i1 i2 fp1 fp2) (D1 : Draws prog w A.in1 i1 fp1 n1 P1 St1) (D2 : Draws prog w A.in1 i2 fp2 n2 P2 St2) (hz : IsZipHeld s.heap z TI TO T f) (hT : s.heap.get? T = some oT)
    (hTI : IsTupOf2 s.heap TI (.ref i1) (.ref i2)) (st1 : St1 n1 s.heap)
    (hQ : ∀ h' tk, (∀ c o, c ≠ z → c ≠ i1 → c ≠ i2 → s.heap.get? c = some o → h'.get? c = some o) → Q none { s with heap := h', toks := tk }) : wpAny (model prog w) A (pyNext (.ref z)) Q E s := by
  have ty : s.TypeIs (.ref z) "zip" := ⟨_, hz, rfl⟩
  unfold pyNext
  refine wpAny_bind (wpAny_attempt (wpAny_callSpecial?_slot (name := Str.ofString "__next__") ty F.slot_zip_next (wpAny_call_entry F.slot_zip_next ty F.entry_zip_next (zh_end S D1 D2 hz hT hTI st1 fun h' tk e hk he => ?_) (F.args_zip_next_1 _))))
  obtain ⟨o, ho, hc⟩ := he
  exact wpAny_bind (wpAny_isInstance (T := "StopIteration") (b := true) ⟨o, ho, hc⟩ isSubtype_stop (wpAny_pure (hQ _ _ hk)))
end
theorem zh_arg {prog : Program} {w : World} {z TI TO i1 i2 : Addr} {fp1 fp2 : List Addr} {n : Nat} {P1 P2 : Nat → Value → Prop} {St1 St2 : Nat → Heap → Prop} (S : ZipSep2 z TI TO i1 i2 fp1 fp2)
    (D1 : ∀ A : Around, A.handled = none → Draws prog w A.in1 i1 fp1 n P1 St1) (D2 : ∀ A : Around, A.handled = none → Draws prog w A.in1 i2 fp2 n P2 St2) :
    PairArg prog w "zip" z (z :: TI :: TO :: (fp1 ++ fp2)) [z, TO, i1, i2] n (fun i k v => P1 i k ∧ P2 i v)
      (fun h => IsZip h z TI TO .none ∧ IsTupOf2 h TI (.ref i1) (.ref i2) ∧ (∃ a b, IsTupOf2 h TO a b) ∧ (∀ A : Around, A.handled = none → St1 0 h ∧ St2 0 h) ∧ ∀ b ∈ fp1 ++ fp2, ∃ o, h.get? b = some o) where
  type := fun s ok => ⟨_, ok.1, rfl⟩
  notDict := by decide
  keep := fun h h' ok hk => by
    obtain ⟨q1, q2, ⟨a, b, q3⟩, q4, q5⟩ := ok
    exact ⟨hk _ _ q1, hk _ _ q2, ⟨a, b, hk _ _ q3⟩, fun A hA => ⟨(D1 A hA).frame _ _ _ (q4 A hA).1 fun b _ o e => hk b o e, (D2 A hA).frame _ _ _ (q4 A hA).2 fun b _ o e => hk b o e⟩, fun b m => (q5 b m).imp fun o e => hk _ _ e⟩
  there := fun h ok b hb => by
    obtain ⟨q1, q2, ⟨a, c, q3⟩, _, q5⟩ := ok
    rcases List.mem_cons.mp hb with rfl | hb
    · exact ⟨_, q1⟩
    rcases List.mem_cons.mp hb with rfl | hb
    · exact ⟨_, q2⟩
    rcases List.mem_cons.mp hb with rfl | hb
    · exact ⟨_, q3⟩
    exact q5 b hb
  sub := fun b hb => by
    simp only [List.mem_cons, List.not_mem_nil, or_false] at hb
    rcases hb with rfl | rfl | rfl | rfl
    · simp
    · simp
    · simp [S.mem1]
    · simp [S.mem2]
  noKeys := fun A s Q E hA ok h => getAttrOr_miss_zip ok.1 rfl rfl rfl zip_no_keys (by decide +kernel) hA h
  iter := fun A s d Q E hA ok hd hdf h => by
    obtain ⟨q1, q2, ⟨a, b, q3⟩, q4, q5⟩ := ok
    have d1 := D1 A hA
    have d2 := D2 A hA
    simp only [List.mem_cons, List.mem_append, not_or] at hdf
    obtain ⟨nz, nTI, nTO, nf1, nf2⟩ := hdf
    have ni1 : d ≠ i1 := fun e => nf1 (e ▸ S.mem1)
    have ni2 : d ≠ i2 := fun e => nf2 (e ▸ S.mem2)
    refine wpAny_pyIter_zip q1 (h z [z, TO, i1, i2] (fun i h => IsTupOf2 h TI (.ref i1) (.ref i2) ∧ St1 i h ∧ St2 i h ∧ ((IsZip h z TI TO .none ∧ ∃ a b, IsTupOf2 h TO a b) ∨ ∃ T f oT, IsZipHeld h z TI TO T f ∧ h.get? T = some oT ∧ T ≠ z ∧ T ≠ i1 ∧ T ≠ i2 ∧ T ≠ d)) s.heap s.toks ?_
      ⟨q2, (q4 A hA).1, (q4 A hA).2, .inl ⟨q1, a, b, q3⟩⟩ (fun _ _ e => e) fun b hb => .inl hb)
    exact {
      off := fun hm => by
        simp only [List.mem_cons, List.not_mem_nil, or_false] at hm
        rcases hm with e | e | e | e
        · exact nz e
        · exact nTO e
        · exact ni1 e
        · exact ni2 e
      frame := fun i g g' st hk => by
        obtain ⟨t1, t2, t3, t4⟩ := st
        refine ⟨hk _ _ (Ne.symm nTI) t1, d1.frame _ _ _ t2 fun b m o e => hk _ _ (fun x => nf1 (x ▸ m)) e, d2.frame _ _ _ t3 fun b m o e => hk _ _ (fun x => nf2 (x ▸ m)) e, ?_⟩
        rcases t4 with ⟨u1, a, b, u2⟩ | ⟨T, f, oT, u1, u2, r1, r2, r3, r4⟩
        · exact .inl ⟨hk _ _ (Ne.symm nz) u1, a, b, hk _ _ (Ne.symm nTO) u2⟩
        · exact .inr ⟨T, f, oT, hk _ _ (Ne.symm nz) u1, hk _ _ r4 u2, r1, r2, r3, r4⟩
      item := fun i s1 Q1 E1 hi st hds hQ => by
        obtain ⟨t1, t2, t3, t4⟩ := st
        obtain ⟨o1, lv1⟩ := d1.live _ _ t2
        obtain ⟨o2, lv2⟩ := d2.live _ _ t3
        have m1 : s1.heap.objs.size ≠ i1 := Nat.ne_of_gt (Heap.lt_size lv1)
        have m2 : s1.heap.objs.size ≠ i2 := Nat.ne_of_gt (Heap.lt_size lv2)
        rcases t4 with ⟨u1, a, b, u2⟩ | ⟨T, f, oT, u1, u2, r1, r2, r3, r4⟩
        · refine wpAny_pyNext_zipD2_item S d1 d2 u1 t1 u2 t2 t3 hi hi fun x y h' tk p1 p2 v1 v2 v3 v4 v5 v6 hk => ?_
          exact hQ s1.heap.objs.size x y h' tk ⟨p1, p2⟩ (.inl ⟨_, v5, rfl, _, rfl⟩) ⟨hk _ _ S.TIz S.TITO S.TIi1 S.TIi2 t1, v3, v4, .inr ⟨s1.heap.objs.size, false, _, v1, v5, Nat.ne_of_gt (Heap.lt_size u1), m1, m2, Nat.ne_of_gt hds⟩⟩
            fun c o hc e => hk c o (fun x => hc (by simp [x])) (fun x => hc (by simp [x])) (fun x => hc (by simp [x])) (fun x => hc (by simp [x])) e
        · refine zhn_item S d1 d2 u1 u2 t1 t2 t3 hi hi fun x y h' tk p1 p2 v1 v3 v4 v5 hk => ?_
          exact hQ s1.heap.objs.size x y h' tk ⟨p1, p2⟩ (.inl ⟨_, v5, rfl, _, rfl⟩) ⟨hk _ _ S.TIz S.TIi1 S.TIi2 t1, v3, v4, .inr ⟨T, true, oT, v1, hk _ _ r1 r2 r3 u2, r1, r2, r3, r4⟩⟩
            fun c o hc e => hk c o (fun x => hc (by simp [x])) (fun x => hc (by simp [x])) (fun x => hc (by simp [x])) e
      done := fun s1 Q1 E1 st hQ => by
        obtain ⟨t1, t2, t3, t4⟩ := st
        rcases t4 with ⟨u1, a, b, u2⟩ | ⟨T, f, oT, u1, u2, r1, r2, r3, r4⟩
        · exact wpAny_pyNext_zipD2_end S d1 d2 u1 t1 u2 t2 t3 (Nat.le_refl _) (Nat.le_refl _) (.inl rfl) fun h' tk hk => hQ h' tk fun c o hc e => hk c o (fun x => hc (by simp [x])) (fun x => hc (by simp [x])) (fun x => hc (by simp [x])) (fun x => hc (by simp [x])) e
        · exact zhn_end S d1 d2 u1 u2 t1 t2 fun h' tk hk => hQ h' tk fun c o hc e => hk c o (fun x => hc (by simp [x])) (fun x => hc (by simp [x])) (fun x => hc (by simp [x])) e }
def rDZ (K : PySem.W.Frag) : List V → Hp → VK → Prop := fun xs H Q => ∃ (a b : Addr) (ks : List Key) (ys : List V), xs = [.ref a, .ref b] ∧ SqL K H a (ks.map kV) ∧ SqT K H b ys ∧ ks.length = ys.length ∧ ks.length ≤ 1000000 ∧ ∀ p, H p = none → Q (.ref p) (upd H p (.dK (mergeK [] (ks.zip ys))))
def tDZ (K : PySem.W.Frag) (ta : TA) : TE := fun σ H Q => ta σ H fun xs H1 => rDZ K xs H1 Q
theorem keys_are {P : Program} {w : World} {us : List Value} : ∀ {ks : List Key}, Vals (ks.map kV) us → ∀ (i : Nat) (u : Value), us[i]? = some u → ∃ k, ks[i]? = some k ∧ keyIs k u = true
  | [], r, i, u, e => by
    cases r
    simp at e
  | k :: ks, r, i, u, e => by
    cases r with
    | cons r1 r2 =>
      cases i with
      | zero =>
        obtain rfl := Option.some.inj e
        exact ⟨k, rfl, kV_is (P := P) (w := w) r1⟩
      | succ i =>
        obtain ⟨k', h1, h2⟩ := keys_are (P := P) (w := w) r2 i u (by simpa using e)
        exact ⟨k', by simpa using h1, h2⟩
theorem kv_zip : ∀ {ks : List Key} {ys : List V} {us : List Value}, Vals ys us → KV (ks.zip ys) (ks.zip us)
  | [], _, _, _ => .nil
  | _ :: _, _, _, .nil => .nil
  | _ :: _, _, _, .cons r1 r2 => .cons ⟨rfl, r1⟩ (kv_zip r2)
theorem pe_dictZ {X : Cx} {e e2 : Expr} {ta : TA} {p p2 pos pos2 : Pos} (hc : X.calm = true) (hg : Gl X "dict") (hm : X.mg "dict" = none) (hg2 : Gl X "zip") (hm2 : X.mg "zip" = none) (ha : PA X [e, e2] ta)
    (hs : starEach [e, e2] X.env = (false, eval e X.env) :: starEach [e2] X.env := by rfl) (hpl : (backTo pos2 (starEach [e2] X.env)).any (·.1) = false := by rfl)
    (hs2 : starEach [.Call (.Name "zip" p2) [e, e2] [] pos2] X.env = (false, eval (.Call (.Name "zip" p2) [e, e2] [] pos2) X.env) :: starEach [] X.env := by rfl) :
    PE X (.Call (.Name "dict" p) [.Call (.Name "zip" p2) [e, e2] [] pos2] [] pos) (tDZ X.K ta) := by
  refine ⟨fun pins s σ H Q I h => ?_⟩
  refine Call_ (ld_blt I hg hm PyProof.Rows.boot_dict (PyProof.Rows.callWith_type1 (args_cons (Call_ (ld_blt I hg2 hm2 PyProof.Rows.boot_zip (PyProof.Rows.callWith_type1 (thn (ha.run pos2 pins s σ H _ I h) fun us t ⟨vs, H1, J, r1, q1⟩ => ?_) hs hpl))) hs2) hs2 rfl))
  obtain ⟨a, b, ks, ys, rfl, hqx, hqy, hl, hn, q⟩ := q1
  obtain ⟨u, v, rfl, ru, rv⟩ := vals2 r1
  obtain rfl : u = Value.ref a := ru
  obtain rfl : v = Value.ref b := rv
  obtain ⟨its, w1, p1, _⟩ := J.list hqx
  obtain ⟨its2, w2, p2, _⟩ := J.tuple hqy
  have la : a < t.heap.objs.size := p1.lt
  have lb : b < t.heap.objs.size := by obtain ⟨_, z, _⟩ := p2; exact Heap.lt_size z
  have fr : ∀ c, c ∈ [t.heap.objs.size + 4, t.heap.objs.size + 3, t.heap.objs.size, t.heap.objs.size + 1] → FpOk X pins H1 c := fun c hcm => by
    have le : t.heap.objs.size ≤ c := by
      simp only [List.mem_cons, List.not_mem_nil, or_false] at hcm
      rcases hcm with e | e | e | e <;> rw [e]
      · exact Nat.le_add_right _ _
      · exact Nat.le_add_right _ _
      · exact Nat.le_refl _
      · exact Nat.le_add_right _ _
    exact J.fpOk le (J.hok.fresh le)
  refine zip_begins2 (begins_list a its.toArray) (begins_tuple b its2.toArray) p1.isList p2 fun g hz hTI hTO h1 h2 gsz hk => args_nil ?_
  have e1 : its.length = ks.length := by rw [← w1.length, List.length_map]
  have e2 : its2.length = its.length := by rw [e1, hl, w2.length]
  have S := zip_sep2 (N := t.heap.objs.size) (fp1 := [a]) (fp2 := [b]) (by simpa using la) (by simpa using lb)
  have e3 : its2.toArray.size = its.toArray.size := by rw [List.size_toArray, List.size_toArray, e2]
  have A1 := zh_arg (prog := X.prog) (w := X.w) (n := its.toArray.size) S (fun A hA => Draws.list (prog := X.prog) (w := X.w) (A := A.in1) hA t.heap.objs.size a (Nat.ne_of_lt la) its.toArray) (fun A hA => e3 ▸ Draws.tuple (prog := X.prog) (w := X.w) (A := A.in1) hA (t.heap.objs.size + 1) b (Nat.ne_of_lt (Nat.lt_succ_of_lt lb)) its2.toArray)
  have ok : IsZip g (t.heap.objs.size + 4) (t.heap.objs.size + 2) (t.heap.objs.size + 3) .none ∧ IsTupOf2 g (t.heap.objs.size + 2) (.ref t.heap.objs.size) (.ref (t.heap.objs.size + 1)) ∧ (∃ a b, IsTupOf2 g (t.heap.objs.size + 3) a b) ∧
      (∀ A : Around, A.handled = none → (g.IsListIter t.heap.objs.size a 0 ∧ g.IsList a its.toArray) ∧ (g.IsTupleIter (t.heap.objs.size + 1) b 0 ∧ g.IsTuple b its2.toArray)) ∧ ∀ c ∈ [t.heap.objs.size, a] ++ [t.heap.objs.size + 1, b], ∃ o, g.get? c = some o := by
    have q1 : g.IsList a its.toArray := p1.isList.at fun o e => hk _ _ e
    have q2 : g.IsTuple b its2.toArray := (show t.heap.IsTuple b its2.toArray from p2).at fun o e => hk _ _ e
    refine ⟨hz, hTI, ⟨_, _, hTO⟩, fun A _ => ⟨⟨⟨_, h1, rfl, rfl⟩, q1⟩, ⟨⟨_, h2, rfl, rfl⟩, q2⟩⟩, fun c m => ?_⟩
    simp only [List.cons_append, List.nil_append, List.mem_cons, List.not_mem_nil, or_false] at m
    rcases m with rfl | rfl | rfl | rfl
    · exact ⟨_, h1⟩
    · obtain ⟨o, e, _⟩ := q1; exact ⟨o, e⟩
    · exact ⟨_, h2⟩
    · obtain ⟨o, e, _⟩ := q2; exact ⟨o, e⟩
  refine PySem.call_dict_pairs (knd := mixKind X.prog X.w) (kvs := ks.zip its2) A1 (J.ok.hd hc) ok ⟨?_, fun i key v r => ?_⟩ ?_ fun h' tk hd' hk' => ?_
  · rw [List.length_zip, e2, e1, Nat.min_self, List.size_toArray, e1]
  · obtain ⟨g1, g2⟩ := r
    have g1 : its[i]? = some key := by simpa using g1
    have g2 : its2[i]? = some v := by simpa using g2
    obtain ⟨k, k1, k2⟩ := keys_are (P := X.prog) (w := X.w) w1 i key g1
    exact ⟨k, by rw [List.getElem?_zip_eq_some]; exact ⟨k1, g2⟩, k2⟩
  · rw [List.size_toArray, e1]; exact Nat.le_trans hn (by decide)
  have hT : t.heap.objs.size ≤ g.objs.size := by rw [gsz]; exact Nat.le_add_right _ _
  have hlen : (mergeK [] (ks.zip ys)).length ≤ sizeLine := by
    refine Nat.le_trans (length_mergeK _ []) ?_
    rw [List.length_nil, Nat.zero_add, List.length_zip]
    exact Nat.le_trans (Nat.min_le_left _ _) (Nat.le_trans hn (by decide))
  have hm0 : (g.objs.size == sysModules) = false := beq_eq_false_iff_ne.mpr (Nat.ne_of_gt (Nat.lt_of_lt_of_le J.big hT))
  exact ⟨.ref g.objs.size, upd H1 g.objs.size (.dK (mergeK [] (ks.zip ys))), J.turnedNew (t' := tk) (ch := [t.heap.objs.size + 4, t.heap.objs.size + 3, t.heap.objs.size, t.heap.objs.size + 1]) (fun c o hb e => hk' c o hb (hk c o e)) fr hT
    (show ObjOk X.prog X.w _ _ _ (.dK (mergeK [] (ks.zip ys))) from ⟨hlen, hm0, merged [] (ks.zip its2), KV.merge (kv_zip w2) .nil, hd'⟩), rfl, q _ (J.hok.fresh hT)⟩
theorem castDZ {X : Cx} {K : PySem.W.Frag} {e : Expr} {ta : TA} (h : PE X e (tDZ X.K ta)) (q : X.K = K := by rfl) : PE X e (tDZ K ta) := q ▸ h
theorem r_dz {K : PySem.W.Frag} {ta : TA} {σ : L2.St} {H : Hp} {Q : VK} (h : ta σ H fun xs H1 => rDZ K xs H1 Q) : tDZ K ta σ H Q := h
local macro_rules | `(tactic| walk_at "ssz") => `(tactic| first | decide | exact str_small (by assumption) | (have : (1000000 : Nat) ≤ sizeLine := (by decide); omega))
local macro_rules | `(tactic| walk_at "st1") => `(tactic| first
  | with_reducible refine' r_nt ?_ | with_reducible refine' r_nf ?_
  | ((with_reducible refine r_lenS ?e1 ?_); (case e1 => walk_at "ssz"))
  | with_reducible refine r_inS ?_
  | with_reducible refine r_ninS ?_
  | ((with_reducible refine r_addS ?e1 ?_); (case e1 => walk_at "ssz"))
  | ((with_reducible refine' r_ixS ?e1 ?e2 ?_); (case e1 => walk_at "ssz"); (case e2 => first | assumption | rfl))
  | with_reducible refine r_istr ?_
  | with_reducible refine r_is ?_
  | with_reducible refine r_un ?_
  | with_reducible refine r_u ?_)
local macro_rules | `(tactic| walk_at "st1") => `(tactic| first
  | with_reducible refine r_par ?_
  | with_reducible refine r_parx ?_
  | ((with_reducible refine' r_gtup ?e1 ?e2 ?_); (case e1 => walk_at "sq"); (case e2 => rfl))
  | with_reducible refine r_gcons ?_
  | with_reducible refine r_gnil ?_
  | with_reducible refine r_disp ?_
  | with_reducible refine r_tp1 ?_
  | with_reducible refine r_tp0 ?_
  | ((with_reducible refine' r_dp1 ?e1 ?_); (case e1 => walk_at "hl"))
  | with_reducible refine r_dnewK ?_
  | with_reducible refine r_dget2 ?_
  | ((with_reducible refine' r_dg2 ?e1 ?_); (case e1 => walk_at "hl"))
  | ((with_reducible refine' r_dg3 ?e1 ?_); (case e1 => walk_at "hl"))
  | with_reducible refine r_dget ?_
  | ((with_reducible refine' r_dgv ?e1 ?e2 ?_); (case e1 => walk_at "hl"); (case e2 => assumption))
  | ((with_reducible refine' r_setD ?e1 ?e2 ?_); (case e1 => walk_at "hl"); (case e2 => omega)))
def IRow (H : Hp) (v : V) (r : List Int) : Prop := ∃ c, v = .ref c ∧ H c = some (.tup (r.map V.int))
def IRows (H : Hp) (us : List V) (rows : List (List Int)) : Prop := us.length = rows.length ∧ ∀ (i : Nat) (v : V), us[i]? = some v → ∃ r, rows[i]? = some r ∧ IRow H v r
theorem IRow.to {H H' : Hp} {v : V} {r : List Int} (h : IRow H v r) (k : Tups H H') : IRow H' v r := by
  obtain ⟨c, e, h1⟩ := h
  exact ⟨c, e, k _ _ h1⟩
theorem IRows.to {H H' : Hp} {us : List V} {rows : List (List Int)} (h : IRows H us rows) (k : Tups H H') : IRows H' us rows := ⟨h.1, fun i v e => (h.2 i v e).imp fun _ y => ⟨y.1, y.2.to k⟩⟩
theorem IRows.append {H : Hp} {us vs : List V} {rows qs : List (List Int)} (h : IRows H us rows) (k : IRows H vs qs) : IRows H (us ++ vs) (rows ++ qs) :=
  ⟨by rw [List.length_append, List.length_append, h.1, k.1], fun i v e => by
    by_cases lt : i < us.length
    · rw [List.getElem?_append_left lt] at e
      rw [List.getElem?_append_left (by rw [← h.1]; exact lt)]
      exact h.2 i v e
    · rw [List.getElem?_append_right (by omega)] at e
      rw [List.getElem?_append_right (by rw [← h.1]; omega), ← h.1]
      exact k.2 _ v e⟩
def sp_law_rows (_ : PySem.W.Frag) : Sp := fun vs H Q _ => ∃ (m q : Nat), vs = [.int m, .int q] ∧ m ≤ 3 ∧ q ≤ 5 ∧ ∀ (l : Addr) (us : List V) (H' : Hp), Same H H' → H l = none → H' l = some (.lst us) → IRows H' us (allR q m) → Q (.ref l) H'
section
variable {P : Program} {w : World} {K : PySem.W.Frag} {mg : Str → Option Value} {base : Heap}
theorem ok_law_rows (T : Tx K mg)  {f : Addr} {fd : FuncData} (F : Here K mg "_law_rows" s_law_rows ["many", "q"] f fd) : Cal P w K mg base "_law_rows" 1 ["many", "q"] (sp_law_rows K) s_law_rows f fd := by
  refine F.cal sc_law_rows (fun vs H Q E h => ?_) (fun cdv A outer s H vs Q E hr h => ?_)
  · obtain ⟨m, q, rfl, _⟩ := h
    rfl
  · obtain ⟨m, q, rfl, hm, hq, fin⟩ := h
    refine ⟨_, (pss_cons (ps_set (i := 2) sc_law_rows.nd rfl (by first | exact .inl rfl | exact .inr rfl) (pe_lst (pa_cons (pe_tup pa_nil) pa_nil)))
      (pss_cons (ps_for PassesOwn.never rfl (pi_range1 (by rfl) T.m_range (pa_cons (pv 0) pa_nil)) (pg_name (i := 3) sc_law_rows.nd rfl (by first | exact .inl rfl | exact .inr rfl)) (pss_cons (ps_set (i := 4) sc_law_rows.nd rfl (by first | exact .inl rfl | exact .inr rfl) (pe_lst pa_nil))
      (pss_cons (ps_for PassesOwn.never rfl (pi_range1 (by rfl) T.m_range (pa_cons (pv 1) pa_nil)) (pg_name (i := 5) sc_law_rows.nd rfl (by first | exact .inl rfl | exact .inr rfl)) (pss_one (ps_set (i := 4) sc_law_rows.nd rfl (by first | exact .inl rfl | exact .inr rfl) (pe_op op_cat (pv 4) (pe_lc rfl sc_law_rows.nd (pi_listK (K := K) (pv 2)) (blkOk_by (own := [("row", 6)]) (N := ["many", "q", "rows", "k", "longer", "num", "row"]) (sc := (defScope s_law_rows)) (by decide +kernel)) (fun _ _ _ _ _ => (pg_name (i := 6) sc_law_rows.nd rfl (by first | exact .inl rfl | exact .inr rfl))) (fun _ _ _ _ _ => pts_nil) (fun _ _ _ _ _ => (pe_op (op_catAK (K := K)) (pv 6) (pe_tup (pa_cons (pv 5) pa_nil)))))))))
      (pss_one (ps_set (i := 2) sc_law_rows.nd rfl (by first | exact .inl rfl | exact .inr rfl) (pv 4))))))
      (pss_one (ps_ret (pv 2))))), ?_⟩
    walk_at "st"
    intro t0 ht0
    walk_at "st"
    intro l0 hl0
    walk_at "st"
    have S0 : Same H (upd (upd H t0 (.tup [])) l0 (.lst [.ref t0])) := (Same.upd_new ht0).trans (Same.upd_new hl0)
    refine lp_by (walk_range (lo := 0) (n := Int.toNat (m : Int))) (fun i σ' H' => ∃ (l : Addr) (x3 x4 x5 : Option V) (us : List V), σ' = [some (.int m), some (.int q), some (.ref l), x3, x4, x5, none] ∧ Same H H' ∧ H l = none ∧ H' l = some (.lst us) ∧ IRows H' us (allR q i)) ⟨l0, none, none, none, [.ref t0], rfl, S0, ?_, upd_same, rfl, fun i v e => ?_⟩ (fun _ _ _ _ _ => trivial) (fun i x σ' H2 H2' hi p y => ?_) (fun σ' H2 p => ?_)
    · exact (Same.upd_new ht0 (x := .tup [])).free hl0
    · cases i with
      | zero => exact ⟨[], rfl, t0, (Option.some.inj e).symm, hl_new upd_same hl0⟩
      | succ i => simp at e
    · obtain ⟨l, x3, x4, x5, us, rfl, sm, nl, el, hus⟩ := p
      obtain ⟨rfl, rfl⟩ := y
      replace hi : i < m := by simpa using hi
      have lus : us.length ≤ 125 := by rw [hus.1]; exact Nat.le_trans (allR_len hq i) (Nat.pow_le_pow_right (by decide) (show i ≤ 3 by omega))
      walk_at "st"
      intro g hg
      walk_at "st"
      refine lp_by (walk_range (lo := 0) (n := Int.toNat (q : Int))) (fun j σ' H' => ∃ (g : Addr) (x5 : Option V) (vs : List V), σ' = [some (.int m), some (.int q), some (.ref l), some (.int (0 + (i : Int))), some (.ref g), x5, none] ∧ Same H2' H' ∧ H2' g = none ∧ H' g = some (.lst vs) ∧ IRows H' vs ((List.range j).flatMap fun (num : Nat) => (allR q i).map fun r => r ++ [(num : Int)]))
        ⟨g, x5, [], rfl, Same.upd_new hg, hg, upd_same, rfl, fun i v e => by simp at e⟩ (fun _ _ _ _ _ => trivial) (fun j x σ' H3 H3' hj p y => ?_) (fun σ' H3 p => ?_)
      · obtain ⟨g, x5, vs, rfl, sm3, ng, eg, hvs⟩ := p
        obtain ⟨rfl, rfl⟩ := y
        replace hj : j < q := by simpa using hj
        have el3 := sm3 _ _ el
        have hus3 := hus.to (Tups.same sm3)
        walk_at "st"
        intro D hD
        refine lc_map (walk_list (a := l) (xs := us)) (by omega) hD (fun k y H' => ∃ r, ((allR q i).map fun r => r ++ [(j : Int)])[k]? = some r ∧ IRow H' y r) (fun _ _ _ _ h k => h.imp fun _ z => ⟨z.1, z.2.to (Tups.same k)⟩) (fun i v H' acc acc' h eD => h.imp fun _ z => ⟨z.1, z.2.to (Tups.lst eD)⟩) (fun H' k => SqL.of (k _ _ el3)) (fun i H1 x H2 y => by rw [y.1]; exact Same.refl _)
          (fun k x H4 H5 Y No hk sm4 y hY => ?_) (fun ys H4 ely sm4 eD hys => ?_)
        · obtain ⟨rfl, ex⟩ := y
          obtain ⟨r, er, t, rfl, ht⟩ := hus3.2 k x ex
          have ht4 := sm4 _ _ ht
          have lr := (allR_ok (List.mem_of_getElem? er)).1
          refine ⟨rfl, ?_⟩
          walk_at "st"
          intro t2 ht2
          have ex2 : ((allR q i).map fun r => r ++ [(j : Int)])[k]? = some (r ++ [(j : Int)]) := by rw [List.getElem?_map, er]; rfl
          refine ⟨t, t2, r.map V.int, [.int (0 + (j : Int))], rfl, rfl, SqT.of (hl_new ht4 ht2), SqT.of upd_same, by rw [List.length_map, lr]; exact Nat.le_trans (show i + 1 ≤ 10 by omega) (by decide), fun e => ?_, fun _ e => by simp at e, fun _ _ p hp => ?_⟩
          · have : r = [] := by simpa using e
            subst this
            exact hY _ _ (Same.upd_new ht2) ⟨_, ex2, t2, rfl, by rw [upd_same]; show some (HO.tup [V.int (0 + (j : Int))]) = some (HO.tup [V.int (j : Int)]); rw [Int.zero_add]⟩
          · exact hY _ _ ((Same.upd_new ht2).trans (Same.upd_new hp)) ⟨_, ex2, p, rfl, by rw [upd_same, List.map_append, Int.zero_add]; rfl⟩
        · have hy : IRows H4 ys ((allR q i).map fun r => r ++ [(j : Int)]) := ⟨by rw [ely, hus3.1, List.length_map], hys⟩
          have eg4 := sm4 _ _ eg
          have lvs : vs.length ≤ 625 := by
            rw [hvs.1]
            have gen : ∀ l : List Nat, (l.flatMap fun (num : Nat) => (allR q i).map fun r => r ++ [(num : Int)]).length = l.length * (allR q i).length := fun l => by
              induction l with
              | nil => simp
              | cons x l ih => rw [List.flatMap_cons, List.length_append, ih, List.length_map, List.length_cons, Nat.succ_mul]; omega
            rw [gen, List.length_range, ← hus.1]
            exact Nat.mul_le_mul (show j ≤ 5 by omega) lus
          refine r_cat eg4 eD (Nat.le_trans (show vs.length + ys.length ≤ 1000 by omega) (by decide)) fun g2 hg2 => ?_
          walk_at "st"
          have S4 : Same H4 (upd H4 g2 (.lst (vs ++ ys))) := Same.upd_new hg2
          refine ⟨g2, _, vs ++ ys, rfl, (sm3.trans sm4).trans S4, (sm3.trans sm4).free hg2, upd_same, ?_⟩
          rw [List.range_succ, List.flatMap_append]
          have e1 : ([j].flatMap fun (num : Nat) => (allR q i).map fun r => r ++ [(num : Int)]) = (allR q i).map fun r => r ++ [(j : Int)] := by simp
          rw [e1]
          exact ((hvs.to (Tups.same sm4)).append hy).to (Tups.same S4)
      · obtain ⟨g, x5, vs, rfl, sm3, ng, eg, hvs⟩ := p
        walk_at "st"
        exact ⟨g, _, _, _, vs, rfl, sm.trans sm3, sm.free ng, eg, hvs⟩
    · obtain ⟨l, x3, x4, x5, us, rfl, sm, nl, el, hus⟩ := p
      walk_at "st"
      exact fin l us _ sm nl el hus
end
local macro_rules | `(tactic| walk_at "ssz") => `(tactic| first | decide | exact str_small (by assumption) | (have : (1000000 : Nat) ≤ sizeLine := (by decide); omega))
local macro_rules | `(tactic| walk_at "st1") => `(tactic| first
  | with_reducible refine' r_nt ?_ | with_reducible refine' r_nf ?_
  | ((with_reducible refine r_lenS ?e1 ?_); (case e1 => walk_at "ssz"))
  | with_reducible refine r_inS ?_
  | with_reducible refine r_ninS ?_
  | ((with_reducible refine r_addS ?e1 ?_); (case e1 => walk_at "ssz"))
  | ((with_reducible refine' r_ixS ?e1 ?e2 ?_); (case e1 => walk_at "ssz"); (case e2 => first | assumption | rfl))
  | with_reducible refine r_istr ?_
  | with_reducible refine r_is ?_
  | with_reducible refine r_un ?_
  | with_reducible refine r_u ?_)
local macro_rules | `(tactic| walk_at "st1") => `(tactic| first
  | with_reducible refine r_par ?_
  | with_reducible refine r_parx ?_
  | ((with_reducible refine' r_gtup ?e1 ?e2 ?_); (case e1 => walk_at "sq"); (case e2 => rfl))
  | with_reducible refine r_gcons ?_
  | with_reducible refine r_gnil ?_
  | with_reducible refine r_disp ?_
  | with_reducible refine r_tp1 ?_
  | with_reducible refine r_tp0 ?_
  | ((with_reducible refine' r_dp1 ?e1 ?_); (case e1 => walk_at "hl"))
  | with_reducible refine r_dnewK ?_
  | with_reducible refine r_dget2 ?_
  | ((with_reducible refine' r_dg2 ?e1 ?_); (case e1 => walk_at "hl"))
  | ((with_reducible refine' r_dg3 ?e1 ?_); (case e1 => walk_at "hl"))
  | with_reducible refine r_dget ?_
  | ((with_reducible refine' r_dgv ?e1 ?e2 ?_); (case e1 => walk_at "hl"); (case e2 => assumption))
  | ((with_reducible refine' r_setD ?e1 ?e2 ?_); (case e1 => walk_at "hl"); (case e2 => omega)))
def IkR (R : It → Hp → Prop) (x : V) (H1 : Hp) : Prop := ∃ d o, x = .ref d ∧ ((∃ kvs, H1 d = some (.frz o (.dK kvs)) ∧ R (Itk d o kvs) H1) ∨ ∃ kvs, H1 d = some (.frz o (.dT kvs)) ∧ R (Itkt d o kvs) H1)
theorem r_ikeys {td : TE} {σ : L2.St} {H : Hp} {R : It → Hp → Prop} (h : td σ H (IkR R)) : iKeys td σ H R := h
theorem r_ik {R : It → Hp → Prop} {H : Hp} {d : Addr} {o : Obj} {kvs : List (Key × V)} (e : H d = some (.frz o (.dK kvs))) (h : R (Itk d o kvs) H) : IkR R (.ref d) H := ⟨d, o, rfl, .inl ⟨kvs, e, h⟩⟩
local macro_rules | `(tactic| walk_at "st1") => `(tactic| first
  | with_reducible refine r_ikeys ?_
  | ((with_reducible refine' r_ik ?e1 ?_); (case e1 => walk_at "hl")))
def rDictP (K : PySem.W.Frag) : List V → Hp → VK → Prop := fun xs H Q => ∃ (a : Addr) (ps : List Addr) (kvs : List (Key × V)), xs = [.ref a] ∧ SqL K H a (ps.map V.ref) ∧ Paired (fun p kv => SqT K H p [kV kv.1, kv.2]) ps kvs ∧
    ∀ p, H p = none → Q (.ref p) (upd H p (.dK (mergeK [] kvs)))
theorem cr_dictP {X : Cx} {K : PySem.W.Frag} (hc : X.calm = true) (q : X.K = K := by rfl) : CallR X (.type "dict") (rDictP K) := q ▸ call_dictP hc
theorem merge_nodup : ∀ (more kvs : List (Key × V)), ((kvs ++ more).map (·.1)).Nodup → mergeK kvs more = kvs ++ more
  | [], kvs, _ => by rw [List.append_nil]; rfl
  | p :: more, kvs, nd => by
    have e : kvs ++ p :: more = (kvs ++ [p]) ++ more := by rw [List.append_assoc]; rfl
    have h1 : putK kvs p.1 p.2 = kvs ++ [p] := by
      rw [putK_new p.2 ?_]
      rw [List.map_append, List.map_cons] at nd
      have nd2 := (List.nodup_append.mp nd).2.2
      cases h : valV kvs p.1 with
      | none => rfl
      | some v =>
        exfalso
        have : (kvs.any fun kv => decide (kv.1 = p.1)) = true := by rw [valV_any, h]; rfl
        obtain ⟨x, m, e2⟩ := List.any_eq_true.mp this
        exact nd2 x.1 (List.mem_map.mpr ⟨x, m, rfl⟩) p.1 List.mem_cons_self (of_decide_eq_true e2)
    show mergeK (putK kvs p.1 p.2) more = _
    rw [h1, e]
    exact merge_nodup more _ (by rw [← e]; exact nd)
theorem Canon.form {p n : Int} {ps ts : List Tr} (hp : 0 < p) (h : Canon p ps ts) (g : ∀ x ∈ ps, goodW (cs x.1)) : FormOk p (n % p) ts := ⟨⟨Int.emod_nonneg _ (by omega), Int.emod_lt_of_pos _ hp⟩, h.ok hp g⟩
theorem mulT_good {k : Int} {ts : List Tr} (h : ∀ x ∈ ts, goodW (cs x.1)) : ∀ x ∈ mulT k ts, goodW (cs x.1) := fun x m => by
  unfold mulT at m
  obtain ⟨y, hy, rfl⟩ := List.mem_map.mp m
  exact h y hy
theorem Canon.len {p : Int} {ps ts : List Tr} (h : Canon p ps ts) : ts.length ≤ ps.length := by
  have sub : ∀ z ∈ ts.map (fun x : Tr => x.1), z ∈ ps.map (fun x : Tr => x.1) := fun z m => by
    obtain ⟨⟨z, k⟩, hx, rfl⟩ := List.mem_map.mp m
    obtain ⟨e, ne⟩ := (h.mem z k).mp hx
    by_cases c : z ∈ ps.map (fun x : Tr => x.1)
    · exact c
    · rw [coef_out c] at e
      exact absurd (by rw [e]; rfl) ne
  have := List.Nodup.length_le_of_subset h.rise.nodup sub
  rw [List.length_map, List.length_map] at this
  exact this
theorem Canon.sub {p : Int} {ps ts : List Tr} (h : Canon p ps ts) : ∀ x ∈ ts, x.1 ∈ ps.map (fun x : Tr => x.1) := fun x hx => by
  obtain ⟨z, k⟩ := x
  obtain ⟨e, ne⟩ := (h.mem z k).mp hx
  by_cases c : z ∈ ps.map (fun x : Tr => x.1)
  · exact c
  · rw [coef_out c] at e
    exact absurd (by rw [e]; rfl) ne
theorem prd_imp {α β : Type} {R S : α → β → Prop} (h : ∀ a b, R a b → S a b) {xs : List α} {ys : List β} (p : Paired R xs ys) : Paired S xs ys := by
  induction p with
  | nil => exact .nil
  | cons q _ ih => exact .cons (h _ _ q) ih
theorem FormOk.small {p n : Int} {ts : List Tr} (h : FormOk p n ts) (hp : p ≤ 997) : ∀ x ∈ ts, 0 ≤ x.2 ∧ x.2 ≤ 1000 := fun x m => by have := (h.ok.ok x m).2; omega
theorem FormOk.good {p n : Int} {ts : List Tr} (h : FormOk p n ts) : ∀ x ∈ ts, goodW (cs x.1) := fun x m => (h.ok.ok x m).1
theorem look_in {F : List Fm} {z : Str} (h : z ∈ F.map fun x : Fm => x.1) : (z, look F z) ∈ F := by
  unfold look
  cases g : F.find? fun x => decide (x.1 = z) with
  | none =>
    obtain ⟨x, hx, ex⟩ := List.mem_map.mp h
    have := List.find?_eq_none.mp g x hx
    exact absurd (decide_eq_true ex) (by simpa using this)
  | some f =>
    have h1 := List.mem_of_find?_eq_some g
    have h2 := List.find?_some g
    have h3 : f.1 = z := of_decide_eq_true h2
    rw [← h3]; exact h1
theorem putP_goodF {p : Int} {F : List Fm} (hF : ∀ x ∈ F, FormOk p x.2.1 x.2.2) {ts : List Tr} (hk : ∀ x ∈ ts, x.1 ∈ F.map fun x : Fm => x.1) : ∀ x ∈ putP F ts, goodW (cs x.1) := fun y m => by
  unfold putP at m
  obtain ⟨x, hx, hy⟩ := List.mem_flatMap.mp m
  exact mulT_good (hF _ (look_in (hk x hx))).good y hy
theorem putP_lenF {F : List Fm} {b : Nat} (hF : ∀ x ∈ F, x.2.2.length ≤ b) : ∀ {ts : List Tr}, (∀ x ∈ ts, x.1 ∈ F.map fun x : Fm => x.1) → (putP F ts).length ≤ b * ts.length
  | [], _ => Nat.le_refl _
  | x :: ts, hk => by
    have ih := putP_lenF hF (ts := ts) fun y m => hk y (List.mem_cons_of_mem _ m)
    have l := hF _ (look_in (hk x List.mem_cons_self))
    unfold putP at ih ⊢
    rw [List.flatMap_cons, List.length_append, mulT_len, List.length_cons, Nat.mul_succ]
    have l : (look F x.1).2.length ≤ b := l
    omega
theorem castRL {X : Cx} {K : PySem.W.Frag} {e : Expr} {te : TE} (h : PE X e (tRevL X.K te)) (q : X.K = K := by rfl) : PE X e (tRevL K te) := q ▸ h
theorem valV_in {kvs : List (Key × V)} (nd : (kvs.map (·.1)).Nodup) : ∀ p ∈ kvs, valV kvs p.1 = some p.2 := by
  induction kvs with
  | nil => intro p m; cases m
  | cons e kvs ih =>
    intro p m
    rw [List.map_cons] at nd
    have nd2 := List.nodup_cons.mp nd
    rcases List.mem_cons.mp m with rfl | m
    · exact valV_pos rfl
    · rw [valV_neg fun z => nd2.1 (List.mem_map.mpr ⟨p, m, z.symm⟩)]
      exact ih nd2.2 p m
theorem trs_pairs {H : Hp} : ∀ {ys : List V} {ts : List Tr}, Trs H ys ts → ∃ ps : List Addr, ys = ps.map V.ref ∧ Paired (fun p (kv : Key × V) => H p = some (.tup [kV kv.1, kv.2])) ps (encT ts)
  | [], [], _ => ⟨[], rfl, .nil⟩
  | [], _ :: _, h => by have := h.1; simp at this
  | _ :: _, [], h => by have := h.1; simp at this
  | u :: us, x :: ts, h => by
    obtain ⟨y, e, t, rfl, ht⟩ := h.2 0 u rfl
    obtain rfl : x = y := Option.some.inj e
    obtain ⟨ps, rfl, pr⟩ := trs_pairs (ys := us) (ts := ts) ⟨by have := h.1; simp at this; exact this, fun i v e => h.2 (i + 1) v (by simpa using e)⟩
    exact ⟨t :: ps, rfl, .cons ht pr⟩
theorem fms_nodup {kvs : List (Key × V)} {F : List Fm} {H : Hp} (l : kvs.length = F.length) (h : ∀ (i : Nat) (e : Key × V), kvs[i]? = some e → ∃ x, F[i]? = some x ∧ e.1 = Sum.inr x.1 ∧ FrmV H e.2 x.2.1 x.2.2) (nd : (F.map fun x : Fm => x.1).Nodup) : (kvs.map fun x : Key × V => x.1).Nodup := by
  have e : kvs.map (fun x : Key × V => x.1) = (F.map fun x : Fm => x.1).map Sum.inr := by
    apply List.ext_getElem?
    intro i
    rw [List.getElem?_map, List.getElem?_map, List.getElem?_map]
    cases g : kvs[i]? with
    | none =>
      rw [List.getElem?_eq_none_iff] at g
      rw [List.getElem?_eq_none_iff.mpr (show F.length ≤ i by omega)]; rfl
    | some e =>
      obtain ⟨x, ex, e1, _⟩ := h i e g
      rw [ex]
      show some e.1 = some (Sum.inr x.1)
      rw [e1]
  rw [e]
  exact List.pairwise_map.mpr (nd.imp fun n e => n (Sum.inr.inj e))
theorem pastT_keys (q : Int) (D : List Tr) (F : List Fm) : (pastT q D F).map (fun x : Tr => x.1) = F.map fun x : Fm => x.1 := by
  unfold pastT; rw [List.map_map]; rfl
theorem encT_keys (D : List Tr) : (encT D).map (fun x : Key × V => x.1) = (D.map fun x : Tr => x.1).map Sum.inr := by
  unfold encT; rw [List.map_map, List.map_map]; rfl
def sp_law_held (_ : PySem.W.Frag) : Sp := fun vs H Q _ => ∃ (a1 a2 dl dh : Addr) (n m k q : Int) (t1 t2 D : List Tr) (F : List Fm), vs = [.ref a1, .ref a2, .int k, .ref dl, .ref dh, .int q] ∧ FrmV H (.ref a1) n t1 ∧ FrmV H (.ref a2) m t2 ∧ DF H dl F ∧ H dh = some (.dK (encT D)) ∧ dh ≠ dl ∧
  (2 ≤ q ∧ q ≤ 997) ∧ (-10 ≤ k ∧ k ≤ 10) ∧ FormOk q n t1 ∧ FormOk q m t2 ∧ t1.length ≤ 3 ∧ t2.length ≤ 3 ∧ (∀ x ∈ F, FormOk q x.2.1 x.2.2) ∧ (∀ x ∈ F, x.2.2.length ≤ 3) ∧ F.length ≤ 3 ∧ (F.map fun x : Fm => x.1).Nodup ∧ (∀ x ∈ t1, x.1 ∈ F.map fun x : Fm => x.1) ∧
  ∀ H', Same H H' → Q (.bl true) H'
section
variable {P : Program} {w : World} {K : PySem.W.Frag} {mg : Str → Option Value} {base : Heap}
theorem ok_law_held (T : Tx K mg) {f_worth_of : Addr} {fd_worth_of : FuncData} (C_worth_of : Cal P w K mg base "worth_of" 1 ["form", "worths", "p"] (sp_worth_of K) s_worth_of f_worth_of fd_worth_of) {f_sum_of : Addr} {fd_sum_of : FuncData} (C_sum_of : Cal P w K mg base "sum_of" 2 ["a", "b", "p"] (sp_sum_of K) s_sum_of f_sum_of fd_sum_of) {f_times_of : Addr} {fd_times_of : FuncData} (C_times_of : Cal P w K mg base "times_of" 2 ["a", "n", "p"] (sp_times_of K) s_times_of f_times_of fd_times_of) {f_put_in : Addr} {fd_put_in : FuncData} (C_put_in : Cal P w K mg base "put_in" 2 ["form", "forms", "p"] (sp_put_in K) s_put_in f_put_in fd_put_in) {f : Addr} {fd : FuncData} (F : Here K mg "_law_held" s_law_held ["one", "other", "times", "lots", "held", "q"] f fd) : Cal P w K mg base "_law_held" 3 ["one", "other", "times", "lots", "held", "q"] (sp_law_held K) s_law_held f fd := by
  refine F.cal sc_law_held (fun vs H Q E h => ?_) (fun cdv A outer s H vs Q E hr h => ?_)
  · obtain ⟨a1, a2, dl, dh, n, m, k, q, t1, t2, D, F, rfl, _⟩ := h
    rfl
  · obtain ⟨a1, a2, dl, dh, n, m, k, q, t1, t2, D, F, rfl, f1, f2, ⟨kvs, edl, lF, hF⟩, edh, nhl, hq, hk, ok1, ok2, l1, l2, okF, lenF, lF3, ndF, keyF, fin⟩ := h
    have q0 : 0 < q := by omega
    refine ⟨_, (pss_cons (ps_par (i := 6) (j := 7) rfl sc_law_held.nd rfl rfl (by decide) rfl rfl (pa_cons (pe_call C_worth_of.ok (hr.mono (by decide)) (by rfl) C_worth_of.at_ C_worth_of.kp C_worth_of.b .nil pass0 (pa_cons (pv 0) (pa_cons (pv 4) (pa_cons (pv 5) pa_nil)))) (pa_cons (pe_call C_worth_of.ok (hr.mono (by decide)) (by rfl) C_worth_of.at_ C_worth_of.kp C_worth_of.b .nil pass0 (pa_cons (pv 1) (pa_cons (pv 4) (pa_cons (pv 5) pa_nil)))) pa_nil)) (by rfl))
      (pss_cons (ps_if (pt_cmpR op_ne (pe_call C_worth_of.ok (hr.mono (by decide)) (by rfl) C_worth_of.at_ C_worth_of.kp C_worth_of.b .nil pass0 (pa_cons (pe_call C_sum_of.ok (hr.mono (by decide)) (by rfl) C_sum_of.at_ C_sum_of.kp C_sum_of.b .nil pass0 (pa_cons (pv 0) (pa_cons (pv 1) (pa_cons (pv 5) pa_nil)))) (pa_cons (pv 4) (pa_cons (pv 5) pa_nil)))) (pe_op op_mod (pe_op op_add (pv 6) (pv 7)) (pv 5)) (nomark _)) (pss_one (ps_ret pe_bl)) pss_nil)
      (pss_cons (ps_if (pt_cmpR op_ne (pe_call C_worth_of.ok (hr.mono (by decide)) (by rfl) C_worth_of.at_ C_worth_of.kp C_worth_of.b .nil pass0 (pa_cons (pe_call C_times_of.ok (hr.mono (by decide)) (by rfl) C_times_of.at_ C_times_of.kp C_times_of.b .nil pass0 (pa_cons (pv 0) (pa_cons (pv 2) (pa_cons (pv 5) pa_nil)))) (pa_cons (pv 4) (pa_cons (pv 5) pa_nil)))) (pe_op op_mod (pe_op op_mul (pv 6) (pv 2)) (pv 5)) (nomark _)) (pss_one (ps_ret pe_bl)) pss_nil)
      (pss_cons (ps_set (i := 8) sc_law_held.nd rfl (by first | exact .inl rfl | exact .inr rfl) (pe_callTy (cr_dictP (K := K) rfl) (by rfl) T.m_dict (by decide +kernel) (pa_cons (pe_lock (pe_lc rfl sc_law_held.nd (pi_keys (pv 3)) (blkOk_by (own := [("place", 9)]) (N := ["one", "other", "times", "lots", "held", "q", "first", "second", "past", "place"]) (sc := (defScope s_law_held)) (by decide +kernel)) (fun _ _ _ _ _ => (pg_name (i := 9) sc_law_held.nd rfl (by first | exact .inl rfl | exact .inr rfl))) (fun _ _ _ _ _ => pts_nil) (fun _ _ _ _ _ => (pe_tup (pa_cons (pv 9) (pa_cons (pe_call C_worth_of.ok (hr.mono (by decide)) (by rfl) C_worth_of.at_ C_worth_of.kp C_worth_of.b .nil pass0 (pa_cons (pe_dget (hu_of hr) (pv 3) (pv 9) (fun _ _ => rfl)) (pa_cons (pv 4) (pa_cons (pv 5) pa_nil)))) pa_nil)))))) pa_nil)))
      (pss_one (ps_ret (pe_cmpR op_eq (pe_call C_worth_of.ok (hr.mono (by decide)) (by rfl) C_worth_of.at_ C_worth_of.kp C_worth_of.b .nil pass0 (pa_cons (pe_call C_put_in.ok (hr.mono (by decide)) (by rfl) C_put_in.at_ C_put_in.kp C_put_in.b .nil pass0 (pa_cons (pv 0) (pa_cons (pv 3) (pa_cons (pv 5) pa_nil)))) (pa_cons (pv 4) (pa_cons (pv 5) pa_nil)))) (pe_call C_worth_of.ok (hr.mono (by decide)) (by rfl) C_worth_of.at_ C_worth_of.kp C_worth_of.b .nil pass0 (pa_cons (pv 0) (pa_cons (pv 8) (pa_cons (pv 5) pa_nil)))) (nomark _)))))))), ?_⟩
    walk_at "st"
    refine ⟨a1, dh, n, q, t1, D, rfl, f1, edh, by omega, hq, ok1.small hq.2, fun H1 s1 => ?_⟩
    walk_at "st"
    refine ⟨a2, dh, m, q, t2, D, rfl, f2.to (Tups.same s1), s1 _ _ edh, by omega, hq, ok2.small hq.2, fun H2 s2 => ?_⟩
    walk_at "st"
    walk_at "if"
    have S2 := s1.trans s2
    have g1 := ok1.good
    have g2 := ok2.good
    refine ⟨a1, a2, n, m, q, t1, t2, rfl, f1.to (Tups.same S2), f2.to (Tups.same S2), by omega, hq, fun c3 r3 H3 s3 f3 cn3 => ?_⟩
    have F3 := cn3.form (n := n + m) q0 fun x m => (List.mem_append.mp m).elim (g1 x) (g2 x)
    have l3 := cn3.len
    rw [List.length_append] at l3
    walk_at "st"
    refine ⟨c3, dh, _, q, r3, D, rfl, f3, s3 _ _ (S2 _ _ edh), by omega, hq, F3.small hq.2, fun H4 s4 => ?_⟩
    walk_at "st"
    have e4 := W_sum (n := n) (m := m) D cn3
    unfold sumW at e4
    rw [e4]
    refine r_iteB (fun h => by simp at h) (fun _ => ?_)
    have S4 := S2.trans (s3.trans s4)
    walk_at "st"
    walk_at "if"
    refine ⟨a1, n, k, q, t1, rfl, f1.to (Tups.same S4), by omega, hq, by omega, fun c5 r5 H5 s5 f5 cn5 => ?_⟩
    have F5 := cn5.form (n := n * k) q0 (mulT_good g1)
    have l5 := cn5.len
    rw [mulT_len] at l5
    walk_at "st"
    refine ⟨c5, dh, _, q, r5, D, rfl, f5, s5 _ _ (S4 _ _ edh), by omega, hq, F5.small hq.2, fun H6 s6 => ?_⟩
    have w0 := Int.emod_nonneg (n + sumW D t1) (show q ≠ 0 by omega)
    have w1 := Int.emod_lt_of_pos (n + sumW D t1) q0
    unfold sumW at w0 w1
    walk_at "st"
    have e6 := W_times (n := n) D cn5
    unfold sumW at e6
    rw [e6]
    refine r_iteB (fun h => by simp at h) (fun _ => ?_)
    have S6 := S4.trans (s5.trans s6)
    have edl6 := S6 _ _ edl
    have edh6 := S6 _ _ edh
    walk_at "st"
    refine ⟨dl, _, edl6, trivial, fun od => ?_⟩
    have K7 : ∀ b o, b ≠ dl → H6 b = some o → upd H6 dl (.frz od (.dK kvs)) b = some o := fun b o ne e => hl_set ne e
    have T7 : Tups H6 (upd H6 dl (.frz od (.dK kvs))) := Tups.dk edl6
    have e7 : upd H6 dl (.frz od (.dK kvs)) dl = some (.frz od (.dK kvs)) := upd_same
    generalize upd H6 dl (.frz od (.dK kvs)) = H7 at *
    have ndk := fms_nodup lF hF ndF
    have edh7 := K7 _ _ nhl edh6
    walk_at "st"
    intro Dl hDl
    refine lc_map walk_keys (by omega) hDl (fun i y H' => ∃ x, (pastT q D F)[i]? = some x ∧ TrV H' y x) (fun _ _ _ _ h k => h.imp fun _ z => ⟨z.1, z.2.to (Tups.same k)⟩) (fun i v H' acc acc' h eD => h.imp fun _ z => ⟨z.1, z.2.to (Tups.lst eD)⟩) (fun H' k => k _ _ e7) (fun i H1 x H2 y => by rw [y.1]; exact Same.refl _)
      (fun i x H8 H9 Y No hi sm y hY => ?_) (fun ys H8 ely sm eD hys => ?_)
    · obtain ⟨rfl, key, v, ek, ekv⟩ := y
      obtain ⟨x', ex, ekey, fv⟩ := hF i _ ek
      have mx := List.mem_of_getElem? ex
      have okx := okF _ mx
      have lx := lenF _ mx
      obtain rfl : key = Sum.inr x'.1 := ekey
      obtain rfl : x = V.str x'.1 := ekv
      have fv8 := fv.to ((Tups.same S6).trans (T7.trans (Tups.same sm)))
      have gv : valV kvs (Sum.inr x'.1) = some v := valV_in ndk _ (List.mem_of_getElem? ek)
      have e8 := sm _ _ e7
      obtain ⟨av, bv, uv, rfl, fa, fb, ft⟩ := id fv8
      refine ⟨rfl, ?_⟩
      walk_at "st"
      refine ⟨dl, _, rfl, .inl ⟨kvs, Sum.inr x'.1, .inr ⟨od, e8⟩, rfl, gv.symm⟩, ?_⟩
      walk_at "st"
      refine ⟨av, dh, _, q, x'.2.2, D, rfl, fv8, sm _ _ edh7, by omega, hq, okx.small hq.2, fun H10 s10 => ?_⟩
      walk_at "st"
      intro t ht
      exact hY _ _ (s10.trans (Same.upd_new ht)) ⟨(x'.1, (x'.2.1 + sumW D x'.2.2) % q), by unfold pastT; rw [List.getElem?_map, ex]; rfl, t, rfl, upd_same⟩
    · have trs : Trs H8 ys (pastT q D F) := ⟨by rw [ely, lF]; unfold pastT; rw [List.length_map], hys⟩
      have e8 := sm _ _ e7
      have nDl : Dl ≠ dl := fun e => by rw [e, e7] at hDl; cases hDl
      have T8 : Tups H8 (upd H8 dl (.dK kvs)) := fun a xs h => hl_set (fun z => by rw [z, e8] at h; cases h) h
      have S8 : Same H6 (upd H8 dl (.dK kvs)) := fun b o e => by
        by_cases c : b = dl
        · subst c
          rw [upd_same, ← edl6, e]
        · rw [upd_ne c]; exact sm _ _ (K7 b o c e)
      obtain ⟨ps, rfl, prs⟩ := trs_pairs (trs.to T8)
      refine ⟨e8, ?_⟩
      have eD8 : upd H8 dl (.dK kvs) Dl = some (.lst (ps.map V.ref)) := hl_set nDl eD
      generalize upd H8 dl (.dK kvs) = H9 at *
      walk_at "st"
      have nde : ((encT (pastT q D F)).map fun x : Key × V => x.1).Nodup := by
        rw [encT_keys, pastT_keys]
        exact List.pairwise_map.mpr (ndF.imp fun n e => n (Sum.inr.inj e))
      refine ⟨Dl, ps, encT (pastT q D F), rfl, SqL.of eD8, prd_imp (fun _ _ e => SqT.of e) prs, fun dp hdp => ?_⟩
      rw [merge_nodup (encT (pastT q D F)) [] nde, List.nil_append]
      have S9 := S6.trans (S8.trans (Same.upd_new hdp (x := .dK (encT (pastT q D F)))))
      have edp : upd H9 dp (.dK (encT (pastT q D F))) dp = some (.dK (encT (pastT q D F))) := upd_same
      generalize upd H9 dp (.dK (encT (pastT q D F))) = H11 at *
      have lP := putP_lenF (b := 3) lenF keyF
      walk_at "st"
      refine ⟨a1, dl, n, q, t1, F, rfl, f1.to (Tups.same S9), ⟨kvs, S9 _ _ edl, lF, fun i e he => (hF i e he).imp fun _ z => ⟨z.1, z.2.1, z.2.2.to (Tups.same S9)⟩⟩, by omega, by omega, hq, ok1.small hq.2, fun c12 r12 H12 s12 f12 cn12 => ?_⟩
      have F12 := cn12.form (n := n + putN F t1) q0 (putP_goodF okF keyF)
      have l12 := cn12.len
      walk_at "st"
      refine ⟨c12, dh, _, q, r12, D, rfl, f12, s12 _ _ (S9 _ _ edh), by omega, hq, F12.small hq.2, fun H13 s13 => ?_⟩
      walk_at "st"
      refine ⟨a1, dp, n, q, t1, _, rfl, f1.to (Tups.same (S9.trans (s12.trans s13))), s13 _ _ (s12 _ _ edp), by omega, hq, ok1.small hq.2, fun H14 s14 => ?_⟩
      walk_at "st"
      have e14 := W_put (p := q) (n := n) D cn12 keyF
      unfold sumW at e14
      rw [e14]
      have := fin H14 (S9.trans (s12.trans (s13.trans s14)))
      simpa using this
end
local macro_rules | `(tactic| walk_at "ssz") => `(tactic| first | decide | exact str_small (by assumption) | (have : (1000000 : Nat) ≤ sizeLine := (by decide); omega))
local macro_rules | `(tactic| walk_at "st1") => `(tactic| first
  | with_reducible refine' r_nt ?_ | with_reducible refine' r_nf ?_
  | ((with_reducible refine r_lenS ?e1 ?_); (case e1 => walk_at "ssz"))
  | with_reducible refine r_inS ?_
  | with_reducible refine r_ninS ?_
  | ((with_reducible refine r_addS ?e1 ?_); (case e1 => walk_at "ssz"))
  | ((with_reducible refine' r_ixS ?e1 ?e2 ?_); (case e1 => walk_at "ssz"); (case e2 => first | assumption | rfl))
  | with_reducible refine r_istr ?_
  | with_reducible refine r_is ?_
  | with_reducible refine r_un ?_
  | with_reducible refine r_u ?_)
local macro_rules | `(tactic| walk_at "st1") => `(tactic| first
  | with_reducible refine r_par ?_
  | with_reducible refine r_parx ?_
  | ((with_reducible refine' r_gtup ?e1 ?e2 ?_); (case e1 => walk_at "sq"); (case e2 => rfl))
  | with_reducible refine r_gcons ?_
  | with_reducible refine r_gnil ?_
  | with_reducible refine r_disp ?_
  | with_reducible refine r_tp1 ?_
  | with_reducible refine r_tp0 ?_
  | ((with_reducible refine' r_dp1 ?e1 ?_); (case e1 => walk_at "hl"))
  | with_reducible refine r_dnewK ?_
  | with_reducible refine r_dget2 ?_
  | ((with_reducible refine' r_dg2 ?e1 ?_); (case e1 => walk_at "hl"))
  | ((with_reducible refine' r_dg3 ?e1 ?_); (case e1 => walk_at "hl"))
  | with_reducible refine r_dget ?_
  | ((with_reducible refine' r_dgv ?e1 ?e2 ?_); (case e1 => walk_at "hl"); (case e2 => assumption))
  | ((with_reducible refine' r_setD ?e1 ?e2 ?_); (case e1 => walk_at "hl"); (case e2 => omega)))
def sp_inverse (_ : PySem.W.Frag) : Sp := fun vs H Q _ => ∃ (n p : Int), vs = [.int n, .int p] ∧ (1 ≤ n ∧ n < p ∧ p ≤ 997) ∧ Nat.gcd p.toNat n.toNat = 1 ∧ ∀ b H', Same H H' → (1 ≤ b ∧ b < p) → b * n % p = 1 → Q (.int b) H'
section
variable {P : Program} {w : World} {K : PySem.W.Frag} {mg : Str → Option Value} {base : Heap}
theorem ok_inverse (T : Tx K mg)  {f : Addr} {fd : FuncData} (F : Here K mg "inverse" s_inverse ["n", "p"] f fd) : Cal P w K mg base "inverse" 1 ["n", "p"] (sp_inverse K) s_inverse f fd := by
  refine F.cal sc_inverse (fun vs H Q E h => ?_) (fun cdv A outer s H vs Q E hr h => ?_)
  · obtain ⟨n, p, rfl, _⟩ := h
    rfl
  · obtain ⟨n, p, rfl, hn, hg, q⟩ := h
    refine ⟨_, (pss_cons (ps_par (i := 2) (j := 3) rfl sc_inverse.nd rfl rfl (by decide) rfl rfl (pa_cons (pv 1) (pa_cons (pv 0) pa_nil)) (by rfl))
      (pss_cons (ps_asg (pe_tup (pa_cons pe_int (pa_cons pe_int pa_nil))) (castPG (K := K) (n := 2) (pg_tup rfl (pgs_cons (pg_name (i := 4) sc_inverse.nd rfl (by first | exact .inl rfl | exact .inr rfl)) (pgs_cons (pg_name (i := 5) sc_inverse.nd rfl (by first | exact .inl rfl | exact .inr rfl)) pgs_nil)))))
      (pss_cons (ps_while PassesOwn.never (pt_cmpR op_ne (pv 3) pe_int (nomark _)) (pss_cons (ps_set (i := 6) sc_inverse.nd rfl (by first | exact .inl rfl | exact .inr rfl) (pe_op op_fdivW (pv 2) (pv 3)))
      (pss_cons (ps_par (i := 2) (j := 3) rfl sc_inverse.nd rfl rfl (by decide) rfl rfl (pa_cons (pv 3) (pa_cons (pe_op op_sub (pv 2) (pe_op op_mul (pv 6) (pv 3))) pa_nil)) (by rfl))
      (pss_one (ps_par (i := 4) (j := 5) rfl sc_inverse.nd rfl rfl (by decide) rfl rfl (pa_cons (pv 5) (pa_cons (pe_op op_sub (pv 4) (pe_op op_mul (pv 6) (pv 5))) pa_nil)) (by rfl))))))
      (pss_one (ps_ret (pe_op op_mod (pv 4) (pv 1))))))), ?_⟩
    walk_at "st"
    intro tt htt
    walk_at "st"
    refine ⟨fun m σ' H' => ∃ (r l : Nat) (many lm : Int) (x6 : Option V), σ' = [some (.int n), some (.int p), some (.int r), some (.int l), some (.int many), some (.int lm), x6] ∧ H' = upd H tt (.tup [.int 0, .int 1]) ∧ l = m ∧ p ∣ (r : Int) - many * n ∧ p ∣ (l : Int) - lm * n ∧ Nat.gcd r l = 1 ∧ (r : Int) ≤ p ∧ (l : Int) ≤ p, ⟨n.toNat, p.toNat, n.toNat, 0, 1, none, ?_, rfl, rfl, ?_, ?_, hg, by omega, by omega⟩, fun m σ' H' w => ?_⟩
    · rw [show ((p.toNat : Nat) : Int) = p by omega, show ((n.toNat : Nat) : Int) = n by omega]
      rfl
    · rw [show ((p.toNat : Nat) : Int) = p by omega]
      simp
    · rw [show ((n.toNat : Nat) : Int) = n by omega]
      simp
    · obtain ⟨r, l, many, lm, x6, rfl, rfl, rfl, d1, d2, g, b1, b2⟩ := w
      walk_at "st"
      refine r_iteB (fun h => ?_) (fun h => ?_)
      · have hl : l ≠ 0 := fun z => by rw [z] at h; simp at h
        refine ⟨fun σ' H' => ∃ m', m' < l ∧ ∃ (r l : Nat) (many lm : Int) (x6 : Option V), σ' = [some (.int n), some (.int p), some (.int r), some (.int l), some (.int many), some (.int lm), x6] ∧ H' = _ ∧ l = m' ∧ p ∣ (r : Int) - many * n ∧ p ∣ (l : Int) - lm * n ∧ Nat.gcd r l = 1 ∧ (r : Int) ≤ p ∧ (l : Int) ≤ p, fun _ _ h => h, ?_⟩
        have hw : CDivW (r : Int) (l : Int) := wide_div (b := 30) (by omega) (by omega) (by decide) (by decide)
        have e1 : (r : Int) / l = ((r / l : Nat) : Int) := rfl
        have e2 : r / l ≤ r := Nat.div_le_self _ _
        have e0 : (0 : Int) ≤ (r : Int) / l := Int.ediv_nonneg (by omega) (by omega)
        have cm1 : CMul ((r : Int) / l) (l : Int) := .inr ⟨by omega, by omega⟩
        have cm2 : CMul ((r : Int) / l) lm := .inl ⟨by omega, by omega⟩
        walk_at "st"
        have e3 : (r : Int) - (r : Int) / l * l = ((r % l : Nat) : Int) := by
          rw [show ((r % l : Nat) : Int) = (r : Int) % l from rfl, Int.emod_def, Int.mul_comm]
        rw [e3]
        refine ⟨r % l, Nat.mod_lt _ (by omega), l, r % l, lm, many - (r : Int) / l * lm, _, rfl, rfl, rfl, d2, ?_, ?_, b2, ?_⟩
        · rw [← e3]
          obtain ⟨c1, h1⟩ := d1
          obtain ⟨c2, h2⟩ := d2
          refine ⟨c1 - (r : Int) / l * c2, ?_⟩
          rw [Int.mul_sub, ← h1, Int.mul_left_comm, ← h2, Int.sub_mul, Int.mul_sub, Int.mul_assoc]
          omega
        · rw [← g, Nat.gcd_comm r l, Nat.gcd_rec l r, Nat.gcd_comm]
        · have := Nat.mod_lt r (show 0 < l by omega)
          omega
      · have hl : l = 0 := by simpa using h
        subst hl
        walk_at "st"
        have hr1 : r = 1 := by simpa using g
        subst hr1
        obtain ⟨c1, h1⟩ := d1
        have key : many % p * n % p = 1 := by
          rw [Int.mul_emod, Int.emod_emod, ← Int.mul_emod]
          have : many * n = 1 - p * c1 := by omega
          rw [this, Int.sub_emod, Int.mul_emod_right]
          simp
          exact Int.emod_eq_of_lt (by omega) (by omega)
        refine q _ _ (Same.upd_new htt) ⟨?_, Int.emod_lt_of_pos _ (by omega)⟩ key
        have h0 := Int.emod_nonneg many (show p ≠ 0 by omega)
        by_cases z : many % p = 0
        · rw [z] at key
          simp at key
        · omega
end
theorem prd_snoc {α β : Type} {R : α → β → Prop} {xs : List α} {ys : List β} {a : α} {b : β} (p : Paired R xs ys) (q : R a b) : Paired R (xs ++ [a]) (ys ++ [b]) := by
  induction p with
  | nil => exact .cons q .nil
  | cons q _ ih => exact .cons q ih
theorem prd_len {α β : Type} {R : α → β → Prop} {xs : List α} {ys : List β} (p : Paired R xs ys) : xs.length = ys.length := by
  induction p with
  | nil => rfl
  | cons _ _ ih => rw [List.length_cons, List.length_cons, ih]
/-- pairs made of some places, in order -/
def PrsI (s c l D : Addr) (zs : List Str) (H0 : Hp) (i : Nat) (H' : Hp) (kvs : List (Key × V)) : Prop := Kp [s, c] H0 H' ∧ St s c H' ∧ H' l = some (.lst (zs.map V.str)) ∧ (∃ ps : List Addr, H' D = some (.lst (ps.map V.ref)) ∧ Paired (fun p kv => H' p = some (.tup [kV kv.1, kv.2])) ps kvs) ∧
  (kvs.map fun x : Key × V => x.1).Sublist ((zs.take i).map Sum.inr)
theorem PrsI.start {s c l D : Addr} {zs : List Str} {H0 : Hp} (st : St s c H0) (hl : H0 l = some (.lst (zs.map V.str))) (hD : H0 D = none) : PrsI s c l D zs H0 0 (upd H0 D (.lst [])) [] :=
  ⟨Kp.new hD, st.new hD, hl_new hl hD, ⟨[], upd_same, .nil⟩, List.Sublist.refl _⟩
/-- nothing is kept in this turn -/
theorem PrsI.skip {s c l D : Addr} {zs : List Str} {H0 H1 H2 : Hp} {i : Nat} {kvs : List (Key × V)} (h : PrsI s c l D zs H0 i H1 kvs) (k : Kp [s, c] H1 H2) (st : St s c H2) (nl : l ∉ [s, c]) (nD : D ∉ [s, c]) : PrsI s c l D zs H0 (i + 1) H2 kvs := by
  obtain ⟨k1, st1, el, ⟨ps, eD, pr⟩, sb⟩ := h
  refine ⟨k1.trans k, st, k _ _ el nl, ⟨ps, k _ _ eD nD, prd_imp (fun _ _ e => Tups.st k st1 _ _ e) pr⟩, sb.trans ?_⟩
  rw [List.take_succ, List.map_append]
  exact List.sublist_append_left _ _
theorem PrsI.keep {s c l D : Addr} {zs : List Str} {H0 H1 H2 : Hp} {i : Nat} {kvs : List (Key × V)} {z : Str} {v : V} {t : Addr} (h : PrsI s c l D zs H0 i H1 kvs) (k : Kp [s, c] H1 H2) (st : St s c H2) (nl : l ∉ [s, c]) (nD : D ∉ [s, c]) (hD0 : H0 D = none) (nlD : l ≠ D) (ez : zs[i]? = some z) (li : i < 60)
    (ht : H2 t = some (.tup [.str z, v])) : ∃ acc, H2 D = some (.lst acc) ∧ acc.length < sizeLine ∧ PrsI s c l D zs H0 (i + 1) (upd H2 D (.lst (acc ++ [.ref t]))) (kvs ++ [(Sum.inr z, v)]) := by
  obtain ⟨k1, st1, el, ⟨ps, eD, pr⟩, sb⟩ := h
  have eD2 := k _ _ eD nD
  have lk : kvs.length ≤ i := by
    have := sb.length_le
    rw [List.length_map, List.length_map, List.length_take] at this
    omega
  refine ⟨_, eD2, by rw [List.length_map, prd_len pr]; exact Nat.lt_of_le_of_lt lk (Nat.lt_of_lt_of_le li (by decide)), (k1.trans k).own hD0, st.set nD, hl_set nlD (k _ _ el nl), ⟨ps ++ [t], by rw [upd_same, List.map_append]; rfl, prd_snoc (prd_imp (fun _ _ e => Tups.lst eD2 _ _ (Tups.st k st1 _ _ e)) pr) (Tups.lst eD2 _ _ ht)⟩, ?_⟩
  rw [List.take_succ, ez, List.map_append, List.map_append]
  exact sb.append (List.Sublist.refl _)
theorem PrsI.nodup {s c l D : Addr} {zs : List Str} {H0 H1 : Hp} {i : Nat} {kvs : List (Key × V)} (h : PrsI s c l D zs H0 i H1 kvs) (nd : zs.Nodup) : (kvs.map fun x : Key × V => x.1).Nodup :=
  List.Nodup.sublist (h.2.2.2.2.trans ((List.take_sublist _ _).map _)) (List.pairwise_map.mpr (nd.imp fun n e => n (Sum.inr.inj e)))
/-- the forms that stand under keys -/
def FmsAt (H : Hp) (kvs : List (Key × V)) (F : List Fm) : Prop := kvs.length = F.length ∧ ∀ (i : Nat) (e : Key × V), kvs[i]? = some e → ∃ x, F[i]? = some x ∧ e.1 = Sum.inr x.1 ∧ FrmV H e.2 x.2.1 x.2.2
theorem FmsAt.to {H H' : Hp} {kvs : List (Key × V)} {F : List Fm} (h : FmsAt H kvs F) (k : Tups H H') : FmsAt H' kvs F := ⟨h.1, fun i e he => (h.2 i e he).imp fun _ z => ⟨z.1, z.2.1, z.2.2.to k⟩⟩
theorem FmsAt.refs {H : Hp} {kvs : List (Key × V)} {F : List Fm} (h : FmsAt H kvs F) : ∀ p ∈ kvs, ∃ r, p.2 = V.ref r := fun p m => by
  obtain ⟨i, e⟩ := List.getElem?_of_mem m
  obtain ⟨x, _, _, a, b, us, ev, _⟩ := h.2 i p e
  exact ⟨a, ev⟩
theorem FmsAt.snoc {H : Hp} {kvs : List (Key × V)} {F : List Fm} (h : FmsAt H kvs F) {z : Str} {v : V} {n : Int} {ts : List Tr} (f : FrmV H v n ts) : FmsAt H (kvs ++ [(Sum.inr z, v)]) (F ++ [(z, n, ts)]) :=
  ⟨by rw [List.length_append, List.length_append, h.1]; rfl, fun i e he => by
    by_cases lt : i < kvs.length
    · rw [List.getElem?_append_left lt] at he
      rw [List.getElem?_append_left (by rw [← h.1]; exact lt)]
      exact h.2 i e he
    · rw [List.getElem?_append_right (by omega)] at he
      rw [List.getElem?_append_right (by rw [← h.1]; omega), ← h.1]
      cases hj : i - kvs.length with
      | zero => rw [hj] at he; cases he; exact ⟨_, rfl, rfl, f⟩
      | succ m => rw [hj] at he; simp at he⟩
/-! ### forms as data: compared, shown -/
theorem eqvAll_map {α : Type} [DecidableEq α] {g : α → PyData} (h : ∀ x y, PyData.eqv (g x) (g y) = decide (x = y)) : ∀ a b : List α, PyData.eqvAll (a.map g) (b.map g) = decide (a = b)
  | [], [] => by simp [PyData.eqvAll]
  | [], y :: b => by simp [PyData.eqvAll]
  | x :: a, [] => by simp [PyData.eqvAll]
  | x :: a, y :: b => by
    rw [List.map_cons, List.map_cons, PyData.eqvAll, h, eqvAll_map h a b]
    simp [List.cons.injEq]
theorem canLay_all {ds : List PyData} (h : ∀ d ∈ ds, d.canLay0 = true) : PyData.canLayAll0 ds = true := by
  induction ds with
  | nil => rw [PyData.canLayAll0]
  | cons d ds ih => rw [PyData.canLayAll0, h d List.mem_cons_self, ih fun e m => h e (List.mem_cons_of_mem _ m)]; rfl
theorem depth_all {ds : List PyData} {n : Nat} (h : ∀ d ∈ ds, d.depth ≤ n) : PyData.depthAll ds ≤ n := by
  induction ds with
  | nil => rw [PyData.depthAll]; exact Nat.zero_le _
  | cons d ds ih => rw [PyData.depthAll]; exact Nat.max_le.mpr ⟨h d List.mem_cons_self, ih fun e m => h e (List.mem_cons_of_mem _ m)⟩
theorem weight_all {ds : List PyData} {n : Nat} (h : ∀ d ∈ ds, d.weight ≤ n) : PyData.weightAll ds ≤ (n + 1) * ds.length := by
  induction ds with
  | nil => rw [PyData.weightAll]; exact Nat.zero_le _
  | cons d ds ih =>
    rw [PyData.weightAll, List.length_cons, Nat.mul_add]
    have := h d List.mem_cons_self
    have := ih fun e m => h e (List.mem_cons_of_mem _ m)
    omega
theorem show_all {ds : List PyData} (h : ∀ d ∈ ds, d.showable = true) : PyData.showableAll ds = true := by
  induction ds with
  | nil => rw [PyData.showableAll]
  | cons d ds ih => rw [PyData.showableAll, h d List.mem_cons_self, ih fun e m => h e (List.mem_cons_of_mem _ m)]; rfl
theorem short_all {ds : List PyData} (h : ∀ d ∈ ds, d.intsShort 13 = true) : PyData.intsShortAll 13 ds = true := by
  induction ds with
  | nil => rw [PyData.intsShortAll]
  | cons d ds ih => rw [PyData.intsShortAll, h d List.mem_cons_self, ih fun e m => h e (List.mem_cons_of_mem _ m)]; rfl
/-- what is wanted of data that is compared and shown -/
structure Nice (m W : Nat) (d : PyData) : Prop where
  lay : d.canLay0 = true
  depth : d.depth ≤ m
  weight : d.weight ≤ W
  sh : d.showable = true
  short : d.intsShort 13 = true
theorem ints_nice : ((List.range 1000).all fun n => decide ((PyData.shown (.int n)).length ≤ 13) && decide (((n : Int)).natAbs.log2 < 1920) && decide ((PyData.int n).weight ≤ 40)) = true := by decide +kernel
theorem Nice.int {i : Int} (h0 : 0 ≤ i) (h1 : i < 1000) : Nice 0 40 (.int i) := by
  obtain ⟨n, rfl⟩ : ∃ n : Nat, i = n := ⟨i.toNat, by omega⟩
  have := List.all_eq_true.mp ints_nice n (List.mem_range.mpr (by omega))
  simp only [Bool.and_eq_true, decide_eq_true_eq] at this
  refine ⟨by rw [PyData.canLay0], by rw [PyData.depth]; exact Nat.le_refl _, this.2, by rw [PyData.showable]; exact decide_eq_true this.1.2, by rw [PyData.intsShort]; exact decide_eq_true this.1.1⟩
theorem signs_ok : signsL.all (fun c => decide (c < 0x110000)) = true := by decide +kernel
theorem Nice.str {z : Str} (h : goodW (cs z)) : Nice 0 40 (.str z) := by
  refine ⟨?_, by rw [PyData.depth]; exact Nat.le_refl _, ?_, by rw [PyData.showable], by rw [PyData.intsShort]⟩
  · rw [PyData.canLay0]
    unfold PyData.strOk
    rw [← Array.all_toList]
    exact List.all_eq_true.mpr fun c m => decide_eq_true (of_decide_eq_true (List.all_eq_true.mp signs_ok c (h.2.2.2 c m)))
  · rw [PyData.weight]
    have := h.2.1
    rw [cs_len] at this
    exact this
theorem Nice.tup {m W n : Nat} {ds : List PyData} (h : ∀ d ∈ ds, Nice m W d) (l : ds.length ≤ n) : Nice (m + 1) ((W + 1) * n) (.tuple ds) := by
  have wa := weight_all fun d k => (h d k).weight
  refine ⟨by rw [PyData.canLay0]; exact canLay_all fun d k => (h d k).lay, by rw [PyData.depth]; exact Nat.succ_le_succ (depth_all fun d k => (h d k).depth), ?_, by rw [PyData.showable]; exact show_all fun d k => (h d k).sh, by rw [PyData.intsShort]; exact short_all fun d k => (h d k).short⟩
  rw [PyData.weight]
  exact Nat.le_trans wa (Nat.mul_le_mul (Nat.le_refl _) l)
theorem Nice.lst {m W n : Nat} {ds : List PyData} (h : ∀ d ∈ ds, Nice m W d) (l : ds.length ≤ n) : Nice (m + 1) ((W + 1) * n) (.list ds) := by
  have wa := weight_all fun d k => (h d k).weight
  refine ⟨by rw [PyData.canLay0]; exact canLay_all fun d k => (h d k).lay, by rw [PyData.depth]; exact Nat.succ_le_succ (depth_all fun d k => (h d k).depth), ?_, by rw [PyData.showable]; exact show_all fun d k => (h d k).sh, by rw [PyData.intsShort]; exact short_all fun d k => (h d k).short⟩
  rw [PyData.weight]
  exact Nat.le_trans wa (Nat.mul_le_mul (Nat.le_refl _) l)
theorem Nice.up {m n W X : Nat} {d : PyData} (h : Nice m W d) (l : m ≤ n) (k : W ≤ X) : Nice n X d :=
  ⟨h.lay, Nat.le_trans h.depth l, Nat.le_trans h.weight k, h.sh, h.short⟩
def trD (x : Tr) : PyData := .tuple [.str x.1, .int x.2]
def frmD (n : Int) (ts : List Tr) : PyData := .tuple [.int n, .tuple (ts.map trD)]
theorem frm_nice {q n : Int} {ts : List Tr} (h : FormOk q n ts) (hq : q ≤ 997) (l : ts.length < 64) : Nice 3 11000 (frmD n ts) := by
  refine (Nice.tup (m := 2) (W := 5313) (n := 2) (fun d m => ?_) (by simp)).up (Nat.le_refl _) (by decide)
  rcases List.mem_cons.mp m with rfl | m
  · exact (Nice.int h.num.1 (by have := h.num.2; omega)).up (by decide) (by decide)
  · rw [List.mem_singleton.mp m]
    refine (Nice.tup (m := 1) (W := 82) (n := 64) (fun d m => ?_) (by rw [List.length_map]; omega)).up (Nat.le_refl _) (by decide)
    obtain ⟨x, hx, rfl⟩ := List.mem_map.mp m
    have g := h.ok.ok x hx
    refine Nice.tup (m := 0) (W := 40) (n := 2) (fun d m => ?_) (by simp)
    rcases List.mem_cons.mp m with rfl | m
    · exact Nice.str g.1
    · rw [List.mem_singleton.mp m]; exact Nice.int (by omega) (by omega)
theorem Nice.shaped {m W : Nat} {d : PyData} (h : Nice m W d) (l : m ≤ 64) : SeqAt.shaped d = true := by
  unfold SeqAt.shaped
  rw [h.lay, Bool.true_and]
  exact decide_eq_true (Nat.le_trans h.depth l)
theorem Nice.shown {d : PyData} (h : Nice 3 11000 d) : d.showable = true ∧ d.hasDict = false ∧ d.depth ≤ 40 ∧ d.shown.length ≤ sizeLine := by
  refine ⟨h.sh, PyData.hasDict_of_canLay d h.lay, Nat.le_trans h.depth (by decide), ?_⟩
  have hl : PyData.layable0 d = true := by
    unfold PyData.layable0
    rw [h.lay, decide_eq_true (show d.depth ≤ 64 from Nat.le_trans h.depth (by decide)), decide_eq_true (show d.weight ≤ 2 ^ 20 from Nat.le_trans h.weight (by decide))]; rfl
  exact Nat.le_trans (PyProof.Rows.shown_le13 hl h.short) (by decide)
theorem eqv_frm (n m : Int) (a b : List Tr) : PyData.eqv (frmD n a) (frmD m b) = decide (n = m ∧ a = b) := by
  unfold frmD
  rw [PyData.eqv, PyData.eqvAll, PyData.eqvAll, PyData.eqvAll, PyData.eqv, PyData.eqv, eqvAll_map (g := trD) (fun x y => ?_) a b]
  · by_cases c : n = m <;> by_cases d : a = b <;> simp [c, d]
  · unfold trD
    obtain ⟨x1, x2⟩ := x
    obtain ⟨y1, y2⟩ := y
    rw [PyData.eqv, PyData.eqvAll, PyData.eqvAll, PyData.eqvAll, PyData.eqv, PyData.eqv]
    by_cases c : x1 = y1 <;> by_cases d : x2 = y2 <;> simp [c, d]
theorem DpAll.trs {K : PySem.W.Frag} {H : Hp} : ∀ {us : List V} {ts : List Tr}, Trs H us ts → DpAll K H us (ts.map trD)
  | [], [], _ => .nil
  | [], _ :: _, h => by have := h.1; simp at this
  | _ :: _, [], h => by have := h.1; simp at this
  | u :: us, x :: ts, h => by
    obtain ⟨y, e, t, rfl, ht⟩ := h.2 0 u rfl
    obtain rfl : x = y := Option.some.inj e
    exact .cons (.tup (SqT.of ht) (.cons (.str _) (.cons (.int _) .nil))) (DpAll.trs ⟨by have := h.1; simp at this; exact this, fun i v e => h.2 (i + 1) v (by simpa using e)⟩)
theorem Dp.frm {K : PySem.W.Frag} {H : Hp} {v : V} {n : Int} {ts : List Tr} (h : FrmV H v n ts) : Dp K H v (frmD n ts) := by
  obtain ⟨a, b, us, rfl, h1, h2, h3⟩ := h
  exact .tup (SqT.of h1) (.cons (.int n) (.cons (.tup (SqT.of h2) (DpAll.trs h3)) .nil))
theorem op_eqDK {X : Cx} {K : PySem.W.Frag} (hu : X.A.units + 64 < cLine) (q : X.K = K := by rfl) : OpR X (compareOp .Eq) (rEqD K) := q ▸ op_eqD hu
theorem op_neDK {X : Cx} {K : PySem.W.Frag} (hu : X.A.units + 64 < cLine) (q : X.K = K := by rfl) : OpR X (compareOp .NotEq) (rNeD K) := q ▸ op_neD hu
section
variable {K : PySem.W.Frag} {H : Hp} {Q : VK} {v w : V} {n m q : Int} {a b : List Tr}
theorem r_eqF (h1 : FrmV H v n a) (h2 : FrmV H w m b) (n1 : Nice 3 11000 (frmD n a)) (n2 : Nice 3 11000 (frmD m b)) (k : Q (.bl (decide (n = m ∧ a = b))) H) : rEqD K v w H Q :=
  ⟨_, _, Dp.frm h1, Dp.frm h2, n1.shaped (by decide), n2.shaped (by decide), by rw [eqv_frm]; exact k⟩
theorem r_neF (h1 : FrmV H v n a) (h2 : FrmV H w m b) (n1 : Nice 3 11000 (frmD n a)) (n2 : Nice 3 11000 (frmD m b)) (k : Q (.bl (!decide (n = m ∧ a = b))) H) : rNeD K v w H Q :=
  ⟨_, _, Dp.frm h1, Dp.frm h2, n1.shaped (by decide), n2.shaped (by decide), by rw [eqv_frm]; exact k⟩
end
local macro_rules | `(tactic| walk_at "ssz") => `(tactic| first | decide | exact str_small (by assumption) | (have : (1000000 : Nat) ≤ sizeLine := (by decide); omega))
local macro_rules | `(tactic| walk_at "st1") => `(tactic| first
  | with_reducible refine' r_nt ?_ | with_reducible refine' r_nf ?_
  | ((with_reducible refine r_lenS ?e1 ?_); (case e1 => walk_at "ssz"))
  | with_reducible refine r_inS ?_
  | with_reducible refine r_ninS ?_
  | ((with_reducible refine r_addS ?e1 ?_); (case e1 => walk_at "ssz"))
  | ((with_reducible refine' r_ixS ?e1 ?e2 ?_); (case e1 => walk_at "ssz"); (case e2 => first | assumption | rfl))
  | with_reducible refine r_istr ?_
  | with_reducible refine r_is ?_
  | with_reducible refine r_un ?_
  | with_reducible refine r_u ?_)
local macro_rules | `(tactic| walk_at "st1") => `(tactic| first
  | with_reducible refine r_par ?_
  | with_reducible refine r_parx ?_
  | ((with_reducible refine' r_gtup ?e1 ?e2 ?_); (case e1 => walk_at "sq"); (case e2 => rfl))
  | with_reducible refine r_gcons ?_
  | with_reducible refine r_gnil ?_
  | with_reducible refine r_disp ?_
  | with_reducible refine r_tp1 ?_
  | with_reducible refine r_tp0 ?_
  | ((with_reducible refine' r_dp1 ?e1 ?_); (case e1 => walk_at "hl"))
  | with_reducible refine r_dnewK ?_
  | with_reducible refine r_dget2 ?_
  | ((with_reducible refine' r_dg2 ?e1 ?_); (case e1 => walk_at "hl"))
  | ((with_reducible refine' r_dg3 ?e1 ?_); (case e1 => walk_at "hl"))
  | with_reducible refine r_dget ?_
  | ((with_reducible refine' r_dgv ?e1 ?e2 ?_); (case e1 => walk_at "hl"); (case e2 => assumption))
  | ((with_reducible refine' r_setD ?e1 ?e2 ?_); (case e1 => walk_at "hl"); (case e2 => omega)))
local macro_rules | `(tactic| walk_at "st1") => `(tactic| first
  | with_reducible refine r_tru ?_
  | ((with_reducible refine' r_truT ?e1 ?_); (case e1 => walk_at "sq"))
  | with_reducible refine r_isN ?_
  | with_reducible refine r_tyS ?_
  | with_reducible refine r_m1 ?_
  | with_reducible refine r_sx ?_
  | ((with_reducible refine r_strC ?e1 ?_); (case e1 => omega)))
theorem op_ninSeqK {X : Cx} {K : PySem.W.Frag} (q : X.K = K := by rfl) : OpR X (compareOp .NotIn) (rIn K true) := q ▸ op_notIn_seq
theorem r_ninSeq {K : PySem.W.Frag} {H : Hp} {Q : VK} {p : Addr} {z : Str} {zs : List Str} (h : SqL K H p (zs.map V.str)) (q : Q (.bl (!decide (z ∈ zs))) H) : rIn K true (.str z) (.ref p) H Q :=
  ⟨p, _, rfl, .inl h, rfl, flat_strs zs, by rw [if_pos rfl, inV_strs]; exact q⟩
theorem coef_rev (z : Str) : ∀ ts : List Tr, coef ts.reverse z = coef ts z
  | [] => rfl
  | x :: ts => by rw [List.reverse_cons, coef_app, coef_rev z ts, coef_cons, coef_cons, coef_nil, Int.add_zero, Int.add_comm]
theorem Trs.reverse {H : Hp} {us : List V} {ts : List Tr} (h : Trs H us ts) : Trs H us.reverse ts.reverse := ⟨by rw [List.length_reverse, List.length_reverse]; exact h.1, fun i v e => by
  have lt : i < us.length := by have := (List.getElem?_eq_some_iff.mp e).1; rwa [List.length_reverse] at this
  rw [List.getElem?_reverse lt] at e
  rw [List.getElem?_reverse (by rw [← h.1]; exact lt), ← h.1]
  exact h.2 _ v e⟩
def zeroF (zs : List Str) : List Fm := zs.map fun z => (z, (0 : Int), ([] : List Tr))
theorem zeroF_keys (zs : List Str) : (zeroF zs).map (fun x : Fm => x.1) = zs := by
  unfold zeroF; rw [List.map_map]; exact List.map_id' zs
theorem zero_look {zs : List Str} {z : Str} (h : z ∈ zs) : look (zeroF zs) z = (0, []) := by
  have m := look_in (F := zeroF zs) (z := z) (by rw [zeroF_keys]; exact h)
  unfold zeroF at m
  obtain ⟨y, _, e⟩ := List.mem_map.mp m
  exact (congrArg Prod.snd e).symm
theorem zero_put {zs : List Str} {ts : List Tr} (h : ∀ x ∈ ts, x.1 ∈ zs) : putN (zeroF zs) ts = 0 ∧ putP (zeroF zs) ts = [] := by
  induction ts with
  | nil => exact ⟨rfl, rfl⟩
  | cons x ts ih =>
    obtain ⟨h1, h2⟩ := ih fun y m => h y (List.mem_cons_of_mem _ m)
    have e := zero_look (h x List.mem_cons_self)
    constructor
    · unfold putN at h1 ⊢
      rw [List.map_cons, List.sum_cons, h1, e]; simp
    · unfold putP at h2 ⊢
      rw [List.flatMap_cons, h2, e]; rfl
theorem zip_enc {zs : List Str} {r : List Int} (nd : zs.Nodup) (h : zs.length = r.length) : mergeK [] ((zs.map (Sum.inr : Str → Key)).zip (r.map V.int)) = encT (zs.zip r) := by
  have e : ((zs.map (Sum.inr : Str → Key)).zip (r.map V.int)) = encT (zs.zip r) := by
    unfold encT
    rw [List.zip_map]; rfl
  rw [e, merge_nodup _ [] (by
    rw [List.nil_append, encT_keys, zip_keys h]
    exact List.pairwise_map.mpr (nd.imp fun n e => n (Sum.inr.inj e))), List.nil_append]
theorem join_len (s : List Nat) : ∀ ps : List (List Nat), (TL.joinL s ps).length ≤ (ps.map fun p => p.length + s.length).sum
  | [] => Nat.zero_le _
  | [p] => by
    rw [List.map_cons, List.sum_cons]
    show p.length ≤ _
    omega
  | p :: q :: ps => by
    have ih := join_len s (q :: ps)
    have e : TL.joinL s (p :: q :: ps) = p ++ s ++ TL.joinL s (q :: ps) := by first | rfl | simp [TL.joinL]
    rw [e, List.length_append, List.length_append, List.map_cons, List.sum_cons]
    omega
theorem part_len {p n : Int} {ts : List Tr} (h : FormOk p n ts) (hp : p ≤ 997) : ∀ b ∈ partsC n ts, b.length ≤ 47 := fun b m => by
  have l7 : ∀ k : Int, k ≤ 997 → (numC k).length ≤ 7 := fun k hk => numC_le (by omega)
  unfold partsC at m
  rcases List.mem_append.mp m with m | m
  · split at m
    · rw [List.mem_singleton.mp m]
      have := l7 n (by have := h.num; omega)
      omega
    · cases m
  · obtain ⟨x, hx, rfl⟩ := List.mem_map.mp m
    have g := h.ok.ok x hx
    have := l7 x.2 (by omega)
    have := g.1.2.1
    unfold termC
    rw [List.length_append]
    split
    · show 0 + _ ≤ 47; omega
    · omega
theorem parts_len (n : Int) (ts : List Tr) : (partsC n ts).length ≤ ts.length + 1 := by
  unfold partsC
  rw [List.length_append, List.length_map]
  split
  · show 1 + _ ≤ _; omega
  · show 0 + _ ≤ _; omega
theorem sum_le {b : Nat} : ∀ {l : List Nat}, (∀ x ∈ l, x ≤ b) → l.sum ≤ l.length * b
  | [], _ => Nat.zero_le _
  | x :: l, h => by
    have ih := sum_le (l := l) fun y m => h y (List.mem_cons_of_mem _ m)
    have := h x List.mem_cons_self
    rw [List.sum_cons, List.length_cons, Nat.succ_mul]; omega
theorem drop_len (f : Nat → Bool) : ∀ a : List Nat, (a.dropWhile f).length ≤ a.length
  | [] => Nat.le_refl _
  | c :: a => by
    rw [List.dropWhile_cons]
    split
    · exact Nat.le_succ_of_le (drop_len f a)
    · exact Nat.le_refl _
theorem text_small {p n : Int} {ts : List Tr} (h : FormOk p n ts) (hp : p ≤ 997) (l : ts.length ≤ 3) : (textC n ts).length ≤ 10000 ∧ (TL.spl [43] 0 [] (textC n ts)).length ≤ 1000 ∧ ∀ b ∈ TL.spl [43] 0 [] (textC n ts), (b.dropWhile digC).length ≤ 1000 := by
  rw [split_text h.good]
  have h1 := part_len h hp
  have h2 := parts_len n ts
  refine ⟨?_, by omega, fun b m => by have := h1 b m; have := drop_len digC b; omega⟩
  have h3 := join_len [43] (partsC n ts)
  have h4 := sum_le (b := 48) (l := (partsC n ts).map fun p => p.length + [43].length) fun x m => by
    obtain ⟨b, hb, rfl⟩ := List.mem_map.mp m
    have := h1 b hb
    show b.length + 1 ≤ 48
    omega
  rw [List.length_map] at h4
  unfold textC
  have : (partsC n ts).length * 48 ≤ 4 * 48 := Nat.mul_le_mul (by omega) (Nat.le_refl _)
  omega
theorem back_id {q n k b : Int} {ts r1 r2 : List Tr} (hq : 2 ≤ q) (ok : FormOk q n ts) (c1 : Canon q (mulT k ts) r1) (c2 : Canon q (mulT b r1) r2) (hb : b * (k % q) % q = 1) : n * k % q * b % q = n ∧ r2 = ts := by
  have key : ∀ x : Int, x * k % q * b % q = x % q := fun x => by
    rw [Int.mul_emod, Int.emod_emod, ← Int.mul_emod, Int.mul_assoc, Int.mul_emod]
    have : k * b % q = 1 := by
      rw [Int.mul_comm]
      rwa [Int.mul_emod, Int.emod_emod, ← Int.mul_emod] at hb
    rw [this, Int.mul_one, Int.emod_emod]
  refine ⟨by rw [key, Int.emod_eq_of_lt ok.num.1 ok.num.2], c2.same ok.ok.canon fun z => ?_⟩
  have e1 : ∀ (k : Int) (ts : List Tr), coef (mulT k ts) z = coef ts z * k := fun k ts => by
    induction ts with
    | nil => rw [coef_nil]; show coef [] z = _; rw [coef_nil, Int.zero_mul]
    | cons x ts ih =>
      show coef ((x.1, x.2 * k) :: mulT k ts) z = _
      rw [coef_cons, coef_cons, ih, Int.add_mul]
      by_cases c : x.1 = z
      · rw [if_pos c, if_pos c]
      · rw [if_neg c, if_neg c, Int.zero_mul]
  rw [e1, c1.coef, e1, key]
theorem FrmV.repD {H : Hp} {v : V} {n : Int} {ts : List Tr} (h : FrmV H v n ts) : Rep [] H v (dataO n (someP ts)) := by
  obtain ⟨a, b, us, rfl, ha, hb, ht⟩ := h
  refine .tup ha List.not_mem_nil (.cons (.int n) (.cons (.tup hb List.not_mem_nil (Prsv.rep ⟨by unfold someP; rw [List.length_map]; exact ht.1, fun i v e => ?_⟩)) .nil))
  obtain ⟨x, ex, t, rfl, h1⟩ := ht.2 i v e
  exact ⟨(x.1, some x.2), by unfold someP; rw [List.getElem?_map, ex]; rfl, t, rfl, h1⟩
theorem small_data {n : Int} {ts : List Tr} (h : ∀ x ∈ ts, goodW (cs x.1)) (l : ts.length ≤ 1000) : smallF (dataO n (someP ts)) := by
  refine ⟨by unfold someP; rw [List.length_map, List.length_map]; exact l, fun t m => ?_⟩
  obtain ⟨y, hy, rfl⟩ := List.mem_map.mp m
  unfold someP at hy
  obtain ⟨x, hx, rfl⟩ := List.mem_map.mp hy
  have := (h x hx).2.1
  rw [cs_len] at this
  show x.1.length ≤ 1000
  omega
/-- pairs of places and forms of nothing -/
def ZV (H : Hp) (v : V) (z : Str) : Prop := ∃ t f b, v = .ref t ∧ H t = some (.tup [.str z, .ref f]) ∧ H f = some (.tup [.int 0, .ref b]) ∧ H b = some (.tup [])
theorem ZV.to {H H' : Hp} {v : V} {z : Str} (h : ZV H v z) (k : Tups H H') : ZV H' v z := by
  obtain ⟨t, f, b, e, h1, h2, h3⟩ := h
  exact ⟨t, f, b, e, k _ _ h1, k _ _ h2, k _ _ h3⟩
theorem zv_pairs {H : Hp} : ∀ {ys : List V} {zs : List Str}, ys.length = zs.length → (∀ (i : Nat) (y : V), ys[i]? = some y → ∃ z, zs[i]? = some z ∧ ZV H y z) →
    ∃ (ps : List Addr) (kvs : List (Key × V)), ys = ps.map V.ref ∧ Paired (fun p (kv : Key × V) => H p = some (.tup [kV kv.1, kv.2])) ps kvs ∧ kvs.map (fun x : Key × V => x.1) = zs.map Sum.inr ∧ FmsAt H kvs (zeroF zs)
  | [], [], _, _ => ⟨[], [], rfl, .nil, rfl, rfl, fun i e he => by simp at he⟩
  | [], _ :: _, h, _ => by simp at h
  | _ :: _, [], h, _ => by simp at h
  | y :: ys, z :: zs, h, k => by
    obtain ⟨z', e, t, f, b, rfl, h1, h2, h3⟩ := k 0 y rfl
    obtain rfl : z = z' := Option.some.inj e
    obtain ⟨ps, kvs, rfl, pr, ek, l, fm⟩ := zv_pairs (ys := ys) (zs := zs) (by simpa using h) fun i v e => k (i + 1) v (by simpa using e)
    refine ⟨t :: ps, (Sum.inr z, .ref f) :: kvs, rfl, .cons h1 pr, by rw [List.map_cons, ek, List.map_cons], by rw [List.length_cons, l]; rfl, fun i e he => ?_⟩
    cases i with
    | zero =>
      obtain rfl := Option.some.inj he
      exact ⟨(z, 0, []), rfl, rfl, f, b, [], rfl, h2, h3, Trs.nil⟩
    | succ i =>
      obtain ⟨x, ex, hx⟩ := fm i e (by simpa using he)
      exact ⟨x, by show (zeroF zs)[i]? = some x; exact ex, hx⟩
theorem r_revl {K : PySem.W.Frag} {te : TE} {σ : L2.St} {H : Hp} {Q : VK} (h : te σ H fun x H1 => ∃ a xs, x = .ref a ∧ SqL K H1 a xs ∧ ∀ p, H1 p = none → Q (.ref p) (upd H1 p (.lst xs.reverse))) : tRevL K te σ H Q := h
theorem gcd_small {q k : Int} (hq : q = 2 ∨ q = 3 ∨ q = 5) (h0 : 0 < k) (h1 : k < q) : Nat.gcd q.toNat k.toNat = 1 := by
  have : k = 1 ∨ k = 2 ∨ k = 3 ∨ k = 4 := by omega
  rcases hq with rfl | rfl | rfl <;> rcases this with rfl | rfl | rfl | rfl <;> first | decide | omega
def sp_law (K : PySem.W.Frag) : Sp := fun vs H Q _ => ∃ (a : Addr) (ns : List Int), vs = [.ref a] ∧ SqL K H a (ns.map .int) ∧ ns.length ≤ 63 ∧ ∀ H', Q (.bl true) H'
section
variable {P : Program} {w : World} {K : PySem.W.Frag} {mg : Str → Option Value} {base : Heap}
set_option maxHeartbeats 0 in
theorem ok_law (T : Tx K mg) {f_law_begun : Addr} {fd_law_begun : FuncData} (C_law_begun : Cal P w K mg base "_law_begun" 1 ["script"] (sp_law_begun K) s_law_begun f_law_begun fd_law_begun) {f_law_rows : Addr} {fd_law_rows : FuncData} (C_law_rows : Cal P w K mg base "_law_rows" 1 ["many", "q"] (sp_law_rows K) s_law_rows f_law_rows fd_law_rows) {f_put_in : Addr} {fd_put_in : FuncData} (C_put_in : Cal P w K mg base "put_in" 2 ["form", "forms", "p"] (sp_put_in K) s_put_in f_put_in fd_put_in) {f_law_draw : Addr} {fd_law_draw : FuncData} (C_law_draw : Cal P w K mg base "_law_draw" 1 ["state", "many"] (sp_law_draw K) s_law_draw f_law_draw fd_law_draw) {f_law_places : Addr} {fd_law_places : FuncData} (C_law_places : Cal P w K mg base "_law_places" 3 ["state", "many"] (sp_law_places K) s_law_places f_law_places fd_law_places) {f_law_form : Addr} {fd_law_form : FuncData} (C_law_form : Cal P w K mg base "_law_form" 2 ["state", "places", "q"] (sp_law_form K) s_law_form f_law_form fd_law_form) {f_new_form : Addr} {fd_new_form : FuncData} (C_new_form : Cal P w K mg base "new_form" 1 ["n", "pairs", "p"] (sp_new_form K) s_new_form f_new_form fd_new_form) {f_inverse : Addr} {fd_inverse : FuncData} (C_inverse : Cal P w K mg base "inverse" 1 ["n", "p"] (sp_inverse K) s_inverse f_inverse fd_inverse) {f_law_held : Addr} {fd_law_held : FuncData} (C_law_held : Cal P w K mg base "_law_held" 3 ["one", "other", "times", "lots", "held", "q"] (sp_law_held K) s_law_held f_law_held fd_law_held) {f_is_form : Addr} {fd_is_form : FuncData} (C_is_form : Cal P w K mg base "is_form" 4 ["thing", "p"] (sp_is_form K) s_is_form f_is_form fd_is_form) {f_times_of : Addr} {fd_times_of : FuncData} (C_times_of : Cal P w K mg base "times_of" 2 ["a", "n", "p"] (sp_times_of K) s_times_of f_times_of fd_times_of) {f_read_form : Addr} {fd_read_form : FuncData} (C_read_form : Cal P w K mg base "read_form" 5 ["text", "p"] (sp_read_form K) s_read_form f_read_form fd_read_form) {f_worth_of : Addr} {fd_worth_of : FuncData} (C_worth_of : Cal P w K mg base "worth_of" 1 ["form", "worths", "p"] (sp_worth_of K) s_worth_of f_worth_of fd_worth_of) {f_places_in : Addr} {fd_places_in : FuncData} (C_places_in : Cal P w K mg base "places_in" 1 ["form"] (sp_places_in K) s_places_in f_places_in fd_places_in) {f_form_text : Addr} {fd_form_text : FuncData} (C_form_text : Cal P w K mg base "form_text" 1 ["form"] (sp_form_text K) s_form_text f_form_text fd_form_text) {f : Addr} {fd : FuncData} (F : Here K mg "law" s_law ["script"] f fd) : Cal P w K mg base "law" 6 ["script"] (sp_law K) s_law f fd := by
  refine F.cal sc_law (fun vs H Q E h => ?_) (fun cdv A outer s H vs Q E hr h => ?_)
  · obtain ⟨a, ns, rfl, _⟩ := h
    rfl
  · obtain ⟨a, ns, rfl, hS, hlen, fin⟩ := h
    refine ⟨_, (pss_cons (ps_set (i := 1) sc_law.nd rfl (by first | exact .inl rfl | exact .inr rfl) (pe_call C_law_begun.ok (hr.mono (by decide)) (by rfl) C_law_begun.at_ C_law_begun.kp C_law_begun.b .nil pass0 (pa_cons (pv 0) pa_nil)))
      (pss_cons (ps_for PassesOwn.never rfl (pi_range1 (by rfl) T.m_range (pa_cons pe_int pa_nil)) (pg_name (i := 2) sc_law.nd rfl (by first | exact .inl rfl | exact .inr rfl)) (pss_cons (ps_set (i := 3) sc_law.nd rfl (by first | exact .inl rfl | exact .inr rfl) (pe_ix (ix_listK (K := K)) (pe_lst (pa_cons pe_int (pa_cons pe_int (pa_cons pe_int pa_nil)))) (pe_call C_law_draw.ok (hr.mono (by decide)) (by rfl) C_law_draw.at_ C_law_draw.kp C_law_draw.b .nil pass0 (pa_cons (pv 1) (pa_cons pe_int pa_nil))) (fun _ _ => rfl)))
      (pss_cons (ps_set (i := 4) sc_law.nd rfl (by first | exact .inl rfl | exact .inr rfl) (pe_callB (cr_sortedSK (K := K)) (by rfl) T.m_sorted (by decide +kernel) (pa_cons (pe_call C_law_places.ok (hr.mono (by decide)) (by rfl) C_law_places.at_ C_law_places.kp C_law_places.b .nil pass0 (pa_cons (pv 1) (pa_cons (pe_call C_law_draw.ok (hr.mono (by decide)) (by rfl) C_law_draw.at_ C_law_draw.kp C_law_draw.b .nil pass0 (pa_cons (pv 1) (pa_cons pe_int pa_nil))) pa_nil))) pa_nil)))
      (pss_cons (ps_par (i := 5) (j := 6) rfl sc_law.nd rfl rfl (by decide) rfl rfl (pa_cons (pe_call C_law_form.ok (hr.mono (by decide)) (by rfl) C_law_form.at_ C_law_form.kp C_law_form.b .nil pass0 (pa_cons (pv 1) (pa_cons (pv 4) (pa_cons (pv 3) pa_nil)))) (pa_cons (pe_call C_law_form.ok (hr.mono (by decide)) (by rfl) C_law_form.at_ C_law_form.kp C_law_form.b .nil pass0 (pa_cons (pv 1) (pa_cons (pv 4) (pa_cons (pv 3) pa_nil)))) pa_nil)) (by rfl))
      (pss_cons (ps_if (pt_cmpR op_eq (pe_call C_law_draw.ok (hr.mono (by decide)) (by rfl) C_law_draw.at_ C_law_draw.kp C_law_draw.b .nil pass0 (pa_cons (pv 1) (pa_cons pe_int pa_nil))) pe_int (nomark _)) (pss_one (ps_set (i := 6) sc_law.nd rfl (by first | exact .inl rfl | exact .inr rfl) (pe_call C_new_form.ok (hr.mono (by decide)) (by rfl) C_new_form.at_ C_new_form.kp C_new_form.b .nil pass0 (pa_cons (pe_op op_add (pe_ix (ix_tupK (K := K)) (pv 5) pe_int (fun _ _ => rfl)) (pe_op op_mul (pv 3) (pe_call C_law_draw.ok (hr.mono (by decide)) (by rfl) C_law_draw.at_ C_law_draw.kp C_law_draw.b .nil pass0 (pa_cons (pv 1) (pa_cons pe_int pa_nil))))) (pa_cons (castRL (K := K) (pe_revL (pe_callTy (cr_listOfK (K := K)) (by rfl) T.m_list (by decide +kernel) (pa_cons (pe_ix (ix_tupK (K := K)) (pv 5) pe_int (fun _ _ => rfl)) pa_nil)))) (pa_cons (pv 3) pa_nil)))))) pss_nil)
      (pss_cons (ps_set (i := 7) sc_law.nd rfl (by first | exact .inl rfl | exact .inr rfl) (pe_callTy (cr_dictP (K := K) rfl) (by rfl) T.m_dict (by decide +kernel) (pa_cons (pe_lc rfl sc_law.nd (pi_listK (K := K) (pv 4)) (blkOk_by (own := [("place", 8)]) (N := ["script", "state", "turn", "q", "places", "one", "other", "lots", "place", "times", "same", "row", "held", "back", "gone"]) (sc := (defScope s_law)) (by decide +kernel)) (fun _ _ _ _ _ => (pg_name (i := 8) sc_law.nd rfl (by first | exact .inl rfl | exact .inr rfl))) (fun _ _ _ _ _ => pts_nil) (fun _ _ _ _ _ => (pe_tup (pa_cons (pv 8) (pa_cons (pe_call C_law_form.ok (hr.mono (by decide)) (by rfl) C_law_form.at_ C_law_form.kp C_law_form.b .nil pass0 (pa_cons (pv 1) (pa_cons (pv 4) (pa_cons (pv 3) pa_nil)))) pa_nil))))) pa_nil)))
      (pss_cons (ps_par (i := 9) (j := 10) rfl sc_law.nd rfl rfl (by decide) rfl rfl (pa_cons (pe_op op_sub (pe_call C_law_draw.ok (hr.mono (by decide)) (by rfl) C_law_draw.at_ C_law_draw.kp C_law_draw.b .nil pass0 (pa_cons (pv 1) (pa_cons pe_int pa_nil))) pe_int) (pa_cons pe_bl pa_nil)) (by rfl))
      (pss_cons (ps_for PassesOwn.never rfl (pi_listK (K := K) (pe_call C_law_rows.ok (hr.mono (by decide)) (by rfl) C_law_rows.at_ C_law_rows.kp C_law_rows.b .nil pass0 (pa_cons (pe_callB (cr_lenK (K := K)) (by rfl) T.m_len (by decide +kernel) (pa_cons (pv 4) pa_nil)) (pa_cons (pv 3) pa_nil)))) (pg_name (i := 11) sc_law.nd rfl (by first | exact .inl rfl | exact .inr rfl)) (pss_cons (ps_set (i := 12) sc_law.nd rfl (by first | exact .inl rfl | exact .inr rfl) (castDZ (K := K) (pe_dictZ rfl (by rfl) T.m_dict (by rfl) T.m_zip (pa_cons (pv 4) (pa_cons (pv 11) pa_nil)))))
      (pss_cons (ps_set (i := 10) sc_law.nd rfl (by first | exact .inl rfl | exact .inr rfl) (pe_and (pv 10) (pe_one (pe_cmpR op_eq (pe_call C_worth_of.ok (hr.mono (by decide)) (by rfl) C_worth_of.at_ C_worth_of.kp C_worth_of.b .nil pass0 (pa_cons (pv 5) (pa_cons (pv 12) (pa_cons (pv 3) pa_nil)))) (pe_call C_worth_of.ok (hr.mono (by decide)) (by rfl) C_worth_of.at_ C_worth_of.kp C_worth_of.b .nil pass0 (pa_cons (pv 6) (pa_cons (pv 12) (pa_cons (pv 3) pa_nil)))) (nomark _)))))
      (pss_one (ps_if (pt_not (pt_val (pe_call C_law_held.ok (hr.mono (by decide)) (by rfl) C_law_held.at_ C_law_held.kp C_law_held.b .nil pass0 (pa_cons (pv 5) (pa_cons (pv 6) (pa_cons (pv 9) (pa_cons (pv 7) (pa_cons (pv 12) (pa_cons (pv 3) pa_nil))))))))) (pss_one (ps_ret pe_bl)) pss_nil)))))
      (pss_cons (ps_if (PW.pt (pw_or (pt_cmpR op_ne (pe_cmpR (op_eqDK (K := K) (hu_of64 hr)) (pv 5) (pv 6) (nomark _)) (pv 10) (nomark _)) (pw_or1 (pt_not (pt_val (pe_call C_is_form.ok (hr.mono (by decide)) (by rfl) C_is_form.at_ C_is_form.kp C_is_form.b .nil pass0 (pa_cons (pe_call C_put_in.ok (hr.mono (by decide)) (by rfl) C_put_in.at_ C_put_in.kp C_put_in.b .nil pass0 (pa_cons (pv 5) (pa_cons (pv 7) (pa_cons (pv 3) pa_nil)))) (pa_cons (pv 3) pa_nil)))))))) (pss_one (ps_ret pe_bl)) pss_nil)
      (pss_cons (ps_set (i := 13) sc_law.nd rfl (by first | exact .inl rfl | exact .inr rfl) (pe_ifExp (pt_cmpR op_gt (pe_op op_mod (pv 9) (pv 3)) pe_int (nomark _)) (pe_call C_inverse.ok (hr.mono (by decide)) (by rfl) C_inverse.at_ C_inverse.kp C_inverse.b .nil pass0 (pa_cons (pe_op op_mod (pv 9) (pv 3)) (pa_cons (pv 3) pa_nil))) pe_int))
      (pss_cons (ps_if (PW.pt (pw_and (pt_cmpR op_gt (pv 13) pe_int (nomark _)) (pw_and1 (pt_cmpR (op_neDK (K := K) (hu_of64 hr)) (pe_call C_times_of.ok (hr.mono (by decide)) (by rfl) C_times_of.at_ C_times_of.kp C_times_of.b .nil pass0 (pa_cons (pe_call C_times_of.ok (hr.mono (by decide)) (by rfl) C_times_of.at_ C_times_of.kp C_times_of.b .nil pass0 (pa_cons (pv 5) (pa_cons (pv 9) (pa_cons (pv 3) pa_nil)))) (pa_cons (pv 13) (pa_cons (pv 3) pa_nil)))) (pv 5) (nomark _))))) (pss_one (ps_ret pe_bl)) pss_nil)
      (pss_cons (ps_set (i := 14) sc_law.nd rfl (by first | exact .inl rfl | exact .inr rfl) (pe_call C_put_in.ok (hr.mono (by decide)) (by rfl) C_put_in.at_ C_put_in.kp C_put_in.b .nil pass0 (pa_cons (pv 5) (pa_cons (pe_callTy (cr_dictP (K := K) rfl) (by rfl) T.m_dict (by decide +kernel) (pa_cons (pe_lc rfl sc_law.nd (pi_listK (K := K) (pv 4)) (blkOk_by (own := [("place", 8)]) (N := ["script", "state", "turn", "q", "places", "one", "other", "lots", "place", "times", "same", "row", "held", "back", "gone"]) (sc := (defScope s_law)) (by decide +kernel)) (fun _ _ _ _ _ => (pg_name (i := 8) sc_law.nd rfl (by first | exact .inl rfl | exact .inr rfl))) (fun _ _ _ _ _ => pts_nil) (fun _ _ _ _ _ => (pe_tup (pa_cons (pv 8) (pa_cons (pe_tup (pa_cons pe_int (pa_cons (pe_tup pa_nil) pa_nil))) pa_nil))))) pa_nil)) (pa_cons (pv 3) pa_nil)))))
      (pss_cons (ps_if (pt_cmpR (op_neDK (K := K) (hu_of64 hr)) (pv 14) (pe_tup (pa_cons (pe_ix (ix_tupK (K := K)) (pv 5) pe_int (fun _ _ => rfl)) (pa_cons (pe_tup pa_nil) pa_nil))) (nomark _)) (pss_one (ps_ret pe_bl)) pss_nil)
      (pss_cons (ps_if (pt_cmpR (op_neNilK (K := K) (hu_of64 hr)) (pe_lc rfl sc_law.nd (pi_tupK (K := K) (pe_call C_places_in.ok (hr.mono (by decide)) (by rfl) C_places_in.at_ C_places_in.kp C_places_in.b .nil pass0 (pa_cons (pv 5) pa_nil))) (blkOk_by (own := [("place", 8)]) (N := ["script", "state", "turn", "q", "places", "one", "other", "lots", "place", "times", "same", "row", "held", "back", "gone"]) (sc := (defScope s_law)) (by decide +kernel)) (fun _ _ _ _ _ => (pg_name (i := 8) sc_law.nd rfl (by first | exact .inl rfl | exact .inr rfl))) (fun _ _ _ _ _ => (pts_one (pt_cmpR (op_ninSeqK (K := K)) (pv 8) (pv 4) (by rfl)))) (fun _ _ _ _ _ => (pv 8))) (pe_lst pa_nil) (nomark _)) (pss_one (ps_ret pe_bl)) pss_nil)
      (pss_one (ps_if (PW.pt (pw_or (pt_cmpR (op_neDK (K := K) (hu_of64 hr)) (pe_call C_read_form.ok (hr.mono (by decide)) (by rfl) C_read_form.at_ C_read_form.kp C_read_form.b .nil pass0 (pa_cons (pe_call C_form_text.ok (hr.mono (by decide)) (by rfl) C_form_text.at_ C_form_text.kp C_form_text.b .nil pass0 (pa_cons (pv 5) pa_nil)) (pa_cons (pv 3) pa_nil))) (pv 5) (nomark _)) (pw_or1 (pt_cmpR op_ne (pe_cmpR op_eq (pe_call C_form_text.ok (hr.mono (by decide)) (by rfl) C_form_text.at_ C_form_text.kp C_form_text.b .nil pass0 (pa_cons (pv 5) pa_nil)) (pe_call C_form_text.ok (hr.mono (by decide)) (by rfl) C_form_text.at_ C_form_text.kp C_form_text.b .nil pass0 (pa_cons (pv 6) pa_nil)) (nomark _)) (pv 10) (nomark _))))) (pss_one (ps_ret pe_bl)) pss_nil))))))))))))))))
      (pss_one (ps_ret pe_bl)))), ?_⟩
    walk_at "st"
    refine ⟨a, ns, rfl, hS, hlen, fun s c H1 s1 st1 => ?_⟩
    walk_at "st"
    refine lp_by (walk_range (lo := 0) (n := Int.toNat 3)) (fun i σ' H' => ∃ x2 x3 x4 x5 x6 x7 x8 x9 x10 x11 x12 x13 x14, σ' = [some (.ref a), some (.ref s), x2, x3, x4, x5, x6, x7, x8, x9, x10, x11, x12, x13, x14] ∧ St s c H') ⟨_, _, _, _, _, _, _, _, _, _, _, _, _, rfl, st1⟩ (fun _ _ _ _ _ => trivial) (fun i x σ' H2 H2' hi p y => ?_) (fun σ' H2 p => ?_)
    · obtain ⟨x2, x3, x4, x5, x6, x7, x8, x9, x10, x11, x12, x13, x14, rfl, st2⟩ := p
      obtain ⟨rfl, rfl⟩ := y
      walk_at "st"
      intro l1 hl1
      have ol1 := st2.out hl1
      walk_at "st"
      refine ⟨s, c, 3, rfl, by walk_at "stt", by omega, fun d3 H3 k3 st3 hd3 => ?_⟩
      obtain ⟨v3, ev3, mv3⟩ := atI_in (xs := [V.int 2, V.int 3, V.int 5]) hd3.1 (by simpa using hd3.2)
      have el1 := k3 _ _ upd_same ol1
      walk_at "st"
      obtain ⟨q, rfl, hq5⟩ : ∃ q, v3 = V.int q ∧ (q = 2 ∨ q = 3 ∨ q = 5) := by
        simp at mv3
        rcases mv3 with h | h | h
        · exact ⟨2, h, by omega⟩
        · exact ⟨3, h, by omega⟩
        · exact ⟨5, h, by omega⟩
      have hq : 2 ≤ q ∧ q ≤ 997 := by omega
      have q0 : 0 < q := by omega
      clear ev3 mv3 el1
      refine ⟨s, c, 4, rfl, st3, by omega, fun d4 H4 k4 st4 hd4 => ?_⟩
      walk_at "st"
      refine ⟨s, c, d4, rfl, st4, by omega, fun l zs0 H5 k5 st5 nl el ln nd0 gz0 => ?_⟩
      walk_at "st"
      refine r_sortS (SqL.of el) (by omega) fun zs p pm so hp => ?_
      have nd : zs.Nodup := pm.symm.nodup nd0
      have lz : zs.length ≤ 3 := by rw [pm.length_eq]; omega
      have gz : ∀ z ∈ zs, goodW (cs z) := fun z m => gz0 z (pm.mem_iff.mp m)
      have op := st5.out hp
      have st6 := st5.new hp (x := .lst (zs.map V.str))
      have ep : upd H5 p (.lst (zs.map V.str)) p = some (.lst (zs.map V.str)) := upd_same
      generalize upd H5 p (.lst (zs.map V.str)) = H6 at *
      clear gz0 nd0 pm el hl1 hp k3 k4 k5 st3 st4 st5
      walk_at "st"
      refine ⟨s, c, p, q, zs, rfl, st6, ep, op, nd, by omega, gz, hq, fun a1 n t1 H7 k7 st7 f1 ok1 sub1 len1 => ?_⟩
      replace ep := k7 _ _ ep op
      walk_at "st"
      refine ⟨s, c, p, q, zs, rfl, st7, ep, op, nd, by omega, gz, hq, fun a2 m t2 H8 k8 st8 f2 ok2 sub2 len2 => ?_⟩
      replace ep := k8 _ _ ep op
      replace f1 := f1.to (Tups.st k8 st7)
      clear k7 k8 st7 st6
      walk_at "st"
      refine r_join (fun σ' H' => ∃ (a2 : Addr) (m : Int) (t2 : List Tr), σ' = [some (.ref a), some (.ref s), some (.int (0 + (i : Int))), some (.int q), some (.ref p), some (.ref a1), some (.ref a2), x7, x8, x9, x10, x11, x12, x13, x14] ∧ St s c H' ∧ H' p = some (.lst (zs.map V.str)) ∧ FrmV H' (.ref a1) n t1 ∧ FrmV H' (.ref a2) m t2 ∧ FormOk q m t2 ∧ (∀ x ∈ t2, x.1 ∈ zs) ∧ t2.length ≤ 3) (fun σ' H' g => ?_) (fun N hN => ?_)
      rotate_left
      · walk_at "if"
        refine ⟨s, c, 3, rfl, st8, by omega, fun d9 H9 k9 st9 hd9 => ?_⟩
        replace ep := k9 _ _ ep op
        have T9 := Tups.st k9 st8
        obtain ⟨_, b1, us1, e1, fa1, fb1, ft1⟩ := id (f1.to T9)
        cases e1
        walk_at "st"
        refine r_iteB (fun h => ?_) (fun h => ?_)
        · walk_at "st"
          refine ⟨s, c, 3, rfl, st9, by omega, fun d10 H10 k10 st10 hd10 => ?_⟩
          have T10 := Tups.st k10 st9
          have fa10 := T10 _ _ fa1
          have fb10 := T10 _ _ fb1
          walk_at "st"
          refine r_revl ?_
          walk_at "st"
          intro l11 hl11
          refine ⟨_, _, rfl, SqL.of upd_same, fun l12 hl12 => ?_⟩
          have S12 : Same H10 (upd (upd H10 l11 (.lst us1)) l12 (.lst us1.reverse)) := (Same.upd_new hl11).trans (Same.upd_new hl12)
          walk_at "st"
          refine ⟨l12, _, q, us1.reverse, t1.reverse, rfl, upd_same, ((ft1.to T10).to (Tups.same S12)).reverse, by rw [List.length_reverse]; omega, hq, fun a3 t3 H13 s13 f3 cn3 => ?_⟩
          walk_at "st"
          have S13 := S12.trans s13
          refine hN _ _ ⟨a3, _, t3, rfl, st10.same S13, S13 _ _ (k10 _ _ ep op), (f1.to T9).to (T10.trans (Tups.same S13)), f3, cn3.form q0 (fun x mx => ok1.good x (by simpa using mx)), fun x mx => ?_, ?_⟩
          · obtain ⟨y, hy, ey⟩ := List.mem_map.mp (cn3.sub x mx)
            rw [← ey]; exact sub1 y (by simpa using hy)
          · have := cn3.len
            rw [List.length_reverse] at this
            omega
        · walk_at "st"
          exact hN _ _ ⟨a2, m, t2, rfl, st9, ep, f1.to T9, f2.to T9, ok2, sub2, Nat.le_trans len2 lz⟩
      clear f2 ok2 sub2 len2 f1 ep st8
      obtain ⟨a2, m, t2, rfl, st8, ep, f1, f2, ok2, sub2, len2⟩ := g
      replace len1 := Nat.le_trans len1 lz
      walk_at "st"
      intro D hD
      have oD := st8.out hD
      have npD : p ≠ D := ne_of_none ep hD
      refine lc_by (walk_list (a := p) (xs := zs.map V.str)) (fun j HB => ∃ kvs F, PrsI s c p D zs H' j HB kvs ∧ FmsAt HB kvs F ∧ F.map (fun x : Fm => x.1) = zs.take j ∧ ∀ x ∈ F, FormOk q x.2.1 x.2.2 ∧ x.2.2.length ≤ 3)
        ⟨[], [], PrsI.start st8 ep hD, ⟨rfl, fun i e he => by simp at he⟩, rfl, fun x m => by cases m⟩ (fun i H' _ g => by obtain ⟨_, _, g, _⟩ := g; exact SqL.of g.2.2.1) (fun j x HB HC hj g y => ?_) (fun HB g => ?_)
      · obtain ⟨kvs, F, I, hF, kF, okF⟩ := g
        obtain ⟨rfl, ex⟩ := y
        obtain ⟨z, ez, rfl⟩ := getElem?_map_str ex
        have li : j < 60 := by rw [List.length_map] at hj; omega
        have stI := I.2.1
        refine ⟨rfl, ?_⟩
        walk_at "st"
        refine ⟨s, c, p, q, zs, rfl, stI, I.2.2.1, op, nd, by omega, gz, hq, fun a3 n3 t3 H14 k14 st14 f3 ok3 sub3 len3 => ?_⟩
        walk_at "st"
        intro t ht
        have kk := k14.trans (Kp.new ht (x := .tup [.str z, .ref a3]))
        obtain ⟨acc, h1, h2, h3⟩ := I.keep kk (st14.new ht) op oD hD npD ez li (upd_same (H := H14) (a := t))
        refine ⟨acc, h1, h2, _, _, h3, ((hF.to (Tups.st kk stI)).snoc (f3.to (Tups.same (Same.upd_new ht)))).to (Tups.lst h1), ?_, fun x m => ?_⟩
        · rw [List.map_append, kF, List.take_succ, ez]; rfl
        · rcases List.mem_append.mp m with m | m
          · exact okF x m
          · rw [List.mem_singleton.mp m]; exact ⟨ok3, Nat.le_trans len3 lz⟩
      obtain ⟨kvs, F, I, hF, kF, okF⟩ := g
      rw [List.length_map, List.take_length] at kF
      obtain ⟨kB, stB, epB, ⟨ps, eps, prs⟩, _⟩ := I
      have TB := Tups.st kB st8
      replace f1 := f1.to TB
      replace f2 := f2.to TB
      have lF : F.length ≤ 3 := by
        have := congrArg List.length kF
        rw [List.length_map] at this
        omega
      have ndF : (F.map fun x : Fm => x.1).Nodup := by rw [kF]; exact nd
      have ndk := fms_nodup hF.1 hF.2 ndF
      clear st8 ep kB TB oD npD hD
      walk_at "st"
      refine ⟨D, ps, kvs, rfl, SqL.of eps, prd_imp (fun _ _ e => SqT.of e) prs, fun dl hdl => ?_⟩
      rw [merge_nodup kvs [] ndk, List.nil_append]
      have S12 : Same HB (upd HB dl (.dK kvs)) := Same.upd_new hdl
      have edl : upd HB dl (.dK kvs) dl = some (.dK kvs) := upd_same
      have st12 := stB.same S12
      have ep12 := S12 _ _ epB
      replace f1 := f1.to (Tups.same S12)
      replace f2 := f2.to (Tups.same S12)
      replace hF := hF.to (Tups.same S12)
      clear prs eps stB epB
      generalize upd HB dl (.dK kvs) = H12 at *
      walk_at "st"
      refine ⟨s, c, 9, rfl, st12, by omega, fun d13 H13 k13 st13 hd13 => ?_⟩
      have odl : dl ∉ [s, c] := by
        obtain ⟨_, cs, j, r, sa⟩ := st12
        intro z
        rcases List.mem_cons.mp z with e | z
        · rw [e, sa.hs] at edl; cases edl
        · rw [List.mem_singleton.mp z, sa.hc] at edl; cases edl
      have edl13 := k13 _ _ edl odl
      have ep13 := k13 _ _ ep12 op
      have T13 := Tups.st k13 st12
      replace f1 := f1.to T13
      replace f2 := f2.to T13
      replace hF := hF.to T13
      clear st12 ep12 edl S12 T13 k13
      walk_at "st"
      refine ⟨(zs.map V.str).length, q.toNat, by rw [show ((q.toNat : Nat) : Int) = q by omega]; rfl, by rw [List.length_map]; exact lz, by omega, fun lr us H14 s14 nlr elr hus => ?_⟩
      rw [List.length_map] at hus
      replace f1 := f1.to (Tups.same s14)
      replace f2 := f2.to (Tups.same s14)
      replace hF := hF.to (Tups.same s14)
      have edl := s14 _ _ edl13
      have ep := s14 _ _ ep13
      have st14 := st13.same s14
      have keyF1 : ∀ x ∈ t1, x.1 ∈ F.map fun x : Fm => x.1 := fun x m => by rw [kF]; exact sub1 x m
      have okFF := fun x m => (okF x m).1
      have lenFF := fun x m => (okF x m).2
      clear edl13 ep13 st13 s14 nlr
      walk_at "st"
      generalize hk : d13 - 4 = k
      have hk2 : -10 ≤ k ∧ k ≤ 10 := by omega
      refine lp_by (walk_list (a := lr) (xs := us)) (fun j σ' H' => ∃ x11 x12, σ' = [some (.ref a), some (.ref s), some (.int (0 + (i : Int))), some (.int q), some (.ref p), some (.ref a1), some (.ref a2), some (.ref dl), x8, some (.int k), some (.bl (((allR q.toNat zs.length).take j).all (eqOn q zs n m t1 t2))), x11, x12, x13, x14] ∧ Same H14 H')
        ⟨x11, x12, rfl, Same.refl _⟩ (fun _ _ H' _ g => by obtain ⟨_, _, _, sm⟩ := g; exact SqL.of (sm _ _ elr)) (fun j x σ' HB HC hj g y => ?_) (fun σ' HB g => ?_)
      · obtain ⟨x11, x12, rfl, sm⟩ := g
        obtain ⟨rfl, ex⟩ := y
        obtain ⟨r, er, t, rfl, ht⟩ := hus.2 j x ex
        have ok_r := allR_ok (List.mem_of_getElem? er)
        have lr : zs.length = r.length := ok_r.1.symm
        have htB := sm _ _ ht
        have epB := sm _ _ ep
        walk_at "st"
        refine r_dz ?_
        walk_at "st"
        refine ⟨p, t, zs.map Sum.inr, r.map V.int, rfl, ?_, SqT.of htB, by rw [List.length_map, List.length_map]; exact lr, by rw [List.length_map]; omega, fun dh hdh => ?_⟩
        · have e : (zs.map (Sum.inr : Str → Key)).map kV = zs.map V.str := by rw [List.map_map]; rfl
          rw [e]; exact SqL.of epB
        rw [zip_enc nd lr]
        have S15 := sm.trans (Same.upd_new hdh (x := .dK (encT (zs.zip r))))
        have edh : upd HC dh (.dK (encT (zs.zip r))) dh = some (.dK (encT (zs.zip r))) := upd_same
        have ndh : dh ≠ dl := (ne_of_none (sm _ _ edl) hdh).symm
        generalize upd HC dh (.dK (encT (zs.zip r))) = H15 at *
        walk_at "st1"
        walk_at "st1"
        walk_at "st1"
        refine r_joinE (fun v H' => v = .bl (((allR q.toNat zs.length).take (j + 1)).all (eqOn q zs n m t1 t2)) ∧ Same H15 H') (fun v H' g => ?_) (fun Q' hQ => ?_)
        · obtain ⟨rfl, s16⟩ := g
          have S16 := S15.trans s16
          walk_at "st"
          walk_at "if"
          refine ⟨a1, a2, dl, dh, n, m, k, q, t1, t2, zs.zip r, F, rfl, f1.to (Tups.same S16), f2.to (Tups.same S16), ⟨kvs, S16 _ _ edl, (hF.to (Tups.same S16)).1, (hF.to (Tups.same S16)).2⟩, s16 _ _ edh, ndh, hq, hk2, ok1, ok2, len1, len2, okFF, lenFF, lF, ndF, keyF1, fun H17 s17 => ?_⟩
          walk_at "st"
          exact ⟨_, _, rfl, S16.trans s17⟩
        · have tk : ((allR q.toNat zs.length).take (j + 1)).all (eqOn q zs n m t1 t2) = (((allR q.toNat zs.length).take j).all (eqOn q zs n m t1 t2) && eqOn q zs n m t1 t2 r) := by
            rw [List.take_succ, er, List.all_append]
            simp
          rw [tk] at hQ
          walk_at "st"
          generalize ((allR q.toNat zs.length).take j).all (eqOn q zs n m t1 t2) = bb at *
          cases bb with
          | false =>
            walk_at "st"
            exact hQ _ _ ⟨by simp, Same.refl _⟩
          | true =>
            walk_at "st"
            refine ⟨a1, dh, n, q, t1, zs.zip r, rfl, f1.to (Tups.same S15), edh, by omega, hq, ok1.small hq.2, fun H16 s16 => ?_⟩
            walk_at "st"
            refine ⟨a2, dh, m, q, t2, zs.zip r, rfl, f2.to (Tups.same (S15.trans s16)), s16 _ _ edh, by omega, hq, ok2.small hq.2, fun H17 s17 => ?_⟩
            walk_at "st"
            refine hQ _ _ ⟨?_, s16.trans s17⟩
            unfold eqOn sumW
            rw [Bool.true_and]
            congr 1
            exact decide_eq_decide.mpr ⟨fun h => by injection h, fun h => by rw [h]⟩
      obtain ⟨x11, x12, rfl, sm⟩ := g
      have eb : ((allR q.toNat zs.length).take us.length).all (eqOn q zs n m t1 t2) = decide (n = m ∧ t1 = t2) := by
        rw [List.take_of_length_le (by rw [hus.1]; exact Nat.le_refl _)]
        exact eq_all hq.1 nd rfl ok1 ok2 sub1 sub2
      rw [eb]
      replace f1 := f1.to (Tups.same sm)
      replace f2 := f2.to (Tups.same sm)
      replace hF := hF.to (Tups.same sm)
      replace edl := sm _ _ edl
      replace ep := sm _ _ ep
      have stB := st14.same sm
      have N1 := frm_nice ok1 hq.2 (by omega)
      have N2 := frm_nice ok2 hq.2 (by omega)
      have b1 := ok1.small hq.2
      have lP := putP_lenF (b := 3) lenFF keyF1
      clear elr hus eb sm st14
      walk_at "st"
      walk_at "if"
      refine r_eqF f1 f2 N1 N2 ?_
      walk_at "st"
      refine r_iteB (fun h => by simp at h) (fun _ => ?_)
      walk_at "st"
      refine ⟨a1, dl, n, q, t1, F, rfl, f1, ⟨kvs, edl, hF.1, hF.2⟩, by omega, by omega, hq, b1, fun c15 r15 H15 s15 f15 cn15 => ?_⟩
      have F15 := cn15.form (n := n + putN F t1) q0 (putP_goodF okFF keyF1)
      have l15 := cn15.len
      walk_at "st"
      refine ⟨[], .ref c15, _, q, rfl, f15.repD, small_data F15.good (by omega), fun H16 s16 => ?_⟩
      rw [data_ok F15]
      have S16 := s15.trans s16
      replace f1 := f1.to (Tups.same S16)
      replace f2 := f2.to (Tups.same S16)
      replace ep := S16 _ _ ep
      replace stB := stB.same S16
      clear f15 cn15 F15 l15 s15 s16 S16 hF edl
      refine ⟨true, rfl, ?_⟩
      walk_at "st1"
      walk_at "st1"
      walk_at "st1"
      walk_at "st1"
      have km0 := Int.emod_nonneg k (show q ≠ 0 by omega)
      have km1 := Int.emod_lt_of_pos k q0
      refine r_joinE (fun v H' => ∃ b : Int, v = .int b ∧ Same H16 H' ∧ 0 ≤ b ∧ b < q ∧ (0 < b → b * (k % q) % q = 1)) (fun v H' g => ?_) (fun Q' hQ => ?_)
      rotate_left
      · walk_at "st"
        refine r_ite (fun h => ?_) (fun h => ?_)
        · walk_at "st"
          refine ⟨k % q, q, rfl, by omega, gcd_small hq5 h km1, fun b H' s1 hb e => ?_⟩
          exact hQ _ _ ⟨b, rfl, s1, by omega, by omega, fun _ => e⟩
        · walk_at "st"
          exact hQ _ _ ⟨0, rfl, Same.refl _, by omega, by omega, fun h => absurd h (by omega)⟩
      obtain ⟨b, rfl, s17, hb0, hb1, hb2⟩ := g
      replace f1 := f1.to (Tups.same s17)
      replace f2 := f2.to (Tups.same s17)
      replace ep := s17 _ _ ep
      replace stB := stB.same s17
      clear s17
      walk_at "st"
      refine r_join (fun σ' HD => σ' = [some (.ref a), some (.ref s), some (.int (0 + (i : Int))), some (.int q), some (.ref p), some (.ref a1), some (.ref a2), some (.ref dl), x8, some (.int k), some (.bl (decide (n = m ∧ t1 = t2))), x11, x12, some (.int b), x14] ∧ Same H' HD) (fun σ' HD g => ?_) (fun N hN => ?_)
      rotate_left
      · walk_at "if"
        refine r_ite (fun h => ?_) (fun h => ?_)
        · walk_at "st"
          refine ⟨a1, n, k, q, t1, rfl, f1, by omega, hq, by omega, fun c18 r18 H18 s18 f18 cn18 => ?_⟩
          have l18 := cn18.len
          rw [mulT_len] at l18
          walk_at "st"
          refine ⟨c18, _, b, q, r18, rfl, f18, by omega, hq, by omega, fun c19 r19 H19 s19 f19 cn19 => ?_⟩
          obtain ⟨e1, e2⟩ := back_id hq.1 ok1 cn18 cn19 (hb2 h)
          subst e2
          rw [e1] at f19
          walk_at "st"
          refine r_neF f19 (f1.to (Tups.same (s18.trans s19))) N1 N1 ?_
          walk_at "st"
          refine r_iteB (fun h => by simp at h) (fun _ => ?_)
          walk_at "st"
          exact hN _ _ ⟨rfl, s18.trans s19⟩
        · walk_at "st"
          exact hN _ _ ⟨rfl, Same.refl _⟩
      obtain ⟨rfl, s20⟩ := g
      replace f1 := f1.to (Tups.same s20)
      replace f2 := f2.to (Tups.same s20)
      replace ep := s20 _ _ ep
      replace stB := stB.same s20
      clear s20
      walk_at "st"
      intro D2 hD2
      refine lc_map (walk_list (a := p) (xs := zs.map V.str)) (by rw [List.length_map]; omega) hD2 (fun j y HB => ∃ z, zs[j]? = some z ∧ ZV HB y z) (fun _ _ _ _ h k => h.imp fun _ z => ⟨z.1, z.2.to (Tups.same k)⟩) (fun i v H' acc acc' h eD => h.imp fun _ z => ⟨z.1, z.2.to (Tups.lst eD)⟩) (fun H' k => SqL.of (k _ _ ep)) (fun i H1 x H2 y => by rw [y.1]; exact Same.refl _)
        (fun j x HB HC Y No hj sm y hY => ?_) (fun ys HB ely sm eD2 hys => ?_)
      · obtain ⟨rfl, ex⟩ := y
        obtain ⟨z, ez, rfl⟩ := getElem?_map_str ex
        refine ⟨rfl, ?_⟩
        walk_at "st"
        intro b1 hb1
        walk_at "st"
        intro b2 hb2
        walk_at "st"
        intro b3 hb3
        exact hY _ _ (by walk_at "sm") ⟨z, ez, b3, b2, b1, rfl, upd_same, hl_new upd_same hb3, hl_new (hl_new upd_same hb2) hb3⟩
      obtain ⟨ps2, kvs2, rfl, prs2, ek2, fm2⟩ := zv_pairs (by rw [ely, List.length_map]) hys
      have ndk2 : (kvs2.map fun x : Key × V => x.1).Nodup := by
        rw [ek2]
        exact List.pairwise_map.mpr (nd.imp fun n e => n (Sum.inr.inj e))
      walk_at "st"
      refine ⟨D2, ps2, kvs2, rfl, SqL.of eD2, prd_imp (fun _ _ e => SqT.of e) prs2, fun dz hdz => ?_⟩
      rw [merge_nodup kvs2 [] ndk2, List.nil_append]
      have S21 := sm.trans (Same.upd_new hdz (x := .dK kvs2))
      have edz : upd HB dz (.dK kvs2) dz = some (.dK kvs2) := upd_same
      replace fm2 := fm2.to (Tups.same (Same.upd_new hdz (x := .dK kvs2)))
      replace f1 := f1.to (Tups.same S21)
      replace f2 := f2.to (Tups.same S21)
      replace ep := S21 _ _ ep
      replace stB := stB.same S21
      clear prs2 eD2 hys sm S21
      generalize upd HB dz (.dK kvs2) = H21 at *
      obtain ⟨z1, z2⟩ := zero_put sub1
      walk_at "st"
      refine ⟨a1, dz, n, q, t1, zeroF zs, rfl, f1, ⟨kvs2, edz, fm2.1, fm2.2⟩, by omega, by rw [z2]; decide, hq, b1, fun c22 r22 H22 s22 f22 cn22 => ?_⟩
      rw [z1, Int.add_zero, Int.emod_eq_of_lt ok1.num.1 ok1.num.2] at f22
      have e22 : r22 = [] := by
        have := cn22.len
        rw [z2] at this
        exact List.length_eq_zero_iff.mp (Nat.le_zero.mp this)
      subst e22
      replace f1 := f1.to (Tups.same s22)
      replace f2 := f2.to (Tups.same s22)
      replace ep := s22 _ _ ep
      replace stB := stB.same s22
      obtain ⟨_, bb1, us1, e1, fa1, fb1, ft1⟩ := id f1
      cases e1
      walk_at "st"
      walk_at "if"
      intro b4 hb4
      walk_at "st"
      intro b5 hb5
      have S23 : Same H22 (upd (upd H22 b4 (.tup [])) b5 (.tup [.int n, .ref b4])) := (Same.upd_new hb4).trans (Same.upd_new hb5)
      have okn : FormOk q n [] := ⟨ok1.num, ⟨List.Pairwise.nil, fun x m => by cases m⟩⟩
      have Nn := frm_nice okn hq.2 (by decide)
      refine r_neF (f22.to (Tups.same S23)) ⟨b5, b4, [], rfl, upd_same, hl_new upd_same hb5, Trs.nil⟩ Nn Nn ?_
      walk_at "st"
      refine r_iteB (fun h => by simp at h) (fun _ => ?_)
      replace f1 := f1.to (Tups.same S23)
      replace f2 := f2.to (Tups.same S23)
      replace ep := S23 _ _ ep
      replace stB := stB.same S23
      clear f22 s22 edz fm2 fa1 fb1 ft1 S23 Nn
      generalize upd (upd H22 b4 (.tup [])) b5 (.tup [.int n, .ref b4]) = H23 at *
      walk_at "st"
      walk_at "if"
      refine ⟨a1, n, t1, rfl, f1, by omega, fun b24 H24 s24 e24 => ?_⟩
      replace f1 := f1.to (Tups.same s24)
      replace f2 := f2.to (Tups.same s24)
      replace ep := s24 _ _ ep
      replace stB := stB.same s24
      walk_at "st"
      intro D3 hD3
      refine lc_filt (walk_tup (a := b24) (xs := (t1.map fun x : Tr => x.1).map V.str)) (by rw [List.length_map, List.length_map]; omega) hD3 (fun _ => false) (fun H' k => SqT.of (k _ _ e24)) (fun i H1 x H2 y => by rw [y.1]; exact Same.refl _)
        (fun j x HB HC Y No hj sm y _ hNo => ?_) (fun ys HB ey ly sm eD3 => ?_)
      · obtain ⟨rfl, ex⟩ := y
        obtain ⟨z, ez, rfl⟩ := getElem?_map_str ex
        have mz : z ∈ zs := by
          obtain ⟨x, hx, e⟩ := List.mem_map.mp (List.mem_of_getElem? ez)
          rw [← e]; exact sub1 x hx
        refine ⟨rfl, ?_⟩
        walk_at "st"
        refine r_ninSeq (SqL.of (sm _ _ ep)) ?_
        rw [decide_eq_true mz]
        walk_at "st"
        exact hNo rfl _ (Same.refl _)
      have ey2 : ys.isEmpty = true := by rw [ey]; simp
      have S25 := sm
      replace f1 := f1.to (Tups.same sm)
      replace f2 := f2.to (Tups.same sm)
      replace stB := stB.same sm
      walk_at "st"
      intro l25 hl25
      have eD4 := hl_new (u := .lst []) eD3 hl25
      replace f1 := f1.to (Tups.same (Same.upd_new hl25 (x := .lst [])))
      replace f2 := f2.to (Tups.same (Same.upd_new hl25 (x := .lst [])))
      replace stB := stB.same (Same.upd_new hl25 (x := .lst []))
      walk_at "st"
      rw [ey2]
      walk_at "st"
      walk_at "if"
      have tb : ∀ (n : Int) (ts : List Tr), FormOk q n ts → ∀ x ∈ ts, (cs x.1).length ≤ 100 ∧ 0 ≤ x.2 ∧ x.2 ≤ 1000 := fun n ts ok x mx => by
        have g := ok.ok.ok x mx
        have := g.1.2.1
        exact ⟨by omega, by omega, by omega⟩
      have nb1 := ok1.num
      have nb2 := ok2.num
      refine ⟨a1, n, t1, rfl, f1, by omega, tb n t1 ok1, by omega, fun H26 s26 => ?_⟩
      walk_at "st"
      refine ⟨textC n t1, q, rfl, text_small ok1 hq.2 len1, hq, fun v n' ts' H27 s27 ok' e' f' => ?_, fun h => absurd rfl (h n t1 ok1)⟩
      obtain ⟨rfl, rfl⟩ := text_inj ok' ok1 (by omega) e'
      have S27 := s26.trans s27
      walk_at "st"
      refine r_neF f' (f1.to (Tups.same S27)) N1 N1 ?_
      walk_at "st"
      refine r_iteB (fun h => by simp at h) (fun _ => ?_)
      walk_at "st"
      refine ⟨a1, n', ts', rfl, f1.to (Tups.same S27), by omega, tb n' ts' ok1, by omega, fun H28 s28 => ?_⟩
      walk_at "st"
      refine ⟨a2, m, t2, rfl, f2.to (Tups.same (S27.trans s28)), by omega, tb m t2 ok2, by omega, fun H29 s29 => ?_⟩
      walk_at "st"
      have e29 : decide (V.str (Sx (textC n' ts')) = V.str (Sx (textC m t2))) = decide (n' = m ∧ ts' = t2) := by
        refine decide_eq_decide.mpr ⟨fun z => ?_, fun z => by rw [z.1, z.2]⟩
        injection z with z
        exact text_inj ok1 ok2 (by omega) (SX.S_inj z)
      rw [e29]
      refine r_iteB (fun h => by simp at h) (fun _ => ?_)
      walk_at "st"
      exact ⟨_, _, _, _, _, _, _, _, _, _, _, _, _, rfl, stB.same ((S27.trans s28).trans s29)⟩
    · obtain ⟨x2, x3, x4, x5, x6, x7, x8, x9, x10, x11, x12, x13, x14, rfl, st2⟩ := p
      walk_at "st"
      exact fin _
end
/-! ### what the top has written; the law -/
theorem all_mk {l : PySem.W.OpenLaw} {w : World} {K : PySem.W.Frag} {h : Heap} {mg : Str → Option Value} {fa : Addr} (X : K.In h) (G : h.Ns mainGlobals mg) (hfa : mg "law" = some (.ref fa))
    {od1 an1 : Option Addr} {sl1 : Array (Option Value)} {oc1 kV1 dc1 pm1 cd1 ct1 : Value} {f1 : Addr}
    {od2 an2 : Option Addr} {sl2 : Array (Option Value)} {oc2 kV2 dc2 pm2 cd2 ct2 : Value} {f2 : Addr}
    {od3 an3 : Option Addr} {sl3 : Array (Option Value)} {oc3 kV3 dc3 pm3 cd3 ct3 : Value} {f3 : Addr}
    {od4 an4 : Option Addr} {sl4 : Array (Option Value)} {oc4 kV4 dc4 pm4 cd4 ct4 : Value} {f4 : Addr}
    {od5 an5 : Option Addr} {sl5 : Array (Option Value)} {oc5 kV5 dc5 pm5 cd5 ct5 : Value} {f5 : Addr}
    {od6 an6 : Option Addr} {sl6 : Array (Option Value)} {oc6 kV6 dc6 pm6 cd6 ct6 : Value} {f6 : Addr}
    {od7 an7 : Option Addr} {sl7 : Array (Option Value)} {oc7 kV7 dc7 pm7 cd7 ct7 : Value} {f7 : Addr}
    {od8 an8 : Option Addr} {sl8 : Array (Option Value)} {oc8 kV8 dc8 pm8 cd8 ct8 : Value} {f8 : Addr}
    {od9 an9 : Option Addr} {sl9 : Array (Option Value)} {oc9 kV9 dc9 pm9 cd9 ct9 : Value} {f9 : Addr}
    {od10 an10 : Option Addr} {sl10 : Array (Option Value)} {oc10 kV10 dc10 pm10 cd10 ct10 : Value} {f10 : Addr}
    {od11 an11 : Option Addr} {sl11 : Array (Option Value)} {oc11 kV11 dc11 pm11 cd11 ct11 : Value} {f11 : Addr}
    {od12 an12 : Option Addr} {sl12 : Array (Option Value)} {oc12 kV12 dc12 pm12 cd12 ct12 : Value} {f12 : Addr}
    {od13 an13 : Option Addr} {sl13 : Array (Option Value)} {oc13 kV13 dc13 pm13 cd13 ct13 : Value} {f13 : Addr}
    {od14 an14 : Option Addr} {sl14 : Array (Option Value)} {oc14 kV14 dc14 pm14 cd14 ct14 : Value} {f14 : Addr}
    {od15 an15 : Option Addr} {sl15 : Array (Option Value)} {oc15 kV15 dc15 pm15 cd15 ct15 : Value} {f15 : Addr}
    {od16 an16 : Option Addr} {sl16 : Array (Option Value)} {oc16 kV16 dc16 pm16 cd16 ct16 : Value} {f16 : Addr}
    {od17 an17 : Option Addr} {sl17 : Array (Option Value)} {oc17 kV17 dc17 pm17 cd17 ct17 : Value} {f17 : Addr}
    {od18 an18 : Option Addr} {sl18 : Array (Option Value)} {oc18 kV18 dc18 pm18 cd18 ct18 : Value} {f18 : Addr}
    {od19 an19 : Option Addr} {sl19 : Array (Option Value)} {oc19 kV19 dc19 pm19 cd19 ct19 : Value} {f19 : Addr}
    {od20 an20 : Option Addr} {sl20 : Array (Option Value)} {oc20 kV20 dc20 pm20 cd20 ct20 : Value} {f20 : Addr}
    {od21 an21 : Option Addr} {sl21 : Array (Option Value)} {oc21 kV21 dc21 pm21 cd21 ct21 : Value} {f21 : Addr}
    {od22 an22 : Option Addr} {sl22 : Array (Option Value)} {oc22 kV22 dc22 pm22 cd22 ct22 : Value} {f22 : Addr}
    {od23 an23 : Option Addr} {sl23 : Array (Option Value)} {oc23 kV23 dc23 pm23 cd23 ct23 : Value} {f23 : Addr}
    {od24 an24 : Option Addr} {sl24 : Array (Option Value)} {oc24 kV24 dc24 pm24 cd24 ct24 : Value} {f24 : Addr}
    {od25 an25 : Option Addr} {sl25 : Array (Option Value)} {oc25 kV25 dc25 pm25 cd25 ct25 : Value} {f25 : Addr}
    {od26 an26 : Option Addr} {sl26 : Array (Option Value)} {oc26 kV26 dc26 pm26 cd26 ct26 : Value} {f26 : Addr}
    {od27 an27 : Option Addr} {sl27 : Array (Option Value)} {oc27 kV27 dc27 pm27 cd27 ct27 : Value} {f27 : Addr}
    {od28 an28 : Option Addr} {sl28 : Array (Option Value)} {oc28 kV28 dc28 pm28 cd28 ct28 : Value} {f28 : Addr}
    (a1 : PySem.W.nsIn K mainGlobals "is_whole" = some (some (.ref f1))) (l1 : K.lookup f1 = some ⟨oc1, od1, .func (PySem.W.fnOf "is_whole" "is_whole" (defArgs s_is_whole) (defBody s_is_whole) (defScope s_is_whole) .none kV1 dc1 pm1 an1 cd1 ct1), sl1⟩) (c1 : PySem.W.codeIn K cd1 "is_whole" = true) (k1 : PySem.W.keepIn K (.ref f1) = true)
    (a2 : PySem.W.nsIn K mainGlobals "is_number" = some (some (.ref f2))) (l2 : K.lookup f2 = some ⟨oc2, od2, .func (PySem.W.fnOf "is_number" "is_number" (defArgs s_is_number) (defBody s_is_number) (defScope s_is_number) .none kV2 dc2 pm2 an2 cd2 ct2), sl2⟩) (c2 : PySem.W.codeIn K cd2 "is_number" = true) (k2 : PySem.W.keepIn K (.ref f2) = true)
    (a3 : PySem.W.nsIn K mainGlobals "is_place" = some (some (.ref f3))) (l3 : K.lookup f3 = some ⟨oc3, od3, .func (PySem.W.fnOf "is_place" "is_place" (defArgs s_is_place) (defBody s_is_place) (defScope s_is_place) .none kV3 dc3 pm3 an3 cd3 ct3), sl3⟩) (c3 : PySem.W.codeIn K cd3 "is_place" = true) (k3 : PySem.W.keepIn K (.ref f3) = true)
    (a4 : PySem.W.nsIn K mainGlobals "has_only" = some (some (.ref f4))) (l4 : K.lookup f4 = some ⟨oc4, od4, .func (PySem.W.fnOf "has_only" "has_only" (defArgs s_has_only) (defBody s_has_only) (defScope s_has_only) .none kV4 dc4 pm4 an4 cd4 ct4), sl4⟩) (c4 : PySem.W.codeIn K cd4 "has_only" = true) (k4 : PySem.W.keepIn K (.ref f4) = true)
    (a5 : PySem.W.nsIn K mainGlobals "inverse" = some (some (.ref f5))) (l5 : K.lookup f5 = some ⟨oc5, od5, .func (PySem.W.fnOf "inverse" "inverse" (defArgs s_inverse) (defBody s_inverse) (defScope s_inverse) .none kV5 dc5 pm5 an5 cd5 ct5), sl5⟩) (c5 : PySem.W.codeIn K cd5 "inverse" = true) (k5 : PySem.W.keepIn K (.ref f5) = true)
    (a6 : PySem.W.nsIn K mainGlobals "read_figures" = some (some (.ref f6))) (l6 : K.lookup f6 = some ⟨oc6, od6, .func (PySem.W.fnOf "read_figures" "read_figures" (defArgs s_read_figures) (defBody s_read_figures) (defScope s_read_figures) .none kV6 dc6 pm6 an6 cd6 ct6), sl6⟩) (c6 : PySem.W.codeIn K cd6 "read_figures" = true) (k6 : PySem.W.keepIn K (.ref f6) = true)
    (a7 : PySem.W.nsIn K mainGlobals "is_tuple" = some (some (.ref f7))) (l7 : K.lookup f7 = some ⟨oc7, od7, .func (PySem.W.fnOf "is_tuple" "is_tuple" (defArgs s_is_tuple) (defBody s_is_tuple) (defScope s_is_tuple) .none kV7 dc7 pm7 an7 cd7 ct7), sl7⟩) (c7 : PySem.W.codeIn K cd7 "is_tuple" = true) (k7 : PySem.W.keepIn K (.ref f7) = true)
    (a8 : PySem.W.nsIn K mainGlobals "do_rise" = some (some (.ref f8))) (l8 : K.lookup f8 = some ⟨oc8, od8, .func (PySem.W.fnOf "do_rise" "do_rise" (defArgs s_do_rise) (defBody s_do_rise) (defScope s_do_rise) .none kV8 dc8 pm8 an8 cd8 ct8), sl8⟩) (c8 : PySem.W.codeIn K cd8 "do_rise" = true) (k8 : PySem.W.keepIn K (.ref f8) = true)
    (a9 : PySem.W.nsIn K mainGlobals "is_form" = some (some (.ref f9))) (l9 : K.lookup f9 = some ⟨oc9, od9, .func (PySem.W.fnOf "is_form" "is_form" (defArgs s_is_form) (defBody s_is_form) (defScope s_is_form) .none kV9 dc9 pm9 an9 cd9 ct9), sl9⟩) (c9 : PySem.W.codeIn K cd9 "is_form" = true) (k9 : PySem.W.keepIn K (.ref f9) = true)
    (a10 : PySem.W.nsIn K mainGlobals "is_term" = some (some (.ref f10))) (l10 : K.lookup f10 = some ⟨oc10, od10, .func (PySem.W.fnOf "is_term" "is_term" (defArgs s_is_term) (defBody s_is_term) (defScope s_is_term) .none kV10 dc10 pm10 an10 cd10 ct10), sl10⟩) (c10 : PySem.W.codeIn K cd10 "is_term" = true) (k10 : PySem.W.keepIn K (.ref f10) = true)
    (a11 : PySem.W.nsIn K mainGlobals "new_form" = some (some (.ref f11))) (l11 : K.lookup f11 = some ⟨oc11, od11, .func (PySem.W.fnOf "new_form" "new_form" (defArgs s_new_form) (defBody s_new_form) (defScope s_new_form) .none kV11 dc11 pm11 an11 cd11 ct11), sl11⟩) (c11 : PySem.W.codeIn K cd11 "new_form" = true) (k11 : PySem.W.keepIn K (.ref f11) = true)
    (a12 : PySem.W.nsIn K mainGlobals "place_form" = some (some (.ref f12))) (l12 : K.lookup f12 = some ⟨oc12, od12, .func (PySem.W.fnOf "place_form" "place_form" (defArgs s_place_form) (defBody s_place_form) (defScope s_place_form) .none kV12 dc12 pm12 an12 cd12 ct12), sl12⟩) (c12 : PySem.W.codeIn K cd12 "place_form" = true) (k12 : PySem.W.keepIn K (.ref f12) = true)
    (a13 : PySem.W.nsIn K mainGlobals "sum_of" = some (some (.ref f13))) (l13 : K.lookup f13 = some ⟨oc13, od13, .func (PySem.W.fnOf "sum_of" "sum_of" (defArgs s_sum_of) (defBody s_sum_of) (defScope s_sum_of) .none kV13 dc13 pm13 an13 cd13 ct13), sl13⟩) (c13 : PySem.W.codeIn K cd13 "sum_of" = true) (k13 : PySem.W.keepIn K (.ref f13) = true)
    (a14 : PySem.W.nsIn K mainGlobals "times_of" = some (some (.ref f14))) (l14 : K.lookup f14 = some ⟨oc14, od14, .func (PySem.W.fnOf "times_of" "times_of" (defArgs s_times_of) (defBody s_times_of) (defScope s_times_of) .none kV14 dc14 pm14 an14 cd14 ct14), sl14⟩) (c14 : PySem.W.codeIn K cd14 "times_of" = true) (k14 : PySem.W.keepIn K (.ref f14) = true)
    (a15 : PySem.W.nsIn K mainGlobals "put_in" = some (some (.ref f15))) (l15 : K.lookup f15 = some ⟨oc15, od15, .func (PySem.W.fnOf "put_in" "put_in" (defArgs s_put_in) (defBody s_put_in) (defScope s_put_in) .none kV15 dc15 pm15 an15 cd15 ct15), sl15⟩) (c15 : PySem.W.codeIn K cd15 "put_in" = true) (k15 : PySem.W.keepIn K (.ref f15) = true)
    (a16 : PySem.W.nsIn K mainGlobals "worth_of" = some (some (.ref f16))) (l16 : K.lookup f16 = some ⟨oc16, od16, .func (PySem.W.fnOf "worth_of" "worth_of" (defArgs s_worth_of) (defBody s_worth_of) (defScope s_worth_of) .none kV16 dc16 pm16 an16 cd16 ct16), sl16⟩) (c16 : PySem.W.codeIn K cd16 "worth_of" = true) (k16 : PySem.W.keepIn K (.ref f16) = true)
    (a17 : PySem.W.nsIn K mainGlobals "places_in" = some (some (.ref f17))) (l17 : K.lookup f17 = some ⟨oc17, od17, .func (PySem.W.fnOf "places_in" "places_in" (defArgs s_places_in) (defBody s_places_in) (defScope s_places_in) .none kV17 dc17 pm17 an17 cd17 ct17), sl17⟩) (c17 : PySem.W.codeIn K cd17 "places_in" = true) (k17 : PySem.W.keepIn K (.ref f17) = true)
    (a18 : PySem.W.nsIn K mainGlobals "form_text" = some (some (.ref f18))) (l18 : K.lookup f18 = some ⟨oc18, od18, .func (PySem.W.fnOf "form_text" "form_text" (defArgs s_form_text) (defBody s_form_text) (defScope s_form_text) .none kV18 dc18 pm18 an18 cd18 ct18), sl18⟩) (c18 : PySem.W.codeIn K cd18 "form_text" = true) (k18 : PySem.W.keepIn K (.ref f18) = true)
    (a19 : PySem.W.nsIn K mainGlobals "read_form" = some (some (.ref f19))) (l19 : K.lookup f19 = some ⟨oc19, od19, .func (PySem.W.fnOf "read_form" "read_form" (defArgs s_read_form) (defBody s_read_form) (defScope s_read_form) .none kV19 dc19 pm19 an19 cd19 ct19), sl19⟩) (c19 : PySem.W.codeIn K cd19 "read_form" = true) (k19 : PySem.W.keepIn K (.ref f19) = true)
    (a20 : PySem.W.nsIn K mainGlobals "term_of" = some (some (.ref f20))) (l20 : K.lookup f20 = some ⟨oc20, od20, .func (PySem.W.fnOf "term_of" "term_of" (defArgs s_term_of) (defBody s_term_of) (defScope s_term_of) .none kV20 dc20 pm20 an20 cd20 ct20), sl20⟩) (c20 : PySem.W.codeIn K cd20 "term_of" = true) (k20 : PySem.W.keepIn K (.ref f20) = true)
    (a21 : PySem.W.nsIn K mainGlobals "_law_begun" = some (some (.ref f21))) (l21 : K.lookup f21 = some ⟨oc21, od21, .func (PySem.W.fnOf "_law_begun" "_law_begun" (defArgs s_law_begun) (defBody s_law_begun) (defScope s_law_begun) .none kV21 dc21 pm21 an21 cd21 ct21), sl21⟩) (c21 : PySem.W.codeIn K cd21 "_law_begun" = true) (k21 : PySem.W.keepIn K (.ref f21) = true)
    (a22 : PySem.W.nsIn K mainGlobals "_law_draw" = some (some (.ref f22))) (l22 : K.lookup f22 = some ⟨oc22, od22, .func (PySem.W.fnOf "_law_draw" "_law_draw" (defArgs s_law_draw) (defBody s_law_draw) (defScope s_law_draw) .none kV22 dc22 pm22 an22 cd22 ct22), sl22⟩) (c22 : PySem.W.codeIn K cd22 "_law_draw" = true) (k22 : PySem.W.keepIn K (.ref f22) = true)
    (a23 : PySem.W.nsIn K mainGlobals "_law_place" = some (some (.ref f23))) (l23 : K.lookup f23 = some ⟨oc23, od23, .func (PySem.W.fnOf "_law_place" "_law_place" (defArgs s_law_place) (defBody s_law_place) (defScope s_law_place) .none kV23 dc23 pm23 an23 cd23 ct23), sl23⟩) (c23 : PySem.W.codeIn K cd23 "_law_place" = true) (k23 : PySem.W.keepIn K (.ref f23) = true)
    (a24 : PySem.W.nsIn K mainGlobals "_law_places" = some (some (.ref f24))) (l24 : K.lookup f24 = some ⟨oc24, od24, .func (PySem.W.fnOf "_law_places" "_law_places" (defArgs s_law_places) (defBody s_law_places) (defScope s_law_places) .none kV24 dc24 pm24 an24 cd24 ct24), sl24⟩) (c24 : PySem.W.codeIn K cd24 "_law_places" = true) (k24 : PySem.W.keepIn K (.ref f24) = true)
    (a25 : PySem.W.nsIn K mainGlobals "_law_form" = some (some (.ref f25))) (l25 : K.lookup f25 = some ⟨oc25, od25, .func (PySem.W.fnOf "_law_form" "_law_form" (defArgs s_law_form) (defBody s_law_form) (defScope s_law_form) .none kV25 dc25 pm25 an25 cd25 ct25), sl25⟩) (c25 : PySem.W.codeIn K cd25 "_law_form" = true) (k25 : PySem.W.keepIn K (.ref f25) = true)
    (a26 : PySem.W.nsIn K mainGlobals "_law_rows" = some (some (.ref f26))) (l26 : K.lookup f26 = some ⟨oc26, od26, .func (PySem.W.fnOf "_law_rows" "_law_rows" (defArgs s_law_rows) (defBody s_law_rows) (defScope s_law_rows) .none kV26 dc26 pm26 an26 cd26 ct26), sl26⟩) (c26 : PySem.W.codeIn K cd26 "_law_rows" = true) (k26 : PySem.W.keepIn K (.ref f26) = true)
    (a27 : PySem.W.nsIn K mainGlobals "_law_held" = some (some (.ref f27))) (l27 : K.lookup f27 = some ⟨oc27, od27, .func (PySem.W.fnOf "_law_held" "_law_held" (defArgs s_law_held) (defBody s_law_held) (defScope s_law_held) .none kV27 dc27 pm27 an27 cd27 ct27), sl27⟩) (c27 : PySem.W.codeIn K cd27 "_law_held" = true) (k27 : PySem.W.keepIn K (.ref f27) = true)
    (a28 : PySem.W.nsIn K mainGlobals "law" = some (some (.ref f28))) (l28 : K.lookup f28 = some ⟨oc28, od28, .func (PySem.W.fnOf "law" "law" (defArgs s_law) (defBody s_law) (defScope s_law) .none kV28 dc28 pm28 an28 cd28 ct28), sl28⟩) (c28 : PySem.W.codeIn K cd28 "law" = true) (k28 : PySem.W.keepIn K (.ref f28) = true)
    (z_abs : PySem.W.nsIn K mainGlobals "abs" = some none)
    (z_all : PySem.W.nsIn K mainGlobals "all" = some none)
    (z_bool : PySem.W.nsIn K mainGlobals "bool" = some none)
    (z_dict : PySem.W.nsIn K mainGlobals "dict" = some none)
    (z_int : PySem.W.nsIn K mainGlobals "int" = some none)
    (z_isinstance : PySem.W.nsIn K mainGlobals "isinstance" = some none)
    (z_len : PySem.W.nsIn K mainGlobals "len" = some none)
    (z_list : PySem.W.nsIn K mainGlobals "list" = some none)
    (z_range : PySem.W.nsIn K mainGlobals "range" = some none)
    (z_sorted : PySem.W.nsIn K mainGlobals "sorted" = some none)
    (z_str : PySem.W.nsIn K mainGlobals "str" = some none)
    (z_sum : PySem.W.nsIn K mainGlobals "sum" = some none)
    (z_tuple : PySem.W.nsIn K mainGlobals "tuple" = some none)
    (z_zip : PySem.W.nsIn K mainGlobals "zip" = some none)
    {t_FIGURES : Tok} (y_FIGURES : PySem.W.nsIn K mainGlobals "FIGURES" = some (some (.str "0123456789" t_FIGURES)))
    {t_LETTERS : Tok} (y_LETTERS : PySem.W.nsIn K mainGlobals "LETTERS" = some (some (.str "abcdefghijklmnopqrstuvwxyz" t_LETTERS)))
    {t_LONGEST_PLACE : Tok} (y_LONGEST_PLACE : PySem.W.nsIn K mainGlobals "LONGEST_PLACE" = some (some (.int 40 t_LONGEST_PLACE))) :
    ∃ fd : FuncData, (∀ (s : Shared) (v : Value), BindsTo s fd ⟨[v], []⟩ [("script", v)]) ∧ ∀ base : Heap, K.In base → base.Ns mainGlobals mg → FnOk l.prog w K mg base CX0 6 fa fd ["script"] (sp_law K) := by
  have e := hfa.symm.trans (PySem.W.mg_of X G a28)
  cases e
  have G1 := fun_mk (st := s_is_whole) l1 c1 k1
  have F1 : Here K mg "is_whole" s_is_whole ["thing"] f1 _ := ⟨G1, PySem.W.mg_of X G a1, G1.binds (ps := ["thing"]) fun _ _ _ _ _ _ us hl => match us, hl with | [_], _ => rfl⟩
  have G2 := fun_mk (st := s_is_number) l2 c2 k2
  have F2 : Here K mg "is_number" s_is_number ["thing", "p"] f2 _ := ⟨G2, PySem.W.mg_of X G a2, G2.binds (ps := ["thing", "p"]) fun _ _ _ _ _ _ us hl => match us, hl with | [_, _], _ => rfl⟩
  have G3 := fun_mk (st := s_is_place) l3 c3 k3
  have F3 : Here K mg "is_place" s_is_place ["thing"] f3 _ := ⟨G3, PySem.W.mg_of X G a3, G3.binds (ps := ["thing"]) fun _ _ _ _ _ _ us hl => match us, hl with | [_], _ => rfl⟩
  have G4 := fun_mk (st := s_has_only) l4 c4 k4
  have F4 : Here K mg "has_only" s_has_only ["text", "signs"] f4 _ := ⟨G4, PySem.W.mg_of X G a4, G4.binds (ps := ["text", "signs"]) fun _ _ _ _ _ _ us hl => match us, hl with | [_, _], _ => rfl⟩
  have G5 := fun_mk (st := s_inverse) l5 c5 k5
  have F5 : Here K mg "inverse" s_inverse ["n", "p"] f5 _ := ⟨G5, PySem.W.mg_of X G a5, G5.binds (ps := ["n", "p"]) fun _ _ _ _ _ _ us hl => match us, hl with | [_, _], _ => rfl⟩
  have G6 := fun_mk (st := s_read_figures) l6 c6 k6
  have F6 : Here K mg "read_figures" s_read_figures ["text", "most"] f6 _ := ⟨G6, PySem.W.mg_of X G a6, G6.binds (ps := ["text", "most"]) fun _ _ _ _ _ _ us hl => match us, hl with | [_, _], _ => rfl⟩
  have G7 := fun_mk (st := s_is_tuple) l7 c7 k7
  have F7 : Here K mg "is_tuple" s_is_tuple ["thing", "least", "most"] f7 _ := ⟨G7, PySem.W.mg_of X G a7, G7.binds (ps := ["thing", "least", "most"]) fun _ _ _ _ _ _ us hl => match us, hl with | [_, _, _], _ => rfl⟩
  have G8 := fun_mk (st := s_do_rise) l8 c8 k8
  have F8 : Here K mg "do_rise" s_do_rise ["things"] f8 _ := ⟨G8, PySem.W.mg_of X G a8, G8.binds (ps := ["things"]) fun _ _ _ _ _ _ us hl => match us, hl with | [_], _ => rfl⟩
  have G9 := fun_mk (st := s_is_form) l9 c9 k9
  have F9 : Here K mg "is_form" s_is_form ["thing", "p"] f9 _ := ⟨G9, PySem.W.mg_of X G a9, G9.binds (ps := ["thing", "p"]) fun _ _ _ _ _ _ us hl => match us, hl with | [_, _], _ => rfl⟩
  have G10 := fun_mk (st := s_is_term) l10 c10 k10
  have F10 : Here K mg "is_term" s_is_term ["thing", "p"] f10 _ := ⟨G10, PySem.W.mg_of X G a10, G10.binds (ps := ["thing", "p"]) fun _ _ _ _ _ _ us hl => match us, hl with | [_, _], _ => rfl⟩
  have G11 := fun_mk (st := s_new_form) l11 c11 k11
  have F11 : Here K mg "new_form" s_new_form ["n", "pairs", "p"] f11 _ := ⟨G11, PySem.W.mg_of X G a11, G11.binds (ps := ["n", "pairs", "p"]) fun _ _ _ _ _ _ us hl => match us, hl with | [_, _, _], _ => rfl⟩
  have G12 := fun_mk (st := s_place_form) l12 c12 k12
  have F12 : Here K mg "place_form" s_place_form ["place"] f12 _ := ⟨G12, PySem.W.mg_of X G a12, G12.binds (ps := ["place"]) fun _ _ _ _ _ _ us hl => match us, hl with | [_], _ => rfl⟩
  have G13 := fun_mk (st := s_sum_of) l13 c13 k13
  have F13 : Here K mg "sum_of" s_sum_of ["a", "b", "p"] f13 _ := ⟨G13, PySem.W.mg_of X G a13, G13.binds (ps := ["a", "b", "p"]) fun _ _ _ _ _ _ us hl => match us, hl with | [_, _, _], _ => rfl⟩
  have G14 := fun_mk (st := s_times_of) l14 c14 k14
  have F14 : Here K mg "times_of" s_times_of ["a", "n", "p"] f14 _ := ⟨G14, PySem.W.mg_of X G a14, G14.binds (ps := ["a", "n", "p"]) fun _ _ _ _ _ _ us hl => match us, hl with | [_, _, _], _ => rfl⟩
  have G15 := fun_mk (st := s_put_in) l15 c15 k15
  have F15 : Here K mg "put_in" s_put_in ["form", "forms", "p"] f15 _ := ⟨G15, PySem.W.mg_of X G a15, G15.binds (ps := ["form", "forms", "p"]) fun _ _ _ _ _ _ us hl => match us, hl with | [_, _, _], _ => rfl⟩
  have G16 := fun_mk (st := s_worth_of) l16 c16 k16
  have F16 : Here K mg "worth_of" s_worth_of ["form", "worths", "p"] f16 _ := ⟨G16, PySem.W.mg_of X G a16, G16.binds (ps := ["form", "worths", "p"]) fun _ _ _ _ _ _ us hl => match us, hl with | [_, _, _], _ => rfl⟩
  have G17 := fun_mk (st := s_places_in) l17 c17 k17
  have F17 : Here K mg "places_in" s_places_in ["form"] f17 _ := ⟨G17, PySem.W.mg_of X G a17, G17.binds (ps := ["form"]) fun _ _ _ _ _ _ us hl => match us, hl with | [_], _ => rfl⟩
  have G18 := fun_mk (st := s_form_text) l18 c18 k18
  have F18 : Here K mg "form_text" s_form_text ["form"] f18 _ := ⟨G18, PySem.W.mg_of X G a18, G18.binds (ps := ["form"]) fun _ _ _ _ _ _ us hl => match us, hl with | [_], _ => rfl⟩
  have G19 := fun_mk (st := s_read_form) l19 c19 k19
  have F19 : Here K mg "read_form" s_read_form ["text", "p"] f19 _ := ⟨G19, PySem.W.mg_of X G a19, G19.binds (ps := ["text", "p"]) fun _ _ _ _ _ _ us hl => match us, hl with | [_, _], _ => rfl⟩
  have G20 := fun_mk (st := s_term_of) l20 c20 k20
  have F20 : Here K mg "term_of" s_term_of ["part", "p"] f20 _ := ⟨G20, PySem.W.mg_of X G a20, G20.binds (ps := ["part", "p"]) fun _ _ _ _ _ _ us hl => match us, hl with | [_, _], _ => rfl⟩
  have G21 := fun_mk (st := s_law_begun) l21 c21 k21
  have F21 : Here K mg "_law_begun" s_law_begun ["script"] f21 _ := ⟨G21, PySem.W.mg_of X G a21, G21.binds (ps := ["script"]) fun _ _ _ _ _ _ us hl => match us, hl with | [_], _ => rfl⟩
  have G22 := fun_mk (st := s_law_draw) l22 c22 k22
  have F22 : Here K mg "_law_draw" s_law_draw ["state", "many"] f22 _ := ⟨G22, PySem.W.mg_of X G a22, G22.binds (ps := ["state", "many"]) fun _ _ _ _ _ _ us hl => match us, hl with | [_, _], _ => rfl⟩
  have G23 := fun_mk (st := s_law_place) l23 c23 k23
  have F23 : Here K mg "_law_place" s_law_place ["state"] f23 _ := ⟨G23, PySem.W.mg_of X G a23, G23.binds (ps := ["state"]) fun _ _ _ _ _ _ us hl => match us, hl with | [_], _ => rfl⟩
  have G24 := fun_mk (st := s_law_places) l24 c24 k24
  have F24 : Here K mg "_law_places" s_law_places ["state", "many"] f24 _ := ⟨G24, PySem.W.mg_of X G a24, G24.binds (ps := ["state", "many"]) fun _ _ _ _ _ _ us hl => match us, hl with | [_, _], _ => rfl⟩
  have G25 := fun_mk (st := s_law_form) l25 c25 k25
  have F25 : Here K mg "_law_form" s_law_form ["state", "places", "q"] f25 _ := ⟨G25, PySem.W.mg_of X G a25, G25.binds (ps := ["state", "places", "q"]) fun _ _ _ _ _ _ us hl => match us, hl with | [_, _, _], _ => rfl⟩
  have G26 := fun_mk (st := s_law_rows) l26 c26 k26
  have F26 : Here K mg "_law_rows" s_law_rows ["many", "q"] f26 _ := ⟨G26, PySem.W.mg_of X G a26, G26.binds (ps := ["many", "q"]) fun _ _ _ _ _ _ us hl => match us, hl with | [_, _], _ => rfl⟩
  have G27 := fun_mk (st := s_law_held) l27 c27 k27
  have F27 : Here K mg "_law_held" s_law_held ["one", "other", "times", "lots", "held", "q"] f27 _ := ⟨G27, PySem.W.mg_of X G a27, G27.binds (ps := ["one", "other", "times", "lots", "held", "q"]) fun _ _ _ _ _ _ us hl => match us, hl with | [_, _, _, _, _, _], _ => rfl⟩
  have G28 := fun_mk (st := s_law) l28 c28 k28
  have F28 : Here K mg "law" s_law ["script"] fa _ := ⟨G28, PySem.W.mg_of X G a28, G28.binds (ps := ["script"]) fun _ _ _ _ _ _ us hl => match us, hl with | [_], _ => rfl⟩
  have T : Tx K mg := ⟨⟨_, PySem.W.mg_of X G y_FIGURES⟩, ⟨_, PySem.W.mg_of X G y_LETTERS⟩, ⟨_, PySem.W.mg_of X G y_LONGEST_PLACE⟩, PySem.W.mg_none_of X G z_abs, PySem.W.mg_none_of X G z_all, PySem.W.mg_none_of X G z_bool, PySem.W.mg_none_of X G z_dict, PySem.W.mg_none_of X G z_int, PySem.W.mg_none_of X G z_isinstance, PySem.W.mg_none_of X G z_len, PySem.W.mg_none_of X G z_list, PySem.W.mg_none_of X G z_range, PySem.W.mg_none_of X G z_sorted, PySem.W.mg_none_of X G z_str, PySem.W.mg_none_of X G z_sum, PySem.W.mg_none_of X G z_tuple, PySem.W.mg_none_of X G z_zip⟩
  refine ⟨PySem.W.fnOf "law" "law" (defArgs s_law) (defBody s_law) (defScope s_law) .none kV28 dc28 pm28 an28 cd28 ct28, fun s v => .of_eq rfl, fun base _ _ => ?_⟩
  have C_law_begun := ok_law_begun (P := l.prog) (w := w) (base := base) T  F21
  have C_law_rows := ok_law_rows (P := l.prog) (w := w) (base := base) T  F26
  have C_new_form := ok_new_form (P := l.prog) (w := w) (base := base) T  F11
  have C_place_form := ok_place_form (P := l.prog) (w := w) (base := base) T  F12
  have C_put_in := ok_put_in (P := l.prog) (w := w) (base := base) T C_new_form C_place_form F15
  have C_law_draw := ok_law_draw (P := l.prog) (w := w) (base := base) T  F22
  have C_law_place := ok_law_place (P := l.prog) (w := w) (base := base) T C_law_draw F23
  have C_law_places := ok_law_places (P := l.prog) (w := w) (base := base) T C_law_place C_law_draw F24
  have C_law_form := ok_law_form (P := l.prog) (w := w) (base := base) T C_law_draw F25
  have C_inverse := ok_inverse (P := l.prog) (w := w) (base := base) T  F5
  have C_worth_of := ok_worth_of (P := l.prog) (w := w) (base := base) T  F16
  have C_sum_of := ok_sum_of (P := l.prog) (w := w) (base := base) T C_new_form F13
  have C_times_of := ok_times_of (P := l.prog) (w := w) (base := base) T C_new_form F14
  have C_law_held := ok_law_held (P := l.prog) (w := w) (base := base) T C_worth_of C_sum_of C_times_of C_put_in F27
  have C_is_tuple := ok_is_tuple (P := l.prog) (w := w) (base := base) T  F7
  have C_do_rise := ok_do_rise (P := l.prog) (w := w) (base := base) T  F8
  have C_is_whole := ok_is_whole (P := l.prog) (w := w) (base := base) T  F1
  have C_is_number := ok_is_number (P := l.prog) (w := w) (base := base) T C_is_whole F2
  have C_has_only := ok_has_only (P := l.prog) (w := w) (base := base) T  F4
  have C_is_place := ok_is_place (P := l.prog) (w := w) (base := base) T C_has_only F3
  have C_is_term := ok_is_term (P := l.prog) (w := w) (base := base) T C_is_tuple C_is_place C_is_number F10
  have C_is_form := ok_is_form (P := l.prog) (w := w) (base := base) T C_is_tuple C_do_rise C_is_number C_is_term F9
  have C_read_figures := ok_read_figures (P := l.prog) (w := w) (base := base) T C_has_only F6
  have C_form_text := ok_form_text (P := l.prog) (w := w) (base := base) T  F18
  have C_term_of := ok_term_of (P := l.prog) (w := w) (base := base) T C_read_figures F20
  have C_read_form := ok_read_form (P := l.prog) (w := w) (base := base) T C_read_figures C_is_form C_form_text C_term_of F19
  have C_places_in := ok_places_in (P := l.prog) (w := w) (base := base) T  F17
  have C_law := ok_law (P := l.prog) (w := w) (base := base) T C_law_begun C_law_rows C_put_in C_law_draw C_law_places C_law_form C_new_form C_inverse C_law_held C_is_form C_times_of C_read_form C_worth_of C_places_in C_form_text F28
  exact C_law.ok
end Z
open PySem PySem.W PyProof.Rows
set_option maxHeartbeats 0 in
theorem PySem.Challenge.cw_onetrace_k05_whole_forms_by_all_worths_holds : PySem.Challenge.rw_onetrace_k05_whole_forms_by_all_worths.Holds := by
  w_on; o_law; k_head; (case hw => w_witness2)
  k_fill
  refine L2.walk_of (l := PySem.Challenge.rw_onetrace_k05_whole_forms_by_all_worths) (n := 63) (k := 6) (x := "script") (CX := fun _ => L2.CX0) (sp := fun w => Z.sp_law _) rfl (by decide) rfl ⟨rfl, by decide, by decide⟩ (fun w h Y => PySem.W.kIn_of Y) ?F (fun _ _ a ns hl _ hS => ⟨a, ns, rfl, hS, hl, fun _ => rfl⟩) (fun _ _ _ _ _ h => h)
  case F =>
    intro w mg fa h KX G hmg
    refine' Z.all_mk KX G hmg ?a1 ?l1 ?c1 ?k1 ?a2 ?l2 ?c2 ?k2 ?a3 ?l3 ?c3 ?k3 ?a4 ?l4 ?c4 ?k4 ?a5 ?l5 ?c5 ?k5 ?a6 ?l6 ?c6 ?k6 ?a7 ?l7 ?c7 ?k7 ?a8 ?l8 ?c8 ?k8 ?a9 ?l9 ?c9 ?k9 ?a10 ?l10 ?c10 ?k10 ?a11 ?l11 ?c11 ?k11 ?a12 ?l12 ?c12 ?k12 ?a13 ?l13 ?c13 ?k13 ?a14 ?l14 ?c14 ?k14 ?a15 ?l15 ?c15 ?k15 ?a16 ?l16 ?c16 ?k16 ?a17 ?l17 ?c17 ?k17 ?a18 ?l18 ?c18 ?k18 ?a19 ?l19 ?c19 ?k19 ?a20 ?l20 ?c20 ?k20 ?a21 ?l21 ?c21 ?k21 ?a22 ?l22 ?c22 ?k22 ?a23 ?l23 ?c23 ?k23 ?a24 ?l24 ?c24 ?k24 ?a25 ?l25 ?c25 ?k25 ?a26 ?l26 ?c26 ?k26 ?a27 ?l27 ?c27 ?k27 ?a28 ?l28 ?c28 ?k28 ?z_abs ?z_all ?z_bool ?z_dict ?z_int ?z_isinstance ?z_len ?z_list ?z_range ?z_sorted ?z_str ?z_sum ?z_tuple ?z_zip ?y_FIGURES ?y_LETTERS ?y_LONGEST_PLACE
    (case a1 => k_is)
    (case l1 => k_is)
    (case c1 => k_is)
    (case k1 => k_is)
    (case a2 => k_is)
    (case l2 => k_is)
    (case c2 => k_is)
    (case k2 => k_is)
    (case a3 => k_is)
    (case l3 => k_is)
    (case c3 => k_is)
    (case k3 => k_is)
    (case a4 => k_is)
    (case l4 => k_is)
    (case c4 => k_is)
    (case k4 => k_is)
    (case a5 => k_is)
    (case l5 => k_is)
    (case c5 => k_is)
    (case k5 => k_is)
    (case a6 => k_is)
    (case l6 => k_is)
    (case c6 => k_is)
    (case k6 => k_is)
    (case a7 => k_is)
    (case l7 => k_is)
    (case c7 => k_is)
    (case k7 => k_is)
    (case a8 => k_is)
    (case l8 => k_is)
    (case c8 => k_is)
    (case k8 => k_is)
    (case a9 => k_is)
    (case l9 => k_is)
    (case c9 => k_is)
    (case k9 => k_is)
    (case a10 => k_is)
    (case l10 => k_is)
    (case c10 => k_is)
    (case k10 => k_is)
    (case a11 => k_is)
    (case l11 => k_is)
    (case c11 => k_is)
    (case k11 => k_is)
    (case a12 => k_is)
    (case l12 => k_is)
    (case c12 => k_is)
    (case k12 => k_is)
    (case a13 => k_is)
    (case l13 => k_is)
    (case c13 => k_is)
    (case k13 => k_is)
    (case a14 => k_is)
    (case l14 => k_is)
    (case c14 => k_is)
    (case k14 => k_is)
    (case a15 => k_is)
    (case l15 => k_is)
    (case c15 => k_is)
    (case k15 => k_is)
    (case a16 => k_is)
    (case l16 => k_is)
    (case c16 => k_is)
    (case k16 => k_is)
    (case a17 => k_is)
    (case l17 => k_is)
    (case c17 => k_is)
    (case k17 => k_is)
    (case a18 => k_is)
    (case l18 => k_is)
    (case c18 => k_is)
    (case k18 => k_is)
    (case a19 => k_is)
    (case l19 => k_is)
    (case c19 => k_is)
    (case k19 => k_is)
    (case a20 => k_is)
    (case l20 => k_is)
    (case c20 => k_is)
    (case k20 => k_is)
    (case a21 => k_is)
    (case l21 => k_is)
    (case c21 => k_is)
    (case k21 => k_is)
    (case a22 => k_is)
    (case l22 => k_is)
    (case c22 => k_is)
    (case k22 => k_is)
    (case a23 => k_is)
    (case l23 => k_is)
    (case c23 => k_is)
    (case k23 => k_is)
    (case a24 => k_is)
    (case l24 => k_is)
    (case c24 => k_is)
    (case k24 => k_is)
    (case a25 => k_is)
    (case l25 => k_is)
    (case c25 => k_is)
    (case k25 => k_is)
    (case a26 => k_is)
    (case l26 => k_is)
    (case c26 => k_is)
    (case k26 => k_is)
    (case a27 => k_is)
    (case l27 => k_is)
    (case c27 => k_is)
    (case k27 => k_is)
    (case a28 => k_is)
    (case l28 => k_is)
    (case c28 => k_is)
    (case k28 => k_is)
    (case z_abs => k_is)
    (case z_all => k_is)
    (case z_bool => k_is)
    (case z_dict => k_is)
    (case z_int => k_is)
    (case z_isinstance => k_is)
    (case z_len => k_is)
    (case z_list => k_is)
    (case z_range => k_is)
    (case z_sorted => k_is)
    (case z_str => k_is)
    (case z_sum => k_is)
    (case z_tuple => k_is)
    (case z_zip => k_is)
    (case y_FIGURES => k_is)
    (case y_LETTERS => k_is)
    (case y_LONGEST_PLACE => k_is)
