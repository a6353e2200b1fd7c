import PyProof.Rows.All
import Wide.All
import OpenK.AllK
import Wide.FinOn
import HandS.ForMost
import HandS.Wide
import HandS.Zip
import HandS.Walk
import HandS.IsInst
import HandS.TupAny
import HandS.Style
import HandS.SortOrd
import HandS.Remove
import KE.DataFind
import KE.GoesEnum
import HandS.TupMul
import HandS.Codes
import HandS.Conv
import HandS.DictComp
import HandS.DictTup
import HandS.FStr
import HandS.More
import HandS.Small
import HandS.Sort
import HandS.SortRule
import HandS.Star
import HandS.StrMore
import HandS.Text
import HandS.TupLe
import KE.KDictDisplayH
import KE.KEqDict
import PyProof.NeKinds
import PyProof.StrOps2
import PySem.Challenge.RW_onetrace_k85_papers_written_and_read
set_option Elab.async false
set_option linter.all false
set_option maxRecDepth 100000
set_option maxHeartbeats 4000000
namespace Z
open PySem PySem.Spec PyProof.Rows L2 RZ
/-- a def that is called: where it stands, what it promises -/
structure Cal (P : Program) (w : World) (K : PySem.W.Frag) (mg : Str → Option Value) (base : Heap) (x : Str) (k : Nat) (ps : List Str) (sp : Sp) (st : Stmt) (f : Addr) (fd : FuncData) : Prop where
  ok : FnOk P w K mg base CX0 k f fd ps sp
  at_ : mg x = some (.ref f)
  kp : PySem.W.keepIn K (.ref f) = true
  b : Binds K fd ps []
  fn : Fun K x x st f fd
/-- a def as it stands behind the top -/
structure Here (K : PySem.W.Frag) (mg : Str → Option Value) (x : Str) (st : Stmt) (ps : List Str) (f : Addr) (fd : FuncData) : Prop where
  fn : Fun K x x st f fd
  at_ : mg x = some (.ref f)
  b : Binds K fd ps []
section
variable {P : Program} {w : World} {K : PySem.W.Frag} {mg : Str → Option Value} {base : Heap}
theorem Here.cal {x : Str} {st : Stmt} {ps N : List Str} {f : Addr} {fd : FuncData} {k : Nat} {sp : Sp} (F : Here K mg x st ps f fd) (S : FnScope N ps (defScope st)) (len : ∀ vs H Q E, sp vs H Q E → vs.length = ps.length)
    (hbody : ∀ (cdv : Value) (A : Around) (outer : List Env) (s : Shared) (H : Hp) (vs : List V) (Q : VK) (E : XK), Room k (A.deeper (envOfC x (defScope st) s.heap.objs.size f cdv)) → sp vs H Q E →
      ∃ t, PSs (cxOf CX0 P w K mg base N x (defScope st) f cdv A outer s H E).nox (defBody st) t ∧ t { nx := fun _ H' => Q .non H', rt := Q } (L2.start N vs) H) : Cal P w K mg base x (k + 1) ps sp st f fd :=
  ⟨F.fn.ok S len hbody, F.at_, F.fn.kp, F.b, F.fn⟩
end
/-! readings, rule by rule -/
def rLen (K : PySem.W.Frag) : List V → Hp → VK → Prop := fun xs H Q => ∃ p ys, xs = [.ref p] ∧ (SqL K H p ys ∨ SqT K H p ys) ∧ Q (.int ys.length) H
theorem cr_len {X : Cx} : CallR X (.builtin "len") (rLen X.K) := call_len_seq
theorem r_app0 {l : Addr} {xs : List V} {y : V} {H : Hp} {Q : VK} (h : H l = some (.lst xs)) (z : xs.length < sizeLine) (q : Q .non (upd H l (.lst (xs ++ [y])))) : rAppend (.ref l) [y] H Q := ⟨l, xs, y, rfl, rfl, h, z, q⟩
theorem r_ty {K : PySem.W.Frag} {l : Addr} {xs : List V} {H : Hp} {A : Prop} (h : H l = some (.lst xs)) (q : A) : tyV K "list" (.ref l) H ∧ A := ⟨.inl ⟨rfl, _, .inl (.inl h)⟩, q⟩
theorem r_all {K : PySem.W.Frag} {a : Addr} {bs : List Bool} {H : Hp} {Q : VK} (h : SqL K H a (bs.map V.bl)) (q : Q (.bl (bs.all id)) H) : rAll K [.ref a] H Q := ⟨a, bs, rfl, h, q⟩
theorem r_sum {K : PySem.W.Frag} {a : Addr} {ns : List Int} {H : Hp} {Q : VK} (h : SqL K H a (ns.map V.int)) (q : Q (.int ns.sum) H) : rSum K [.ref a] H Q := ⟨a, ns, rfl, h, q⟩
theorem r_isi {K : PySem.W.Frag} {x c : V} {t u : Value} {b : Bool} {H : Hp} {Q : VK} (h1 : ClsV c u) (h2 : TyX K H x t) (h3 : PySem.W.kitOne K t u = some b) (q : Q (.bl b) H) : rIsi K [x, c] H Q := ⟨x, c, t, u, b, rfl, h1, h2, h3, q⟩
def rAbs : List V → Hp → VK → Prop := fun xs H Q => ∃ i, xs = [.int i] ∧ Q (.int (if i < 0 then -i else i)) H
theorem cr_abs {X : Cx} : CallR X (.builtin "abs") rAbs := call_abs
def rListOf (K : PySem.W.Frag) : List V → Hp → VK → Prop := fun xs H Q => ∃ p ys, xs = [.ref p] ∧ (SqL K H p ys ∨ SqT K H p ys) ∧ ∀ l, H l = none → Q (.ref l) (upd H l (.lst ys))
theorem cr_listOf {X : Cx} : CallR X (.type "list") (rListOf X.K) := call_list_of
def rTupOf (K : PySem.W.Frag) : List V → Hp → VK → Prop := fun xs H Q => ∃ p ys, xs = [.ref p] ∧ ((SqL K H p ys ∧ ∀ l, H l = none → Q (.ref l) (upd H l (.tup ys))) ∨ (SqT K H p ys ∧ Q (.ref p) H))
theorem cr_tupOf {X : Cx} : CallR X (.type "tuple") (rTupOf X.K) := call_tuple_of
section
variable {K : PySem.W.Frag} {D : Ends} {σ : L2.St} {H : Hp} {Q : VK}
theorem r_seq {t u : TS} (h : t { D with nx := u D } σ H) : tSeq t u D σ H := h
theorem r_asg {te : TE} {g : TG} (h : te σ H fun x H1 => g x σ H1 D.nx) : tAsg te g D σ H := h
theorem r_gname {i : Nat} {v : V} {N : L2.St → Hp → Prop} (h : N (σ.set i (some v)) H) : gName i v σ H N := h
theorem r_var {i : Nat} {v : V} (e : σ[i]? = some (some v)) (h : Q v H) : tVar i σ H Q := ⟨v, e, h⟩
theorem r_c {v : V} (h : Q v H) : tC v σ H Q := h
theorem r_op {r : R2} {ta tb : TE} (h : ta σ H fun x H1 => tb σ H1 fun y H2 => r x y H2 Q) : tOp r ta tb σ H Q := h
theorem r_i0 {g : Int → Int → V} {i j : Int} (h : Q (g i j) H) : rI0 g (.int i) (.int j) H Q := ⟨i, j, rfl, rfl, h⟩
theorem r_i {C : Int → Int → Prop} {g : Int → Int → V} {i j : Int} (c : C i j) (h : Q (g i j) H) : rI C g (.int i) (.int j) H Q := ⟨i, j, rfl, rfl, c, h⟩
theorem r_ixl {p : Addr} {xs : List V} {i : Int} {v : V} (h : SqL K H p xs) (e : atI xs i = some v) (q : Q v H) : rIxL K (.ref p) (.int i) H Q := ⟨p, xs, i, v, rfl, rfl, h, e, q⟩
theorem r_ixt {p : Addr} {xs : List V} {i : Int} {v : V} (h : SqT K H p xs) (e : atI xs i = some v) (q : Q v H) : rIxT K (.ref p) (.int i) H Q := ⟨p, xs, i, v, rfl, rfl, h, e, q⟩
theorem r_cb {r : List V → Hp → VK → Prop} {t : TA} (h : t σ H fun vs H1 => r vs H1 Q) : tCB r t σ H Q := h
theorem r_cons {ta : TE} {tr : TA} {R : List V → Hp → Prop} (h : ta σ H fun x H1 => tr σ H1 fun xs H2 => R (x :: xs) H2) : tCons ta tr σ H R := h
theorem r_nil {R : List V → Hp → Prop} (h : R [] H) : tNil σ H R := h
theorem r_len {p : Addr} {ys : List V} (h : SqL K H p ys) (q : Q (.int ys.length) H) : rLen K [.ref p] H Q := ⟨p, ys, rfl, .inl h, q⟩
theorem r_lent {p : Addr} {ys : List V} (h : SqT K H p ys) (q : Q (.int ys.length) H) : rLen K [.ref p] H Q := ⟨p, ys, rfl, .inr h, q⟩
theorem r_abs {i : Int} (q : Q (.int (if i < 0 then -i else i)) H) : rAbs [.int i] H Q := ⟨i, rfl, q⟩
theorem r_listl {p : Addr} {ys : List V} (h : SqL K H p ys) (q : ∀ l, H l = none → Q (.ref l) (upd H l (.lst ys))) : rListOf K [.ref p] H Q := ⟨p, ys, rfl, .inl h, q⟩
theorem r_listt {p : Addr} {ys : List V} (h : SqT K H p ys) (q : ∀ l, H l = none → Q (.ref l) (upd H l (.lst ys))) : rListOf K [.ref p] H Q := ⟨p, ys, rfl, .inr h, q⟩
theorem r_tupl {p : Addr} {ys : List V} (h : SqL K H p ys) (q : ∀ l, H l = none → Q (.ref l) (upd H l (.tup ys))) : rTupOf K [.ref p] H Q := ⟨p, ys, rfl, .inl ⟨h, q⟩⟩
theorem r_tupt {p : Addr} {ys : List V} (h : SqT K H p ys) (q : Q (.ref p) H) : rTupOf K [.ref p] H Q := ⟨p, ys, rfl, .inr ⟨h, q⟩⟩
theorem r_if {c : TT} {t u : TS} (h : c σ H fun b H1 => if b = true then t D σ H1 else u D σ H1) : tIfS c t u D σ H := h
theorem r_ife {c : TT} {t u : TE} (h : c σ H fun b H1 => if b = true then t σ H1 Q else u σ H1 Q) : tIf c t u σ H Q := h
theorem r_test {te : TE} {R : Bool → Hp → Prop} (h : te σ H fun x H' => ∃ k, x = .bl k ∧ R k H') : tTest te σ H R := h
theorem r_bl {b : Bool} {R : Bool → Prop} (h : R b) : ∃ k, V.bl b = .bl k ∧ R k := ⟨b, rfl, h⟩
theorem r_ite {p : Prop} {inst : Decidable p} {A B : Prop} (h1 : p → A) (h2 : ¬p → B) : if decide p = true then A else B := by
  by_cases h : p
  · rw [if_pos (decide_eq_true h)]; exact h1 h
  · rw [if_neg (by simpa using h)]; exact h2 h
theorem r_tand {t u : TT} {R : Bool → Hp → Prop} (h : t σ H fun c H1 => if c = true then u σ H1 R else R false H1) : tAnd t u σ H R := h
theorem r_tor {t u : TT} {R : Bool → Hp → Prop} (h : t σ H fun c H1 => if c = true then R true H1 else u σ H1 R) : tOr t u σ H R := h
theorem r_tnot {t : TT} {R : Bool → Hp → Prop} (h : t σ H fun c H1 => R (!c) H1) : tNot t σ H R := h
theorem r_andv {ta tb : TE} (h : ta σ H fun x H1 => ∃ c, x = .bl c ∧ if c = true then tb σ H1 Q else Q (.bl false) H1) : tAndV ta tb σ H Q := h
theorem r_orv {ta tb : TE} (h : ta σ H fun x H1 => ∃ c, x = .bl c ∧ if c = true then Q (.bl true) H1 else tb σ H1 Q) : tOrV ta tb σ H Q := h
theorem r_notv {ta : TE} (h : ta σ H fun x H1 => ∃ c, x = .bl c ∧ Q (.bl (!c)) H1) : tNotV ta σ H Q := h
theorem r_chain {r r' : R2} {ta tb tc : TE} (h : ta σ H fun x H1 => tb σ H1 fun y H2 => r x y H2 fun z H3 => ∃ k, z = .bl k ∧ (if k = true then tc σ H3 fun w' H4 => r' y w' H4 Q else Q (.bl false) H3)) : tChain r r' ta tb tc σ H Q := h
theorem r_t {A B : Prop} (h : A) : if true = true then A else B := by rw [if_pos rfl]; exact h
theorem r_f {A B : Prop} (h : B) : if false = true then A else B := by rw [if_neg (by decide)]; exact h
theorem r_nt {A B : Prop} (h : B) : if (!true) = true then A else B := by rw [if_neg (by decide)]; exact h
theorem r_nf {A B : Prop} (h : A) : if (!false) = true then A else B := by rw [if_pos (by decide)]; exact h
theorem r_bm {T : String} {r : V → List V → Hp → VK → Prop} {to : TE} {t : TA} (h : to σ H fun x H1 => tyV K T x H1 ∧ t σ H1 fun xs H2 => r x xs H2 Q) : tBM K T r to t σ H Q := h
theorem r_sl {r : V → Option Int → Option Int → Hp → VK → Prop} {te : TE} {tl th : TO} (h : te σ H fun x H1 => tl σ H1 fun l H2 => th σ H2 fun u H3 => r x l u H3 Q) : tSl r te tl th σ H Q := h
theorem r_sll {a : Addr} {xs : List V} {lo hi : Option Int} (h : SqL K H a xs) (q : ∀ p, H p = none → Q (.ref p) (upd H p (.lst (cutV xs lo hi)))) : rSlL K (.ref a) lo hi H Q := ⟨a, xs, rfl, h, q⟩
theorem r_nopart {R : Option Int → Hp → Prop} (h : R none H) : tNoPart σ H R := h
theorem r_part {te : TE} {R : Option Int → Hp → Prop} (h : te σ H fun x H1 => ∃ i, x = .int i ∧ R (some i) H1) : tPart te σ H R := h
theorem r_parti {i : Int} {R : Int → Prop} (h : R i) : ∃ j, V.int i = .int j ∧ R j := ⟨i, rfl, h⟩
theorem r_yes {R : Bool → Hp → Prop} (h : R true H) : tYes σ H R := h
theorem r_sz {xs : List V} {B : Prop} (e : Nat.ble xs.length 1000 = true) (h : B) : xs.length ≤ sizeLine ∧ B := ⟨Nat.le_trans (Nat.le_of_ble_eq_true e) (by decide), h⟩
theorem r_iteB {b : Bool} {A B : Prop} (h1 : b = true → A) (h2 : b = false → B) : if b = true then A else B := by
  cases b with
  | true => rw [if_pos rfl]; exact h1 rfl
  | false => rw [if_neg (by decide)]; exact h2 rfl
theorem r_tb {t : TE} {R : Bool → Hp → Prop} (h : t σ H fun x H1 => ∃ c, x = .bl c ∧ R c H1) : tB t σ H R := h
theorem r_un {r : V → Hp → VK → Prop} {ta : TE} (h : ta σ H fun x H1 => r x H1 Q) : tUn r ta σ H Q := h
theorem r_u {g : Int → V} {i : Int} (h : Q (g i) H) : rU g (.int i) H Q := ⟨i, rfl, h⟩
theorem r_ret {te : TE} (h : te σ H D.rt) : tRet te D σ H := h
theorem r_gsub {to ti : TE} {t : TSet} {v : V} {N : L2.St → Hp → Prop} (h : to σ H fun o H1 => ti σ H1 fun i H2 => t o i v H2 fun H3 => N σ H3) : gSub to ti t v σ H N := h
theorem r_setl {p : Addr} {xs : List V} {k : Int} {j : Nat} {v : V} {R : Hp → Prop} (h : H p = some (.lst xs)) (e : ixN xs.length k = some j) (q : R (upd H p (.lst (xs.set j v)))) : rSetL (.ref p) (.int k) v H R := ⟨p, xs, k, j, rfl, rfl, h, e, q⟩
theorem r_next (h : D.nx σ H) : tNext D σ H := h
theorem r_call {sp : Sp} {dvs : List V} {E : XK} {t : TA} (h : t σ H fun vs H1 => sp (vs ++ dvs) H1 Q E) : tCall sp dvs E t σ H Q := h
theorem r_lst {t : TA} (h : t σ H fun xs H1 => xs.length ≤ sizeLine ∧ ∀ p, H1 p = none → Q (.ref p) (upd H1 p (.lst xs))) : tLst t σ H Q := h
theorem r_tup {t : TA} (h : t σ H fun xs H1 => xs.length ≤ sizeLine ∧ ∀ p, H1 p = none → Q (.ref p) (upd H1 p (.tup xs))) : tTup t σ H Q := h
theorem r_drop {te : TE} (h : te σ H fun _ H1 => D.nx σ H1) : tDrop te D σ H := h
theorem r_eq {x y : V} (s : scal x y = true) (q : Q (.bl (decide (x = y))) H) : rEq x y H Q := ⟨s, q⟩
theorem r_ne {x y : V} (s : scal x y = true) (q : Q (.bl (!decide (x = y))) H) : rNe x y H Q := ⟨s, q⟩
theorem hl_new {H : Hp} {a b : Addr} {o u : HO} (h : H a = some o) (n : H b = none) : upd H b u a = some o := (upd_ne (ne_of_none h n)).trans h
theorem hl_set {H : Hp} {a b : Addr} {o u : HO} (n : a ≠ b) (h : H a = some o) : upd H b u a = some o := (upd_ne n).trans h
end

/-! ### what stands at an address, over the heaps -/
def Kp (S : List Addr) (H H' : Hp) : Prop := ∀ b o, H b = some o → b ∉ S → H' b = some o
theorem Kp.refl {S : List Addr} {H : Hp} : Kp S H H := fun _ _ h _ => h
theorem Kp.trans {S : List Addr} {H H1 H2 : Hp} (a : Kp S H H1) (b : Kp S H1 H2) : Kp S H H2 := fun x o h n => b x o (a x o h n) n
theorem Kp.new {S : List Addr} {H : Hp} {p : Addr} {x : HO} (n : H p = none) : Kp S H (upd H p x) := fun b o h _ => hl_new h n
theorem Kp.set {S : List Addr} {H : Hp} {p : Addr} {x : HO} (m : p ∈ S) : Kp S H (upd H p x) := fun b o h n => hl_set (fun e => n (e ▸ m)) h
/-- a thing made since H is changed -/
theorem Kp.own {S : List Addr} {H H1 : Hp} {p : Addr} {x : HO} (k : Kp S H H1) (n : H p = none) : Kp S H (upd H1 p x) := fun b o h m => hl_set (ne_of_none h n) (k b o h m)
theorem Kp.sub {S S' : List Addr} {H H' : Hp} (k : Kp S H H') (m : ∀ a ∈ S, a ∈ S') : Kp S' H H' := fun b o h n => k b o h fun z => n (m b z)
theorem Kp.ofSame {S : List Addr} {H H' : Hp} (k : Same H H') : Kp S H H' := fun b o h _ => k b o h
theorem Kp.nil {H H' : Hp} (k : Kp [] H H') : Same H H' := fun b o h => k b o h (by simp)
theorem Kp.free {S : List Addr} {H H' : Hp} (k : Kp S H H') {p : Addr} (n : H' p = none) (m : p ∉ S) : H p = none := by
  cases q : H p with
  | none => rfl
  | some o => rw [k p o q m] at n; cases n
theorem Same.upd_new {H : Hp} {p : Addr} {x : HO} (n : H p = none) : Same H (upd H p x) := fun b o h => hl_new h n
theorem hl_kp {S : List Addr} {H H' : Hp} {a : Addr} {o : HO} (k : Kp S H H') (n : a ∉ S) (h : H a = some o) : H' a = some o := k _ _ h n
theorem hl_same {H H' : Hp} {a : Addr} {o : HO} (k : Same H H') (h : H a = some o) : H' a = some o := k _ _ h
/-- every object outside S stands, outside S' -/
def Lft (S : List Addr) (H : Hp) (S' : List Addr) (H' : Hp) : Prop := ∀ a o, H a = some o → a ∉ S → H' a = some o ∧ a ∉ S'
theorem Lft.refl {S : List Addr} {H : Hp} : Lft S H S H := fun _ _ h n => ⟨h, n⟩
theorem Lft.trans {S S1 S2 : List Addr} {H H1 H2 : Hp} (a : Lft S H S1 H1) (b : Lft S1 H1 S2 H2) : Lft S H S2 H2 := fun x o h n => b x o (a x o h n).1 (a x o h n).2
theorem Lft.new {S : List Addr} {H : Hp} {p : Addr} {x : HO} (n : H p = none) : Lft S H S (upd H p x) := fun _ _ h m => ⟨hl_new h n, m⟩
theorem Lft.set {S : List Addr} {H : Hp} {p : Addr} {x : HO} (m : p ∈ S) : Lft S H S (upd H p x) := fun _ _ h n => ⟨hl_set (fun e => n (e ▸ m)) h, n⟩
theorem Lft.kp {S S1 : List Addr} {H H1 : Hp} (k : Kp S H H1) (m : ∀ a ∈ S, a ∈ S1) : Lft S1 H S1 H1 := fun b o h n => ⟨k b o h fun z => n (m b z), n⟩
theorem Lft.same {S : List Addr} {H H1 : Hp} (k : Same H H1) : Lft S H S H1 := fun b o h n => ⟨k b o h, n⟩
theorem Lft.own {S : List Addr} {H : Hp} {p : Addr} {x : HO} (n : H p = none) : Lft S H (p :: S) (upd H p x) := fun a _ h m => ⟨hl_new h n, fun z => by
  rcases List.mem_cons.mp z with e | e
  · exact ne_of_none h n e
  · exact m e⟩
theorem Lft.sub {S S' : List Addr} {H : Hp} (m : ∀ a ∈ S', a ∈ S) : Lft S H S' H := fun a _ h n => ⟨h, fun z => n (m a z)⟩
/-- plain data -/
inductive O where
  | non | bl (b : Bool) | int (i : Int) | str (x : Str) | tup (os : List O) | lst (os : List O) | dct
mutual
inductive Rep (S : List Addr) (H : Hp) : V → O → Prop
  | non : Rep S H .non .non
  | bl (b : Bool) : Rep S H (.bl b) (.bl b)
  | int (i : Int) : Rep S H (.int i) (.int i)
  | str (x : Str) : Rep S H (.str x) (.str x)
  | tup {a : Addr} {xs : List V} {os : List O} : H a = some (.tup xs) → a ∉ S → RepAll S H xs os → Rep S H (.ref a) (.tup os)
  | lst {a : Addr} {xs : List V} {os : List O} : H a = some (.lst xs) → a ∉ S → RepAll S H xs os → Rep S H (.ref a) (.lst os)
  | dct {a : Addr} {kvs : List (Key × V)} : H a = some (.dK kvs) → a ∉ S → Rep S H (.ref a) .dct
inductive RepAll (S : List Addr) (H : Hp) : List V → List O → Prop
  | nil : RepAll S H [] []
  | cons {v : V} {vs : List V} {o : O} {os : List O} : Rep S H v o → RepAll S H vs os → RepAll S H (v :: vs) (o :: os)
end
mutual
theorem Rep.to {S S' : List Addr} {H H' : Hp} (k : Lft S H S' H') : ∀ {v : V} {o : O}, Rep S H v o → Rep S' H' v o
  | _, _, .non => .non
  | _, _, .bl b => .bl b
  | _, _, .int i => .int i
  | _, _, .str x => .str x
  | _, _, .tup h n r => .tup (k _ _ h n).1 (k _ _ h n).2 (RepAll.to k r)
  | _, _, .lst h n r => .lst (k _ _ h n).1 (k _ _ h n).2 (RepAll.to k r)
  | _, _, .dct h n => .dct (k _ _ h n).1 (k _ _ h n).2
theorem RepAll.to {S S' : List Addr} {H H' : Hp} (k : Lft S H S' H') : ∀ {vs : List V} {os : List O}, RepAll S H vs os → RepAll S' H' vs os
  | _, _, .nil => .nil
  | _, _, .cons r t => .cons (Rep.to k r) (RepAll.to k t)
end
section
variable {S : List Addr} {H : Hp}
theorem RepAll.length : ∀ {vs : List V} {os : List O}, RepAll S H vs os → vs.length = os.length
  | _, _, .nil => rfl
  | _, _, .cons _ t => congrArg (· + 1) (RepAll.length t)
theorem RepAll.get : ∀ {vs : List V} {os : List O} {i : Nat} {v : V}, RepAll S H vs os → vs[i]? = some v → ∃ o, os[i]? = some o ∧ Rep S H v o
  | _, _, _, _, .nil, e => by simp at e
  | _, _, 0, _, .cons r _, e => by simp at e; subst e; exact ⟨_, rfl, r⟩
  | _, _, i + 1, v, .cons _ t, e => by
    obtain ⟨o, h1, h2⟩ := RepAll.get (i := i) (v := v) t (by simpa using e)
    exact ⟨o, by simpa using h1, h2⟩
theorem RepAll.append : ∀ {vs us : List V} {os qs : List O}, RepAll S H vs os → RepAll S H us qs → RepAll S H (vs ++ us) (os ++ qs)
  | _, _, _, _, .nil, s => s
  | _, _, _, _, .cons r t, s => .cons r (RepAll.append t s)
theorem RepAll.take : ∀ {vs : List V} {os : List O} (n : Nat), RepAll S H vs os → RepAll S H (vs.take n) (os.take n)
  | _, _, 0, _ => .nil
  | _, _, _ + 1, .nil => .nil
  | _, _, n + 1, .cons r t => .cons r (RepAll.take n t)
theorem RepAll.drop : ∀ {vs : List V} {os : List O} (n : Nat), RepAll S H vs os → RepAll S H (vs.drop n) (os.drop n)
  | _, _, 0, r => r
  | _, _, _ + 1, .nil => .nil
  | _, _, n + 1, .cons _ t => RepAll.drop n t
theorem RepAll.ints : ∀ (ns : List Int), RepAll S H (ns.map V.int) (ns.map O.int)
  | [] => .nil
  | n :: ns => .cons (.int n) (RepAll.ints ns)
theorem RepAll.ints_inv : ∀ {ns : List Int} {vs : List V}, RepAll S H vs (ns.map O.int) → vs = ns.map V.int
  | [], _, .nil => rfl
  | n :: ns, _, .cons r t => by cases r; rw [RepAll.ints_inv t]; rfl
theorem Rep.tupInv {v : V} {os : List O} (r : Rep S H v (.tup os)) : ∃ a xs, v = .ref a ∧ H a = some (.tup xs) ∧ a ∉ S ∧ RepAll S H xs os := by
  cases r with
  | tup h n t => exact ⟨_, _, rfl, h, n, t⟩
end
/-! ### the drawn state -/
structure StAt (s c : Addr) (H : Hp) (cs : List Int) (j r : Int) : Prop where
  hs : H s = some (.lst [.ref c, .int j, .int r])
  hc : H c = some (.lst (cs.map .int))
  ne : cs ≠ []
  nn : ∀ x ∈ cs, 0 ≤ x
  len : cs.length ≤ 1000
  hj : 0 ≤ j
  hr : 0 ≤ r
  hr' : r < 2147483647
def St (s c : Addr) (H : Hp) : Prop := s ≠ c ∧ ∃ cs j r, StAt s c H cs j r
theorem St.out {s c p : Addr} {H : Hp} (h : St s c H) (n : H p = none) : p ∉ [s, c] := by
  obtain ⟨_, cs, j, r, h⟩ := h
  intro z
  rcases List.mem_cons.mp z with e | z
  · rw [e, h.hs] at n; cases n
  · rw [List.mem_singleton.mp z, h.hc] at n; cases n
theorem St.same {s c : Addr} {H H' : Hp} (h : St s c H) (k : Same H H') : St s c H' := by
  obtain ⟨n, cs, j, r, h⟩ := h
  exact ⟨n, cs, j, r, k _ _ h.hs, k _ _ h.hc, h.ne, h.nn, h.len, h.hj, h.hr, h.hr'⟩
theorem St.new {s c p : Addr} {H : Hp} {x : HO} (h : St s c H) (n : H p = none) : St s c (upd H p x) := h.same (Same.upd_new n)
theorem St.set {s c p : Addr} {H : Hp} {x : HO} (h : St s c H) (n : p ∉ [s, c]) : St s c (upd H p x) := by
  obtain ⟨n0, cs, j, r, h⟩ := h
  exact ⟨n0, cs, j, r, hl_set (fun e => n (by simp [e])) h.hs, hl_set (fun e => n (by simp [e])) h.hc, h.ne, h.nn, h.len, h.hj, h.hr, h.hr'⟩
/-! ### loops and comprehensions -/
section
variable {K : PySem.W.Frag} {D : Ends} {σ : L2.St} {H : Hp} {Q : VK}
def Lp (J : It) (g : TG) (tb : TS) (D : Ends) (σ : L2.St) (H1 : Hp) : Prop := ∃ W : Nat → Nat → L2.St → Hp → Prop, (∃ m, W 0 m σ H1) ∧ ∀ i m σ H, W i m σ H →
  (J.stop i H ∧ D.nx σ H) ∨ (J.go i H ∧ ∃ N : L2.St → Hp → Prop, (∀ σ' H', N σ' H' → ∃ m', m' < m ∧ W (i + 1) m' σ' H') ∧ ∀ x H', J.yld i H x H' → g x σ H' fun σ2 H2 => tb { D with nx := N, ct := N, bk := D.nx } σ2 H2)
theorem r_for {wi : TI} {g : TG} {tb : TS} (h : wi σ H fun J H1 => Lp J g tb D σ H1) : tFor wi g tb D σ H := h
def Rg1 (R : It → Hp → Prop) (vs : List V) (H : Hp) : Prop := ∃ j : Int, vs = [.int j] ∧ -(2 ^ 62) ≤ j ∧ j < 2 ^ 62 ∧ R (Itr 0 j.toNat) H
theorem r_irng1 {ta : TA} {R : It → Hp → Prop} (h : ta σ H (Rg1 R)) : iRng1 ta σ H R := h
theorem r_rg1 {R : It → Hp → Prop} {j : Int} (c : -(2 ^ 62) ≤ j ∧ j < 2 ^ 62) (h : R (Itr 0 j.toNat) H) : Rg1 R [.int j] H := ⟨j, rfl, c.1, c.2, h⟩
def Rg2 (R : It → Hp → Prop) (vs : List V) (H : Hp) : Prop := ∃ i j : Int, vs = [.int i, .int j] ∧ (-(2 ^ 62) ≤ i ∧ i < 2 ^ 62 ∧ -(2 ^ 62) ≤ j ∧ j < 2 ^ 62) ∧ R (Itr i (j - i).toNat) H
theorem r_irng2 {ta : TA} {R : It → Hp → Prop} (h : ta σ H (Rg2 R)) : iRng2 ta σ H R := h
theorem r_rg2 {R : It → Hp → Prop} {i j : Int} (c : -(2 ^ 62) ≤ i ∧ i < 2 ^ 62 ∧ -(2 ^ 62) ≤ j ∧ j < 2 ^ 62) (h : R (Itr i (j - i).toNat) H) : Rg2 R [.int i, .int j] H := ⟨i, j, rfl, c, h⟩
def IlR (K : PySem.W.Frag) (R : It → Hp → Prop) (x : V) (H : Hp) : Prop := ∃ a, x = .ref a ∧ (∃ xs, SqL K H a xs) ∧ R (Itl K a) H
theorem r_ilist {tl : TE} {R : It → Hp → Prop} (h : tl σ H (IlR K R)) : iList K tl σ H R := h
theorem r_il {R : It → Hp → Prop} {a : Addr} {xs : List V} (e : SqL K H a xs) (h : R (Itl K a) H) : IlR K R (.ref a) H := ⟨a, rfl, ⟨xs, e⟩, h⟩
def ItR (K : PySem.W.Frag) (R : It → Hp → Prop) (x : V) (H : Hp) : Prop := ∃ a, x = .ref a ∧ (∃ xs, SqT K H a xs) ∧ R (Itt K a) H
theorem r_itup {tl : TE} {R : It → Hp → Prop} (h : tl σ H (ItR K R)) : iTup K tl σ H R := h
theorem r_it {R : It → Hp → Prop} {a : Addr} {xs : List V} (e : SqT K H a xs) (h : R (Itt K a) H) : ItR K R (.ref a) H := ⟨a, rfl, ⟨xs, e⟩, h⟩
def IzR (K : PySem.W.Frag) (R : It → Hp → Prop) (vs : List V) (H1 : Hp) : Prop := ∃ a b xs ys, vs = [.ref a, .ref b] ∧ ((SqL K H1 a xs ∧ SqL K H1 b ys ∧ R (Itz K a b) H1) ∨ (SqT K H1 a xs ∧ SqT K H1 b ys ∧ R (ItzT K a b) H1))
theorem r_izip {ta : TA} {R : It → Hp → Prop} (h : ta σ H (IzR K R)) : iZipA K ta σ H R := h
theorem r_izt {R : It → Hp → Prop} {a b : Addr} {xs ys : List V} (e1 : SqT K H a xs) (e2 : SqT K H b ys) (h : R (ItzT K a b) H) : IzR K R [.ref a, .ref b] H := ⟨a, b, xs, ys, rfl, .inr ⟨e1, e2, h⟩⟩
theorem lp_by {J : It} {n : Nat} {G : Hp → Prop} {Y : Nat → Hp → V → Hp → Prop} (w : Walk J n G Y) {g : TG} {tb : TS} (Pv : Nat → L2.St → Hp → Prop) (h0 : Pv 0 σ H) (hG : ∀ i σ H, i ≤ n → Pv i σ H → G H)
    (hs : ∀ i x σ H H', i < n → Pv i σ H → Y i H x H' → g x σ H' fun σ2 H2 => tb { D with nx := Pv (i + 1), ct := Pv (i + 1), bk := D.nx } σ2 H2) (hd : ∀ σ H, Pv n σ H → D.nx σ H) : Lp J g tb D σ H := for_it w Pv h0 hG hs hd
/-- ways that meet: what holds of slots and heap where they do -/
theorem r_join {c : TT} {t u : TS} (G : L2.St → Hp → Prop) (h2 : ∀ σ' H', G σ' H' → D.nx σ' H') (h1 : ∀ N : L2.St → Hp → Prop, (∀ σ' H', G σ' H' → N σ' H') → tIfS c t u { D with nx := N } σ H) : tIfS c t u D σ H := h1 D.nx h2
theorem r_joinE {te : TE} (G : V → Hp → Prop) (h2 : ∀ v H', G v H' → Q v H') (h1 : ∀ Q' : VK, (∀ v H', G v H' → Q' v H') → te σ H Q') : te σ H Q := h1 Q h2
theorem r_joinT {te : TT} {R : Bool → Hp → Prop} (G : Bool → Hp → Prop) (h2 : ∀ v H', G v H' → R v H') (h1 : ∀ R' : Bool → Hp → Prop, (∀ v H', G v H' → R' v H') → te σ H R') : te σ H R := h1 R h2
theorem walk_zipT {a b : Addr} {xs ys : List V} {n : Nat} (hn : n = min xs.length ys.length) : Walk (ItzT K a b) n (fun H => SqT K H a xs ∧ SqT K H b ys) (YPair (fun i => xs[i]?) (fun i => ys[i]?)) where
  goes := fun i H hi h => ⟨xs, ys, xs[i]'(by omega), ys[i]'(by omega), h.1, h.2, List.getElem?_eq_getElem (by omega), List.getElem?_eq_getElem (by omega)⟩
  stops := fun H h => ⟨xs, ys, h.1, h.2, by omega⟩
  yields := fun i H x H' _ h y => by
    obtain ⟨T, x1, y1, e1, e2, e3, e4, e5⟩ := y
    exact ⟨T, x1, y1, e1, e2, e3, e4 xs h.1, e5 ys h.2⟩
/-- a comprehension's turns -/
def Lc (J : It) (g : TG) (tt : TT) (te : TE) (vs : List Nat) (σ : L2.St) (D : Addr) (Q : VK) (H1 : Hp) : Prop := ∃ W : Nat → Nat → Hp → Prop, (∃ m, W 0 m (upd H1 D (.lst []))) ∧ ∀ i m H, W i m H →
  (J.stop i H ∧ Q (.ref D) H) ∨ (J.go i H ∧ ∃ Nx : Hp → Prop, (∀ H', Nx H' → ∃ m', m' < m ∧ W (i + 1) m' H') ∧ ∀ x H', J.yld i H x H' → g x (wipe σ vs) H' fun σ2 H2 => wipe σ2 vs = wipe σ vs ∧ tt σ2 H2 fun b H3 =>
    if b = true then te σ2 H3 fun y H4 => ∃ acc, H4 D = some (.lst acc) ∧ acc.length < sizeLine ∧ Nx (upd H4 D (.lst (acc ++ [y]))) else Nx H3)
theorem r_lc {wi : TI} {g : TG} {tt : TT} {te : TE} {vs : List Nat} (h : wi σ H fun J H1 => ∀ D, H1 D = none → Lc J g tt te vs σ D Q H1) : tLc wi g tt te vs σ H Q := h
/-- what an item's part of a turn is to reach: kept with a value, or not kept -/
def LcT (g : TG) (tt : TT) (te : TE) (vs : List Nat) (σ : L2.St) (x : V) (H : Hp) (Y : V → Hp → Prop) (No : Hp → Prop) : Prop :=
  g x (wipe σ vs) H fun σ2 H2 => wipe σ2 vs = wipe σ vs ∧ tt σ2 H2 fun b H3 => if b = true then te σ2 H3 Y else No H3
/-- the list is made of the values kept: R i says what the i-th turn's part is -/
theorem lc_by {J : It} {n : Nat} {G : Hp → Prop} {Yd : Nat → Hp → V → Hp → Prop} (w : Walk J n G Yd) {g : TG} {tt : TT} {te : TE} {vs : List Nat} {D : Addr} (Pv : Nat → Hp → Prop) (h0 : Pv 0 (upd H D (.lst []))) (hG : ∀ i H, i ≤ n → Pv i H → G H)
    (hs : ∀ i x H H', i < n → Pv i H → Yd i H x H' → LcT g tt te vs σ x H' (fun y H4 => ∃ acc, H4 D = some (.lst acc) ∧ acc.length < sizeLine ∧ Pv (i + 1) (upd H4 D (.lst (acc ++ [y])))) (fun H3 => Pv (i + 1) H3)) (hd : ∀ H, Pv n H → Q (.ref D) H) : Lc J g tt te vs σ D Q H := by
  refine ⟨fun i m H => m = n - i ∧ i ≤ n ∧ Pv i H, ⟨n, by simp, Nat.zero_le _, h0⟩, ?_⟩
  rintro i m H ⟨rfl, hi, p⟩
  by_cases hlt : i < n
  · exact .inr ⟨w.goes i H hlt (hG i H hi p), Pv (i + 1), fun H' p' => ⟨n - (i + 1), by omega, rfl, hlt, p'⟩, fun x H' y => hs i x H H' hlt p (w.yields i H x H' hlt (hG i H hi p) y)⟩
  · have e : i = n := by omega
    subst e
    exact .inl ⟨w.stops H (hG _ H hi p), hd H p⟩
/-- every item is kept; its value is told by R, which new objects leave true; the source is left as it is -/
theorem lc_map {J : It} {n : Nat} {G : Hp → Prop} {Yd : Nat → Hp → V → Hp → Prop} (w : Walk J n G Yd) (hn : n ≤ 1000000) {g : TG} {tt : TT} {te : TE} {vs : List Nat} {D : Addr} (nD : H D = none) (R : Nat → V → Hp → Prop) (hR : ∀ i v H H', R i v H → Same H H' → R i v H')
    (hRD : ∀ i v H' acc acc', R i v H' → H' D = some (.lst acc) → R i v (upd H' D (.lst acc'))) (hG : ∀ H', Same H H' → G H') (hY : ∀ i H1 x H2, Yd i H1 x H2 → Same H1 H2)
    (hs : ∀ i x H1 H2 (Y : V → Hp → Prop) (No : Hp → Prop), i < n → Same H H1 → Yd i H1 x H2 → (∀ y H4, Same H2 H4 → R i y H4 → Y y H4) → LcT g tt te vs σ x H2 Y No)
    (hd : ∀ ys H', ys.length = n → Same H H' → H' D = some (.lst ys) → (∀ i y, ys[i]? = some y → R i y H') → Q (.ref D) H') : Lc J g tt te vs σ D Q H := by
  refine lc_by w (fun i H' => Same H H' ∧ ∃ ys : List V, ys.length = i ∧ H' D = some (.lst ys) ∧ ∀ j y, ys[j]? = some y → R j y H') ⟨Same.upd_new nD, [], rfl, upd_same, fun j y e => by simp at e⟩ (fun i H' _ p => hG H' p.1) (fun i x H1 H2 hi p y => ?_) (fun H' p => ?_)
  · obtain ⟨sm, ys, el, eD, hr⟩ := p
    have s2 := hY _ _ _ _ y
    refine hs i x H1 H2 _ _ hi sm y (fun v H4 q1 q2 => ?_)
    have s4 : Same H1 H4 := s2.trans q1
    have e4 : H4 D = some (.lst ys) := s4 _ _ eD
    refine ⟨ys, e4, by rw [el]; exact Nat.lt_of_lt_of_le (Nat.lt_of_lt_of_le hi hn) (by decide), fun b o e => ?_, ys ++ [v], by simp [el], upd_same, fun j y' e => ?_⟩
    · exact hl_set (ne_of_none e nD) (s4 _ _ (sm _ _ e))
    · by_cases hj : j < ys.length
      · rw [List.getElem?_append_left hj] at e
        exact hRD _ _ _ _ _ (hR _ _ _ _ (hr j y' e) s4) e4
      · rw [List.getElem?_append_right (by omega)] at e
        have hj2 : j - ys.length = 0 := by
          cases h : j - ys.length with
          | zero => rfl
          | succ m => rw [h] at e; simp at e
        rw [hj2] at e
        simp at e
        subst e
        have : j = i := by omega
        subst this
        exact hRD _ _ _ _ _ q2 e4
  · obtain ⟨sm, ys, el, eD, hr⟩ := p
    exact hd ys H' el sm eD hr
/-- items are kept or not: t tells which -/
theorem lc_filt {J : It} {n : Nat} {G : Hp → Prop} {Yd : Nat → Hp → V → Hp → Prop} (w : Walk J n G Yd) (hn : n ≤ 1000000) {g : TG} {tt : TT} {te : TE} {vs : List Nat} {D : Addr} (nD : H D = none) (t : Nat → Bool) (hG : ∀ H', Same H H' → G H') (hY : ∀ i H1 x H2, Yd i H1 x H2 → Same H1 H2)
    (hs : ∀ i x H1 H2 (Y : V → Hp → Prop) (No : Hp → Prop), i < n → Same H H1 → Yd i H1 x H2 → (t i = true → ∀ y H4, Same H2 H4 → Y y H4) → (t i = false → ∀ H4, Same H2 H4 → No H4) → LcT g tt te vs σ x H2 Y No)
    (hd : ∀ ys H', ys.isEmpty = (List.range n).all (fun i => !t i) → ys.length ≤ n → Same H H' → H' D = some (.lst ys) → Q (.ref D) H') : Lc J g tt te vs σ D Q H := by
  refine lc_by w (fun i H' => Same H H' ∧ ∃ ys : List V, ys.isEmpty = (List.range i).all (fun i => !t i) ∧ ys.length ≤ i ∧ H' D = some (.lst ys)) ⟨Same.upd_new nD, [], rfl, Nat.le_refl _, upd_same⟩ (fun i H' _ p => hG H' p.1) (fun i x H1 H2 hi p y => ?_) (fun H' p => ?_)
  · obtain ⟨sm, ys, ee, el, eD⟩ := p
    have s2 := hY _ _ _ _ y
    refine hs i x H1 H2 _ _ hi sm y (fun ht v H4 q => ?_) (fun ht H4 q => ?_)
    · have s4 : Same H1 H4 := s2.trans q
      refine ⟨ys, s4 _ _ eD, Nat.lt_of_le_of_lt el (Nat.lt_of_lt_of_le hi (Nat.le_trans hn (by decide))), fun b o e => hl_set (ne_of_none e nD) (s4 _ _ (sm _ _ e)), ys ++ [v], ?_, by simp; omega, upd_same⟩
      rw [List.range_succ, List.all_append, List.all_cons, ht]
      cases ys <;> simp
    · have s4 : Same H1 H4 := s2.trans q
      refine ⟨sm.trans s4, ys, ?_, by omega, s4 _ _ eD⟩
      rw [List.range_succ, List.all_append, List.all_cons, ht, ee]
      simp
  · obtain ⟨sm, ys, ee, el, eD⟩ := p
    exact hd ys H' ee el sm eD
theorem range_all {α : Type} (f : α → Bool) (d : α) : ∀ os : List α, (List.range os.length).all (fun i => f (os.getD i d)) = os.all f
  | [] => rfl
  | o :: os => by
    rw [List.length_cons, List.range_succ_eq_map, List.all_cons, List.all_map, List.all_cons, ← range_all f d os]
    rfl
end
/-! ### the rules with the written part told -/
section
variable {X : Cx} {K : PySem.W.Frag} {e l tg : Expr} {tl te : TE} {t ta : TA}
theorem ix_listK (q : X.K = K := by rfl) : IxR X (rIxL K) := q ▸ ix_list
theorem ix_tupK (q : X.K = K := by rfl) : IxR X (rIxT K) := q ▸ ix_tup
theorem pi_listK (h : PE X l tl) (q : X.K = K := by rfl) : PI X tg l (iList K tl) := q ▸ pi_list h
theorem pi_tupK (h : PE X l tl) (q : X.K = K := by rfl) : PI X tg l (iTup K tl) := q ▸ pi_tup h
theorem cr_lenK (q : X.K = K := by rfl) : CallR X (.builtin "len") (rLen K) := q ▸ cr_len
theorem cr_listOfK (q : X.K = K := by rfl) : CallR X (.type "list") (rListOf K) := q ▸ cr_listOf
theorem cr_tupOfK (q : X.K = K := by rfl) : CallR X (.type "tuple") (rTupOf K) := q ▸ cr_tupOf
theorem cr_allK (hc : X.calm = true) (q : X.K = K := by rfl) : CallR X (.builtin "all") (rAll K) := q ▸ cr_all hc
theorem cr_sumK (hc : X.calm = true) (q : X.K = K := by rfl) : CallR X (.builtin "sum") (rSum K) := q ▸ cr_sum hc
theorem cr_isiK (q : X.K = K := by rfl) : CallR X (.builtin "isinstance") (rIsi K) := q ▸ call_isi
theorem sl_listK (q : X.K = K := by rfl) : SlR X (rSlL K) := q ▸ sl_list
theorem sl_tupAK (q : X.K = K := by rfl) : SlR X (rSlA K) := q ▸ sl_tupA
theorem op_catAK (q : X.K = K := by rfl) : OpR X (binaryOp .Add) (rCatA K) := q ▸ op_catA
theorem castBM {e : Expr} {T : String} {r : V → List V → Hp → VK → Prop} {to : TE} (h : PE X e (tBM X.K T r to t)) (q : X.K = K := by rfl) : PE X e (tBM K T r to t) := q ▸ h
theorem castBM0 {e : Expr} {T : String} {r : V → List V → Hp → VK → Prop} {to : TE} (h : PE X e (tBM0 X.K T r to)) (q : X.K = K := by rfl) : PE X e (tBM0 K T r to) := q ▸ h
theorem castPI {iter : Expr} {wi : PySem.W.Frag → TI} (h : PI X tg iter (wi X.K)) (q : X.K = K := by rfl) : PI X tg iter (wi K) := q ▸ h
theorem castPG {n : Nat} {tg : Expr} {g : TGs} (h : PG X tg (gTup X.K n g)) (q : X.K = K := by rfl) : PG X tg (gTup K n g) := q ▸ h
end
/-! ### calls by keywords alone; keywords in any order -/
theorem pe_callK0 {X : Cx} {CX : CXT} {k : Nat} {f : Addr} {fd : FuncData} {ps ks : List Str} {sp : Sp} {E : XK} {x : Str} {p pos : Pos} {kws : List Keyword} {tk : TA} {g : List Value → List Value → List Value} {gV : List V → List V → List V}
    (F : FnOk X.prog X.w X.K X.mg X.base CX k f fd ps sp) (hr : Room k X.A) (hg : Gl X x) (hm : X.mg x = some (.ref f)) (hk : PySem.W.keepIn X.K (.ref f) = true) (hb : KBinds X.K fd ps ks g gV) (hx : Passes CX X E)
    (hkw : PK X kws tk) (hall : (backToKw pos (keywordEach kws X.env)).all (·.1.isSome) = true := by rfl) (hks : (backToKw pos (keywordEach kws X.env)).filterMap (·.1) = ks := by rfl)
    (hdb : (x == ("__debug__" : Str)) = false := by decide) (hpl : ((backTo pos (starEach [] X.env)).any (·.1) || (backToKw pos (keywordEach kws X.env)).any (·.1.isNone)) = false := by rfl) :
    PE X (.Call (.Name x p) [] kws pos) (tCallK sp gV E tNil tk) := by
  refine ⟨fun pins s σ H Q I h => wpAny_Call_Name_kw (ld_glob I hg hm ?_ hdb)⟩
  refine PySem.W.callWith_KW0 (h₀ := X.base) I.ok.mod.kin hk hall (thn (hkw.run pos pins s σ H _ I h) fun ws s2 ⟨zs, H2, I2, rz, q2⟩ => ⟨I2.kIn, ?_⟩) hpl
  rw [hks]
  exact run_fnk (us := []) F hr hb hx I2 .nil rz q2
def permV (na nb : Nat) (is : List Nat) (vs zs : List V) : List V := if vs.length = na ∧ zs.length = nb then is.map fun i => (vs ++ zs).getD i .non else []
def permU (na nb : Nat) (is : List Nat) (vs zs : List Value) : List Value := if vs.length = na ∧ zs.length = nb then is.map fun i => (vs ++ zs).getD i .none else []
theorem vals_getD : ∀ {xs : List V} {us : List Value} (i : Nat), Vals xs us → RelV (xs.getD i .non) (us.getD i .none)
  | _, _, _, .nil => rfl
  | _, _, 0, .cons r _ => r
  | _, _, i + 1, .cons _ t => by
    have := vals_getD i t
    simpa using this
theorem vals_map {xs : List V} {us : List Value} (r : Vals xs us) : ∀ is : List Nat, Vals (is.map fun i => xs.getD i .non) (is.map fun i => us.getD i .none)
  | [] => .nil
  | i :: is => .cons (vals_getD i r) (vals_map r is)
theorem kb_perm {K : PySem.W.Frag} {fd : FuncData} {ps ks : List Str} {us0 ws0 : Nat} {is : List Nat} (h0 : ps ≠ [])
    (h : ∀ (us ws : List Value), us.length = us0 → ws.length = ws0 → ∀ s : Shared, BindsTo s fd ⟨us, ks.zip ws⟩ (ps.zip (is.map fun i => (us ++ ws).getD i .none))) : KBinds K fd ps ks (permU us0 ws0 is) (permV us0 ws0 is) where
  to := fun s us ws _ hl => by
    unfold permU at hl ⊢
    by_cases c : us.length = us0 ∧ ws.length = ws0
    · rw [if_pos c]
      exact h us ws c.1 c.2 s
    · rw [if_neg c] at hl
      cases ps with
      | nil => exact absurd rfl h0
      | cons _ _ => simp at hl
  rel := fun {vs us zs ws} r1 r2 => by
    unfold permU permV
    rw [r1.length, r2.length]
    by_cases c : us.length = us0 ∧ ws.length = ws0
    · rw [if_pos c, if_pos c]
      exact vals_map (r1.append r2) is
    · rw [if_neg c, if_neg c]
      exact .nil
section
variable {K : PySem.W.Frag} {D : Ends} {σ : L2.St} {H : Hp} {Q : VK}
theorem r_callk {sp : Sp} {gV : List V → List V → List V} {E : XK} {t tk : TA} (h : t σ H fun vs H1 => tk σ H1 fun zs H2 => sp (gV vs zs) H2 Q E) : tCallK sp gV E t tk σ H Q := h
theorem r_perm {sp : Sp} {E : XK} {na nb : Nat} {is : List Nat} {vs zs : List V} (h1 : vs.length = na) (h2 : zs.length = nb) (h : sp (is.map fun i => (vs ++ zs).getD i .non) H Q E) : sp (permV na nb is vs zs) H Q E := by
  unfold permV; rw [if_pos ⟨h1, h2⟩]; exact h
end
theorem hu_of64 {A : Around} {k : Nat} (hr : Room k A) : A.units + 64 < cLine := hr.units
/-! ### against the empty list, the empty tuple -/
def rNil (K : PySem.W.Frag) (g : Bool → Bool) : R2 := fun x y H Q => ∃ a b xs, x = .ref a ∧ y = .ref b ∧ SqL K H a xs ∧ SqL K H b [] ∧ Q (.bl (g xs.isEmpty)) H
def rNilT (K : PySem.W.Frag) (g : Bool → Bool) : R2 := fun x y H Q => ∃ a b xs, x = .ref a ∧ y = .ref b ∧ SqT K H a xs ∧ SqT K H b [] ∧ Q (.bl (g xs.isEmpty)) H
theorem op_eqNil {X : Cx} (hu : X.A.units + 64 < cLine) : OpR X (compareOp .Eq) (rNil X.K id) := by
  intro pins s σ H x y v u Q I rx ry h
  obtain ⟨a, b, xs, rfl, rfl, h1, h2, q⟩ := h
  cases rx; cases ry
  obtain ⟨its, rv, p1, _⟩ := I.list h1
  obtain ⟨its2, rv2, p2, _⟩ := I.list h2
  cases rv2
  have e1 : xs.length = its.length := rv.length
  cases xs with
  | nil =>
    cases rv
    exact PySem.SeqAt.eq_listAt (e := fun _ => true) p1.isList p2.isList rfl (by omega) (fun j h => absurd h (Nat.not_lt_zero j)) ⟨.bl _, H, I, rfl, q⟩
  | cons z zs =>
    cases its with
    | nil => simp at e1
    | cons _ _ => exact PySem.SeqAt.eq_list_lengthsAt p1.isList p2.isList rfl (by omega) ⟨.bl false, H, I, rfl, q⟩
theorem op_neNil {X : Cx} (hu : X.A.units + 64 < cLine) : OpR X (compareOp .NotEq) (rNil X.K not) := by
  intro pins s σ H x y v u Q I rx ry h
  obtain ⟨a, b, xs, rfl, rfl, h1, h2, q⟩ := h
  cases rx; cases ry
  obtain ⟨its, rv, p1, _⟩ := I.list h1
  obtain ⟨its2, rv2, p2, _⟩ := I.list h2
  cases rv2
  have e1 : xs.length = its.length := rv.length
  cases xs with
  | nil =>
    cases rv
    exact PySem.SeqAt.RcNeAt.lists (e := fun _ => true) p1.isList p2.isList rfl (by omega) (fun j h => absurd h (Nat.not_lt_zero j)) _ _ _ _ ⟨.bl _, H, I, rfl, q⟩
  | cons z zs =>
    cases its with
    | nil => simp at e1
    | cons _ _ => exact PySem.SeqAt.RcNeAt.lists_lengths p1.isList p2.isList rfl (by omega) _ _ _ _ ⟨.bl true, H, I, rfl, q⟩
theorem op_eqNilT {X : Cx} (hu : X.A.units + 64 < cLine) : OpR X (compareOp .Eq) (rNilT X.K id) := by
  intro pins s σ H x y v u Q I rx ry h
  obtain ⟨a, b, xs, rfl, rfl, h1, h2, q⟩ := h
  cases rx; cases ry
  obtain ⟨its, rv, p1, _⟩ := I.tuple h1
  obtain ⟨its2, rv2, p2, _⟩ := I.tuple h2
  cases rv2
  have e1 : xs.length = its.length := rv.length
  refine PySem.SeqAt.eq_tupleAt (e := fun _ => true) (show s.heap.IsTuple a its.toArray from p1) (show s.heap.IsTuple b #[] from p2) (by omega) (fun j _ h => absurd h (Nat.not_lt_zero j)) ⟨.bl xs.isEmpty, H, I, ?_, q⟩
  cases xs with
  | nil =>
    cases rv
    rfl
  | cons z zs =>
    cases its with
    | nil => simp at e1
    | cons _ _ => rfl
theorem op_eqNilK {X : Cx} {K : PySem.W.Frag} (hu : X.A.units + 64 < cLine) (q : X.K = K := by rfl) : OpR X (compareOp .Eq) (rNil K id) := q ▸ op_eqNil hu
theorem op_neNilK {X : Cx} {K : PySem.W.Frag} (hu : X.A.units + 64 < cLine) (q : X.K = K := by rfl) : OpR X (compareOp .NotEq) (rNil K not) := q ▸ op_neNil hu
theorem op_eqNilTK {X : Cx} {K : PySem.W.Frag} (hu : X.A.units + 64 < cLine) (q : X.K = K := by rfl) : OpR X (compareOp .Eq) (rNilT K id) := q ▸ op_eqNilT hu
section
variable {K : PySem.W.Frag} {H : Hp} {Q : VK}
theorem r_nilL {g : Bool → Bool} {a b : Addr} {xs : List V} (h1 : SqL K H a xs) (h2 : SqL K H b []) (q : Q (.bl (g xs.isEmpty)) H) : rNil K g (.ref a) (.ref b) H Q := ⟨a, b, xs, rfl, rfl, h1, h2, q⟩
theorem r_nilT {g : Bool → Bool} {a b : Addr} {xs : List V} (h1 : SqT K H a xs) (h2 : SqT K H b []) (q : Q (.bl (g xs.isEmpty)) H) : rNilT K g (.ref a) (.ref b) H Q := ⟨a, b, xs, rfl, rfl, h1, h2, q⟩
end
theorem kt_NoneType_int {K : PySem.W.Frag} : PySem.W.kitOne K (.type "NoneType") (.type "int") = some false := kit_ty (by decide +kernel)
theorem kt_bool_int {K : PySem.W.Frag} : PySem.W.kitOne K (.type "bool") (.type "int") = some true := kit_ty (by decide +kernel)
theorem kt_int_int {K : PySem.W.Frag} : PySem.W.kitOne K (.type "int") (.type "int") = some true := kit_ty (by decide +kernel)
theorem kt_str_int {K : PySem.W.Frag} : PySem.W.kitOne K (.type "str") (.type "int") = some false := kit_ty (by decide +kernel)
theorem kt_tuple_int {K : PySem.W.Frag} : PySem.W.kitOne K (.type "tuple") (.type "int") = some false := kit_ty (by decide +kernel)
theorem kt_list_int {K : PySem.W.Frag} : PySem.W.kitOne K (.type "list") (.type "int") = some false := kit_ty (by decide +kernel)
theorem kt_dict_int {K : PySem.W.Frag} : PySem.W.kitOne K (.type "dict") (.type "int") = some false := kit_ty (by decide +kernel)
theorem kt_NoneType_bool {K : PySem.W.Frag} : PySem.W.kitOne K (.type "NoneType") (.type "bool") = some false := kit_ty (by decide +kernel)
theorem kt_bool_bool {K : PySem.W.Frag} : PySem.W.kitOne K (.type "bool") (.type "bool") = some true := kit_ty (by decide +kernel)
theorem kt_int_bool {K : PySem.W.Frag} : PySem.W.kitOne K (.type "int") (.type "bool") = some false := kit_ty (by decide +kernel)
theorem kt_str_bool {K : PySem.W.Frag} : PySem.W.kitOne K (.type "str") (.type "bool") = some false := kit_ty (by decide +kernel)
theorem kt_tuple_bool {K : PySem.W.Frag} : PySem.W.kitOne K (.type "tuple") (.type "bool") = some false := kit_ty (by decide +kernel)
theorem kt_list_bool {K : PySem.W.Frag} : PySem.W.kitOne K (.type "list") (.type "bool") = some false := kit_ty (by decide +kernel)
theorem kt_dict_bool {K : PySem.W.Frag} : PySem.W.kitOne K (.type "dict") (.type "bool") = some false := kit_ty (by decide +kernel)
theorem kt_NoneType_tuple {K : PySem.W.Frag} : PySem.W.kitOne K (.type "NoneType") (.type "tuple") = some false := kit_ty (by decide +kernel)
theorem kt_bool_tuple {K : PySem.W.Frag} : PySem.W.kitOne K (.type "bool") (.type "tuple") = some false := kit_ty (by decide +kernel)
theorem kt_int_tuple {K : PySem.W.Frag} : PySem.W.kitOne K (.type "int") (.type "tuple") = some false := kit_ty (by decide +kernel)
theorem kt_str_tuple {K : PySem.W.Frag} : PySem.W.kitOne K (.type "str") (.type "tuple") = some false := kit_ty (by decide +kernel)
theorem kt_tuple_tuple {K : PySem.W.Frag} : PySem.W.kitOne K (.type "tuple") (.type "tuple") = some true := kit_ty (by decide +kernel)
theorem kt_list_tuple {K : PySem.W.Frag} : PySem.W.kitOne K (.type "list") (.type "tuple") = some false := kit_ty (by decide +kernel)
theorem kt_dict_tuple {K : PySem.W.Frag} : PySem.W.kitOne K (.type "dict") (.type "tuple") = some false := kit_ty (by decide +kernel)
theorem kt_NoneType_str {K : PySem.W.Frag} : PySem.W.kitOne K (.type "NoneType") (.type "str") = some false := kit_ty (by decide +kernel)
theorem kt_bool_str {K : PySem.W.Frag} : PySem.W.kitOne K (.type "bool") (.type "str") = some false := kit_ty (by decide +kernel)
theorem kt_int_str {K : PySem.W.Frag} : PySem.W.kitOne K (.type "int") (.type "str") = some false := kit_ty (by decide +kernel)
theorem kt_str_str {K : PySem.W.Frag} : PySem.W.kitOne K (.type "str") (.type "str") = some true := kit_ty (by decide +kernel)
theorem kt_tuple_str {K : PySem.W.Frag} : PySem.W.kitOne K (.type "tuple") (.type "str") = some false := kit_ty (by decide +kernel)
theorem kt_list_str {K : PySem.W.Frag} : PySem.W.kitOne K (.type "list") (.type "str") = some false := kit_ty (by decide +kernel)
theorem kt_dict_str {K : PySem.W.Frag} : PySem.W.kitOne K (.type "dict") (.type "str") = some false := kit_ty (by decide +kernel)
theorem kt_NoneType_list {K : PySem.W.Frag} : PySem.W.kitOne K (.type "NoneType") (.type "list") = some false := kit_ty (by decide +kernel)
theorem kt_bool_list {K : PySem.W.Frag} : PySem.W.kitOne K (.type "bool") (.type "list") = some false := kit_ty (by decide +kernel)
theorem kt_int_list {K : PySem.W.Frag} : PySem.W.kitOne K (.type "int") (.type "list") = some false := kit_ty (by decide +kernel)
theorem kt_str_list {K : PySem.W.Frag} : PySem.W.kitOne K (.type "str") (.type "list") = some false := kit_ty (by decide +kernel)
theorem kt_tuple_list {K : PySem.W.Frag} : PySem.W.kitOne K (.type "tuple") (.type "list") = some false := kit_ty (by decide +kernel)
theorem kt_list_list {K : PySem.W.Frag} : PySem.W.kitOne K (.type "list") (.type "list") = some true := kit_ty (by decide +kernel)
theorem kt_dict_list {K : PySem.W.Frag} : PySem.W.kitOne K (.type "dict") (.type "list") = some false := kit_ty (by decide +kernel)
theorem kt_NoneType_dict {K : PySem.W.Frag} : PySem.W.kitOne K (.type "NoneType") (.type "dict") = some false := kit_ty (by decide +kernel)
theorem kt_bool_dict {K : PySem.W.Frag} : PySem.W.kitOne K (.type "bool") (.type "dict") = some false := kit_ty (by decide +kernel)
theorem kt_int_dict {K : PySem.W.Frag} : PySem.W.kitOne K (.type "int") (.type "dict") = some false := kit_ty (by decide +kernel)
theorem kt_str_dict {K : PySem.W.Frag} : PySem.W.kitOne K (.type "str") (.type "dict") = some false := kit_ty (by decide +kernel)
theorem kt_tuple_dict {K : PySem.W.Frag} : PySem.W.kitOne K (.type "tuple") (.type "dict") = some false := kit_ty (by decide +kernel)
theorem kt_list_dict {K : PySem.W.Frag} : PySem.W.kitOne K (.type "list") (.type "dict") = some false := kit_ty (by decide +kernel)
theorem kt_dict_dict {K : PySem.W.Frag} : PySem.W.kitOne K (.type "dict") (.type "dict") = some true := kit_ty (by decide +kernel)
local macro_rules | `(tactic| walk_at "ne") => `(tactic| first | assumption | (refine' Ne.symm ?h1; (case h1 => assumption)))
local macro_rules | `(tactic| walk_at "nin") => `(tactic| first | assumption | exact List.not_mem_nil)
local macro_rules | `(tactic| walk_at "hl") => `(tactic| first
  | assumption
  | exact upd_same
  | (refine' hl_new ?h1 ?h2; (case h2 => assumption); (case h1 => walk_at "hl"))
  | (refine' hl_set ?h2 ?h1; (case h2 => walk_at "ne"); (case h1 => walk_at "hl"))
  | (refine' hl_same ?h2 ?h1; (case h2 => assumption); (case h1 => walk_at "hl"))
  | (refine' hl_kp ?h2 ?h3 ?h1; (case h2 => assumption); (case h3 => walk_at "nin"); (case h1 => walk_at "hl")))
local macro_rules | `(tactic| walk_at "sq") => `(tactic| first | assumption | (refine' SqL.of ?h1; (case h1 => walk_at "hl")) | (refine' SqT.of ?h1; (case h1 => walk_at "hl")))
local macro_rules | `(tactic| walk_at "sc") => `(tactic| first | assumption | omega | (dsimp only; omega) | decide | exact .inl ⟨by omega, by omega⟩ | exact .inr ⟨by omega, by omega⟩ | exact ⟨by omega, by decide⟩)
local macro_rules | `(tactic| walk_at "sz") => `(tactic| first | assumption | ((try simp only [List.length_map, List.length_append, List.length_cons, List.length_nil]); have : (1000000 : Nat) ≤ sizeLine := (by decide); omega))
local macro_rules | `(tactic| walk_at "ty") => `(tactic| first | assumption | exact TyX.base (.int _) | exact TyX.base (.bl _) | exact TyX.base .non | exact TyX.base (.str _) | (refine' TyX.base (.tup ?h1); (case h1 => walk_at "hl")) | (refine' TyX.base (.lst ?h1); (case h1 => walk_at "hl")) | (refine' TyX.base (.dK ?h1); (case h1 => walk_at "hl")))
local macro_rules | `(tactic| walk_at "mem") => `(tactic| first | assumption | (simp; done) | (intro _ h; simp at h ⊢; first | exact h | exact .inr h | exact .inr (.inr h) | (rcases h with h | h <;> simp [h])))
local macro_rules | `(tactic| walk_at "stt") => `(tactic| first | assumption | (refine' St.new ?h1 ?h2; (case h2 => assumption); (case h1 => walk_at "stt")) | (refine' St.set ?h1 ?h2; (case h2 => assumption); (case h1 => walk_at "stt")) | (refine' St.same ?h1 ?h2; (case h2 => assumption); (case h1 => walk_at "stt")))
local macro_rules | `(tactic| walk_at "in") => `(tactic| first | assumption | exact List.mem_cons_self | exact List.mem_cons_of_mem _ List.mem_cons_self | exact List.mem_cons_of_mem _ (List.mem_cons_of_mem _ List.mem_cons_self))
local macro_rules | `(tactic| walk_at "kp") => `(tactic| first
  | exact Kp.refl
  | assumption
  | (refine' Kp.trans ?h1 (Kp.new ?h2); (case h2 => assumption); (case h1 => walk_at "kp"))
  | (refine' Kp.trans ?h1 (Kp.set ?h2); (case h2 => walk_at "in"); (case h1 => walk_at "kp"))
  | (refine' Kp.own ?h1 ?h2; (case h2 => assumption); (case h1 => walk_at "kp"))
  | (refine' Kp.trans ?h1 (Kp.sub ?h2 ?h3); (case h2 => assumption); (case h3 => walk_at "mem"); (case h1 => walk_at "kp"))
  | (refine' Kp.trans ?h1 (Kp.ofSame ?h2); (case h2 => assumption); (case h1 => walk_at "kp")))
local macro_rules | `(tactic| walk_at "sm") => `(tactic| first
  | exact Same.refl _
  | assumption
  | (refine' Same.trans ?h1 (Same.upd_new ?h2); (case h2 => assumption); (case h1 => walk_at "sm"))
  | (refine' Same.trans ?h1 ?h2; (case h2 => assumption); (case h1 => walk_at "sm")))
local macro_rules | `(tactic| walk_at "lf") => `(tactic| first
  | exact Lft.refl
  | (refine' Lft.trans ?h1 (Lft.new ?h2); (case h2 => assumption); (case h1 => walk_at "lf"))
  | (refine' Lft.trans ?h1 (Lft.set ?h2); (case h2 => walk_at "in"); (case h1 => walk_at "lf"))
  | (refine' Lft.trans ?h1 (Lft.kp ?h2 ?h3); (case h2 => assumption); (case h3 => walk_at "mem"); (case h1 => walk_at "lf"))
  | (refine' Lft.trans ?h1 (Lft.same ?h2); (case h2 => assumption); (case h1 => walk_at "lf"))
  | (refine' Lft.trans ?h1 (Lft.own ?h2); (case h2 => assumption); (case h1 => walk_at "lf")))
local macro_rules | `(tactic| walk_at "kt") => `(tactic| first | exact kt_NoneType_int | exact kt_bool_int | exact kt_int_int | exact kt_str_int | exact kt_tuple_int | exact kt_list_int | exact kt_dict_int | exact kt_NoneType_bool | exact kt_bool_bool | exact kt_int_bool | exact kt_str_bool | exact kt_tuple_bool | exact kt_list_bool | exact kt_dict_bool | exact kt_NoneType_tuple | exact kt_bool_tuple | exact kt_int_tuple | exact kt_str_tuple | exact kt_tuple_tuple | exact kt_list_tuple | exact kt_dict_tuple | exact kt_NoneType_str | exact kt_bool_str | exact kt_int_str | exact kt_str_str | exact kt_tuple_str | exact kt_list_str | exact kt_dict_str | exact kt_NoneType_list | exact kt_bool_list | exact kt_int_list | exact kt_str_list | exact kt_tuple_list | exact kt_list_list | exact kt_dict_list | exact kt_NoneType_dict | exact kt_bool_dict | exact kt_int_dict | exact kt_str_dict | exact kt_tuple_dict | exact kt_list_dict | exact kt_dict_dict)
local macro_rules | `(tactic| walk_at "st1") => `(tactic| first
  | with_reducible refine r_seq ?_
  | with_reducible refine r_for ?_
  | with_reducible refine r_irng1 ?_
  | ((with_reducible refine r_rg1 ?e1 ?_); (case e1 => omega))
  | with_reducible refine r_irng2 ?_
  | ((with_reducible refine r_rg2 ?e1 ?_); (case e1 => omega))
  | with_reducible refine r_ilist ?_
  | ((with_reducible refine' r_il ?e1 ?_); (case e1 => walk_at "sq"))
  | with_reducible refine r_itup ?_
  | ((with_reducible refine' r_it ?e1 ?_); (case e1 => walk_at "sq"))
  | with_reducible refine r_izip ?_
  | ((with_reducible refine' r_izt ?e1 ?e2 ?_); (case e1 => walk_at "sq"); (case e2 => walk_at "sq"))
  | with_reducible refine r_lc ?_
  | with_reducible refine r_tand ?_
  | with_reducible refine r_tor ?_
  | with_reducible refine r_tnot ?_
  | with_reducible refine r_andv ?_
  | with_reducible refine r_orv ?_
  | with_reducible refine r_notv ?_
  | with_reducible refine r_chain ?_
  | with_reducible refine' r_t ?_
  | with_reducible refine' r_f ?_
  | with_reducible refine r_bm ?_
  | with_reducible refine r_tb ?_
  | with_reducible refine r_yes ?_
  | ((with_reducible refine r_sz ?e1 ?_); (case e1 => rfl))
  | with_reducible refine r_sl ?_
  | ((with_reducible refine' r_sll ?e1 ?_); (case e1 => walk_at "sq"))
  | with_reducible refine r_nopart ?_
  | with_reducible refine r_part ?_
  | with_reducible refine r_parti ?_
  | with_reducible refine r_callk ?_
  | with_reducible refine r_perm (by rfl) (by rfl) ?_
  | ((with_reducible refine' r_nilL ?e1 ?e2 ?_); (case e1 => walk_at "sq"); (case e2 => walk_at "sq"))
  | ((with_reducible refine' r_nilT ?e1 ?e2 ?_); (case e1 => walk_at "sq"); (case e2 => walk_at "sq"))
  | ((with_reducible refine' r_app0 ?e1 ?e2 ?_); (case e1 => walk_at "hl"); (case e2 => walk_at "sz"))
  | ((with_reducible refine' r_ty ?e1 ?_); (case e1 => walk_at "hl"))
  | ((with_reducible refine' r_all ?e1 ?_); (case e1 => walk_at "sq"))
  | ((with_reducible refine' r_sum ?e1 ?_); (case e1 => walk_at "sq"))
  | ((with_reducible refine' r_isi ?e1 ?e2 ?e3 ?_); (case e1 => exact .ty _); (case e2 => walk_at "ty"); (case e3 => walk_at "kt"))
  | with_reducible refine r_asg ?_
  | with_reducible refine r_gname ?_
  | ((with_reducible refine' r_var ?e1 ?_); (case e1 => rfl))
  | with_reducible refine r_c ?_
  | with_reducible refine r_op ?_
  | with_reducible refine r_i0 ?_
  | ((with_reducible refine' r_i ?e1 ?_); (case e1 => walk_at "sc"))
  | ((with_reducible refine' r_ixl ?e1 ?e2 ?_); (case e1 => walk_at "sq"); (case e2 => first | assumption | rfl))
  | ((with_reducible refine' r_ixt ?e1 ?e2 ?_); (case e1 => walk_at "sq"); (case e2 => first | assumption | rfl))
  | with_reducible refine r_cb ?_
  | with_reducible refine r_cons ?_
  | with_reducible refine r_nil ?_
  | ((with_reducible refine' r_len ?e1 ?_); (case e1 => walk_at "sq"))
  | ((with_reducible refine' r_lent ?e1 ?_); (case e1 => walk_at "sq"))
  | with_reducible refine r_abs ?_
  | ((with_reducible refine' r_listl ?e1 ?_); (case e1 => walk_at "sq"))
  | ((with_reducible refine' r_listt ?e1 ?_); (case e1 => walk_at "sq"))
  | ((with_reducible refine' r_tupl ?e1 ?_); (case e1 => walk_at "sq"))
  | ((with_reducible refine' r_tupt ?e1 ?_); (case e1 => walk_at "sq"))
  | with_reducible refine r_ife ?_
  | with_reducible refine r_test ?_
  | with_reducible refine r_bl ?_
  | with_reducible refine r_ret ?_
  | with_reducible refine r_gsub ?_
  | ((with_reducible refine' r_setl ?e1 ?e2 ?_); (case e1 => walk_at "hl"); (case e2 => first | assumption | rfl))
  | with_reducible refine r_next ?_
  | with_reducible refine r_call ?_
  | with_reducible refine r_lst ?_
  | with_reducible refine r_tup ?_
  | with_reducible refine r_drop ?_
  | ((with_reducible refine' r_eq ?e1 ?_); (case e1 => rfl))
  | ((with_reducible refine' r_ne ?e1 ?_); (case e1 => rfl)))
local macro_rules | `(tactic| walk_at "st") => `(tactic| repeat (walk_at "st1"))
local macro_rules | `(tactic| walk_at "if") => `(tactic| ((first | refine r_if ?_ | (simp only []; refine r_if ?_)); walk_at "st"))
structure Tx (K : PySem.W.Frag) (mg : Str → Option Value) (c_PaperReader : Addr) : Prop where
  c_FIGURES : ∃ t, mg "FIGURES" = some (.str "0123456789" t)
  c_MOST_FIGURES : ∃ t, mg "MOST_FIGURES" = some (.int 5 t)
  m_abs : mg "abs" = none
  m_all : mg "all" = none
  m_dict : mg "dict" = none
  m_enumerate : mg "enumerate" = none
  m_int : mg "int" = none
  m_isinstance : mg "isinstance" = none
  m_len : mg "len" = none
  m_range : mg "range" = none
  m_repr : mg "repr" = none
  m_sorted : mg "sorted" = none
  m_str : mg "str" = none
  m_tuple : mg "tuple" = none
  m_zip : mg "zip" = none
  g_PaperReader : mg "PaperReader" = some (.ref c_PaperReader)
  cl_PaperReader : Cls K c_PaperReader
  na_pairs_told : NoAttr K c_PaperReader "pairs_told"
  na_rows_told : NoAttr K c_PaperReader "rows_told"
def topS (i : Nat) : Stmt := PySem.Challenge.pw_onetrace_k85_papers_written_and_read.main.body.getD i (.Pass ⟨0, 0, 0, 0⟩)
abbrev s_has_only : Stmt := topS 5
theorem sc_has_only : FnScope ["text", "signs", "sign"] ["text", "signs"] (defScope s_has_only) := ⟨rfl, rfl, rfl, by decide +kernel, rfl, by decide +kernel, by decide +kernel⟩
abbrev s_read_figures : Stmt := topS 6
theorem sc_read_figures : FnScope ["text", "most"] ["text", "most"] (defScope s_read_figures) := ⟨rfl, rfl, rfl, by decide +kernel, rfl, by decide +kernel, by decide +kernel⟩
abbrev s_text_rows : Stmt := topS 8
theorem sc_text_rows : FnScope ["text", "parts", "rest"] ["text"] (defScope s_text_rows) := ⟨rfl, rfl, rfl, by decide +kernel, rfl, by decide +kernel, by decide +kernel⟩
abbrev s_paper_text : Stmt := topS 11
theorem sc_paper_text : FnScope ["paper", "rows", "number", "other", "row", "n"] ["paper"] (defScope s_paper_text) := ⟨rfl, rfl, rfl, by decide +kernel, rfl, by decide +kernel, by decide +kernel⟩
abbrev s_numbers_told : Stmt := topS 12
theorem sc_numbers_told : FnScope ["words", "numbers", "word"] ["words"] (defScope s_numbers_told) := ⟨rfl, rfl, rfl, by decide +kernel, rfl, by decide +kernel, by decide +kernel⟩
abbrev s_PaperReader___init__ : Stmt := inClass (topS 13) 0
theorem sc_PaperReader___init__ : FnScope ["self"] ["self"] (defScope s_PaperReader___init__) := ⟨rfl, rfl, rfl, by decide +kernel, rfl, by decide +kernel, by decide +kernel⟩
abbrev s_PaperReader_reads : Stmt := inClass (topS 13) 1
theorem sc_PaperReader_reads : FnScope ["self", "row", "words", "numbers"] ["self", "row"] (defScope s_PaperReader_reads) := ⟨rfl, rfl, rfl, by decide +kernel, rfl, by decide +kernel, by decide +kernel⟩
abbrev s_PaperReader_reads_pair : Stmt := inClass (topS 13) 2
theorem sc_PaperReader_reads_pair : FnScope ["self", "pair"] ["self", "pair"] (defScope s_PaperReader_reads_pair) := ⟨rfl, rfl, rfl, by decide +kernel, rfl, by decide +kernel, by decide +kernel⟩
abbrev s_read_paper : Stmt := topS 14
theorem sc_read_paper : FnScope ["text", "rows", "is_whole", "reader", "at", "row", "pair", "told"] ["text"] (defScope s_read_paper) := ⟨rfl, rfl, rfl, by decide +kernel, rfl, by decide +kernel, by decide +kernel⟩
abbrev s_law_state : Stmt := topS 16
theorem sc_law_state : FnScope ["script", "cells", "cell"] ["script"] (defScope s_law_state) := ⟨rfl, rfl, rfl, by decide +kernel, rfl, by decide +kernel, by decide +kernel⟩
abbrev s_law_draw : Stmt := topS 17
theorem sc_law_draw : FnScope ["state", "many", "at", "cell"] ["state", "many"] (defScope s_law_draw) := ⟨rfl, rfl, rfl, by decide +kernel, rfl, by decide +kernel, by decide +kernel⟩
abbrev s_law_number : Stmt := topS 18
theorem sc_law_number : FnScope ["state"] ["state"] (defScope s_law_number) := ⟨rfl, rfl, rfl, by decide +kernel, rfl, by decide +kernel, by decide +kernel⟩
abbrev s_law_paper : Stmt := topS 19
theorem sc_law_paper : FnScope ["state", "made", "k", "rows", "line", "at"] ["state"] (defScope s_law_paper) := ⟨rfl, rfl, rfl, by decide +kernel, rfl, by decide +kernel, by decide +kernel⟩
abbrev s_law_written_out : Stmt := topS 20
theorem sc_law_written_out : FnScope ["sheet", "made", "one", "other", "row", "number"] ["sheet"] (defScope s_law_written_out) := ⟨rfl, rfl, rfl, by decide +kernel, rfl, by decide +kernel, by decide +kernel⟩
abbrev s_law : Stmt := topS 21
theorem sc_law : FnScope ["script", "state", "turn", "sheet", "kept", "wanted", "time", "made", "pair"] ["script"] (defScope s_law) := ⟨rfl, rfl, rfl, by decide +kernel, rfl, by decide +kernel, by decide +kernel⟩
theorem kb_paper_text_0 {K : PySem.W.Frag} {f : Addr} {fd : FuncData} (F : Fun K "paper_text" "paper_text" s_paper_text f fd) : ∀ (us ws : List Value), us.length = 0 → ws.length = 1 → ∀ s : Shared, BindsTo s fd ⟨us, (["paper"] : List Str).zip ws⟩ ((["paper"] : List Str).zip (([0] : List Nat).map fun i => (us ++ ws).getD i .none)) := by
  obtain ⟨oc, od, kV, doc, pm, an, cdv, ct, osl, rfl, lk, hcd⟩ := F.ex
  intro us ws h1 h2 s
  match us, h1, ws, h2 with
  | [], _, [w0], _ => exact .of_eq rfl
theorem kb_read_paper_0 {K : PySem.W.Frag} {f : Addr} {fd : FuncData} (F : Fun K "read_paper" "read_paper" s_read_paper f fd) : ∀ (us ws : List Value), us.length = 0 → ws.length = 1 → ∀ s : Shared, BindsTo s fd ⟨us, (["text"] : List Str).zip ws⟩ ((["text"] : List Str).zip (([0] : List Nat).map fun i => (us ++ ws).getD i .none)) := by
  obtain ⟨oc, od, kV, doc, pm, an, cdv, ct, osl, rfl, lk, hcd⟩ := F.ex
  intro us ws h1 h2 s
  match us, h1, ws, h2 with
  | [], _, [w0], _ => exact .of_eq rfl
/-! ### defs that run while nothing is being shown (repr): the list of guards is empty -/
structure FnG (P : Program) (w : World) (K : PySem.W.Frag) (mg : Str → Option Value) (base : Heap) (k : Nat) (f : Addr) (fd : FuncData) (ps : List Str) (sp : Sp) : Prop where
  len : ∀ vs H Q E, sp vs H Q E → vs.length = ps.length
  run : ∀ (A : Around) (outer : List Env) (s : Shared) (H : Hp) (args : Args) (us : List Value) (vs : List V) (Q : VK) (E : XK), A.guards = some [] → Room k A → Env0 P w K mg base A outer s H → BindsTo s fd args (ps.zip us) → Vals vs us → sp vs H Q E →
    codeAny (model P w) A (.call (.ref f) args) (CR CX0 outer P w H s Q E) s
section
variable {P : Program} {w : World} {K : PySem.W.Frag} {mg : Str → Option Value} {base : Heap}
theorem fnG_of {k : Nat} {x qual : Str} {st : Stmt} {f : Addr} {fd : FuncData} {N ps : List Str} {sp : Sp} (F : Fun K x qual st f fd) (S : FnScope N ps (defScope st)) (hlen : ∀ vs H Q E, sp vs H Q E → vs.length = ps.length)
    (body : ∀ (cdv : Value) (A : Around) (outer : List Env) (s : Shared) (H : Hp) (vs : List V) (Q : VK) (E : XK), A.guards = some [] → Room k (A.deeper (envOfC qual (defScope st) s.heap.objs.size f cdv)) → sp vs H Q E →
      ∃ t, PSs (cxOf CX0 P w K mg base N qual (defScope st) f cdv A outer s H E).nox (defBody st) t ∧ t { nx := fun _ H' => Q .non H', rt := Q } (L2.start N vs) H) : FnG P w K mg base (k + 1) f fd ps sp := by
  obtain ⟨oc, od, kV, doc, pm, an, cdv, ct, osl, rfl, lk, hcd⟩ := F.ex
  refine ⟨hlen, fun A outer s H args us vs Q E hga hr e0 hb r hsp => ?_⟩
  have inK : K.In s.heap := e0.mod.kin.keeps (fun b o q => (e0.bs b o q).1)
  have nl : s.heap.NoLimit := e0.mod.nolimit.keeps (fun b o q => (e0.bs b o q).1)
  have kinds : ∀ y ∈ ps.zip us, (defScope st).names.lookup y.1 = some .local ∨ ((defScope st).names.lookup y.1 = some .cell ∧ ((cellsFrom (s.heap.objs.size + 1) (defScope st).names []).lookup y.1).isSome = true) := by
    intro y hy
    have := S.par y.1 (List.of_mem_zip (a := y.1) (b := y.2) hy).1
    exact this.elim .inl (fun z => .inr ⟨z, PySem.W.cellsFrom_some _ _ _ (.inl z)⟩)
  apply codeAny_call_function hr.depth (inK _ _ lk) rfl S.co S.gen rfl (PySem.W.codeRec_of inK hcd)
  apply hb
  apply wpAny_newFunctionEnv_cells S.kind kinds
  intro env he s1 x
  subst he
  refine ⟨nl.keeps x.toInCall.keep, codeAny_func ?_⟩
  obtain ⟨t, ht, hq⟩ := body cdv A outer s H vs Q E hga (hr.deeper _) hsp
  have J0 := inv_start (CX := CX0) (E := E) S hr.hd e0 (hlen _ _ _ _ hsp) r x
  refine wpAny_mono (ht.nox.run [] s1 (L2.start N vs) H _ J0 hq) (fun fl s' hs => ?_) (fun e s' hs => hs)
  match fl, hs with
  | .ret u, ⟨v, σ', H', J, rv, q⟩ => exact ⟨v, H', J.os, J.bare, J.base, J.hok, rv, q⟩
  | .next, ⟨σ', H', J, q⟩ => exact ⟨V.non, H', J.os, J.bare, J.base, J.hok, rfl, q⟩
  | .brk, ⟨_, _, _, q⟩ => exact q.elim
  | .cont, ⟨_, _, _, q⟩ => exact q.elim
end
/-! ### the law's own call, where nothing is being shown -/
section
variable {P : Program} {w : World} {K : PySem.W.Frag} {mg mb : Str → Option Value} {k : Nat} {fa a : Addr} {fd : FuncData} {x : Str} {sp : Sp} {g0 : Shared} {vs : List Value} {ns : List Int}
/-- from a heap H that tracks nothing but, at most, the script -/
theorem lawG_from (inK : K.In g0.heap) (hns : g0.heap.Ns mainGlobals mg) (hb : g0.heap.Ns builtinsNs mb) (hbb : ∀ x : Str, x ≠ "__name__" → mb x = bootBuiltins x) (nl : g0.heap.NoLimit) (hg : g0.gens = #[])
    (ha : g0.heap.get? a = some { cls := .type "list", data := .seq vs.toArray }) (hr : Room k callerA)
    (F : ∀ base : Heap, K.In base → base.Ns mainGlobals mg → FnG P w K mg base k fa fd [x] sp) (hbind : ∀ (s : Shared) (u : Value), BindsTo s fd ⟨[u], []⟩ [(x, u)])
    (hsp : ∀ H : Hp, Only H → SqL K H a (ns.map V.int) → sp [.ref a] H (fun v _ => v = .bl true) fun _ _ _ => False)
    (H : Hp) (onl : Only H) (script : SqL K H a (ns.map V.int)) (ok : HOk P w H g0.heap) (at_ : ∀ b, H b ≠ none → b = a) (off : H a ≠ none → K.lookup a = none) :
    codeAny (model P w) callerA (.call (.ref fa) ⟨[.ref a], []⟩) (fun r s' => r = .ok (.ret (.bool true)) ∧ OldK g0.heap s'.heap ∧ s'.os = g0.os ∧ AllBare s'.gens) g0 := by
  have free_dict : ∀ (b : Addr) (o : Obj) (es : Array DictEntry) (ep : Nat), g0.heap.get? b = some o → o.data = .dict es ep → H b = none := by
    intro b o es ep e d
    by_cases q : H b = none
    · exact q
    · obtain rfl := at_ b q
      rw [e] at ha
      injection ha with ha
      rw [ha] at d
      cases d
  have to_base : ∀ (b : Addr) (m : Str → Option Value), g0.heap.Ns b m → (hidT g0.heap H).Ns b m := by
    intro b m n
    obtain ⟨o, es, ep, e, d, r⟩ := n
    exact ⟨o, es, ep, hidT_get e (free_dict b o es ep e d), d, r⟩
  have baseK : K.In (hidT g0.heap H) := by
    intro b o e
    refine hidT_get (inK b o e) ?_
    by_cases q : H b = none
    · exact q
    · obtain rfl := at_ b q
      rw [off q] at e
      cases e
  obtain ⟨mc, n1, n2⟩ := nl
  have M : Mod K mg (hidT g0.heap H) := ⟨baseK, to_base _ _ hns, ⟨mb, to_base _ _ hb, hbb⟩, ⟨mc, to_base _ _ n1, n2⟩⟩
  have env : Env0 P w K mg (hidT g0.heap H) callerA [] g0 H :=
    { frames := rfl, mod := M, bs := fun b o e => of_hidT e, bsz := Nat.le_of_eq (hidT_size _ _), funs := trivial, frf := fun b z => (by cases z), hok := ok, bare := .of_eq hg }
  have run := (F _ baseK (to_base _ _ hns)).run callerA [] g0 H ⟨[.ref a], []⟩ [.ref a] [.ref a] _ _ rfl hr env (hbind g0 (.ref a)) (.cons rfl .nil) (hsp H onl script)
  refine codeAny_mono run (fun r s' z => ?_)
  match r, z with
  | .ok (.ret u), z =>
    obtain ⟨v, H', os, bare, un, ok', rv, q⟩ := z
    have q : v = .bl true := q
    subst q
    obtain rfl : u = Value.bool true := rv
    refine ⟨rfl, OldK.of_keep (fun b o e => ?_), os, bare⟩
    by_cases q : H b = none
    · exact un.keep b o e q (by intro z; cases z) (by intro z; cases z)
    · rcases onl b with z | ⟨ob, xs, z⟩
      · exact absurd z q
      · have e1 := (ok b _ z).1
        have e2 := (ok' b _ (un.frzs b ob _ z)).1
        rw [e] at e1
        injection e1 with e1
        rw [e1]
        exact e2
theorem lawG_call (inK : K.In g0.heap) (hns : g0.heap.Ns mainGlobals mg) (hb : g0.heap.Ns builtinsNs mb) (hbb : ∀ x : Str, x ≠ "__name__" → mb x = bootBuiltins x) (nl : g0.heap.NoLimit) (hg : g0.gens = #[])
    (ha : g0.heap.get? a = some { cls := .type "list", data := .seq vs.toArray }) (hi : IntsAre vs ns) (hl : ns.length ≤ sizeLine) (hr : Room k callerA)
    (F : ∀ base : Heap, K.In base → base.Ns mainGlobals mg → FnG P w K mg base k fa fd [x] sp) (hbind : ∀ (s : Shared) (u : Value), BindsTo s fd ⟨[u], []⟩ [(x, u)])
    (hsp : ∀ H : Hp, Only H → SqL K H a (ns.map V.int) → sp [.ref a] H (fun v _ => v = .bl true) fun _ _ _ => False) :
    codeAny (model P w) callerA (.call (.ref fa) ⟨[.ref a], []⟩) (fun r s' => r = .ok (.ret (.bool true)) ∧ OldK g0.heap s'.heap ∧ s'.os = g0.os ∧ AllBare s'.gens) g0 := by
  have rv : Vals (ns.map V.int) vs := vals_ints hi
  have el : vs.length = ns.length := hi.length
  by_cases hk : K.lookup a = none
  · refine lawG_from inK hns hb hbb nl hg ha hr F hbind hsp (fun b => if b = a then some (.frz { cls := .type "list", data := .seq vs.toArray } (.lst (ns.map V.int))) else none) (fun b => ?_) (.inl (.inr ⟨_, if_pos rfl⟩)) (fun b o e => ?_) (fun b z => ?_) (fun _ => hk)
    · by_cases q : b = a
      · exact .inr ⟨_, _, if_pos q⟩
      · exact .inl (if_neg q)
    · by_cases q : b = a
      · subst q
        have e := (if_pos rfl).symm.trans e
        injection e with e
        rw [← e]
        exact ⟨ha, by rw [List.length_map]; exact hl, vs, _, rv, ha⟩
      · have e := (if_neg q).symm.trans e
        cases e
    · by_cases q : b = a
      · exact q
      · exact absurd (if_neg q) z
  · obtain ⟨o, ho⟩ := Option.ne_none_iff_exists'.mp hk
    have e := inK a o ho
    rw [ha] at e
    injection e with e
    subst e
    exact lawG_from inK hns hb hbb nl hg ha hr F hbind hsp (fun _ => none) (fun _ => .inl rfl) (.inr ⟨_, vs.toArray, _, ho, rfl, rfl, rfl, by rw [List.size_toArray, el]; exact hl, by simpa using rv⟩) (fun b o e => by cases e) (fun b z => absurd rfl z) (fun z => absurd rfl z)
end
theorem walkG_of {l : PySem.W.OpenLaw} {n k : Nat} {q : Program} {loose : List Str} {XP : (Str → Option Value) → Heap → Prop} {YP : World → Heap → Prop} {d : DefRec} {K : Params → PySem.W.Frag} {sp : World → Sp} {x : Str}
    (hn : l.most = some n) (hn2 : n ≤ sizeLine) (hdf : d.params.defaults = []) (hr : Room k callerA) (hY : ∀ (w : World) (h : Heap), YP w h → (K w.params).In h)
    (F : ∀ (w : World) (mg : Str → Option Value) (fa : Addr) (h : Heap), (K w.params).In h → h.Ns mainGlobals mg → mg d.name = some (.ref fa) →
      ∃ fd : FuncData, (∀ (s : Shared) (u : Value), BindsTo s fd ⟨[u], []⟩ [(x, u)]) ∧ ∀ base : Heap, (K w.params).In base → base.Ns mainGlobals mg → FnG l.prog w (K w.params) mg base k fa fd [x] (sp w))
    (hsp : ∀ (w : World) (H : Hp) (a : Addr) (ns : List Int), ns.length ≤ n → Only H → SqL (K w.params) H a (ns.map V.int) → sp w [.ref a] H (fun v _ => v = .bl true) fun _ _ _ => False) :
    PySem.W.WalkO q loose XP YP l.row.toRowW d [] (fun f vs => PySem.call f vs) := by
  apply Att.attach_call hn hdf
  intro w s₀ s₁ mg mb fa o pm cd doc a vs ns G Y ho hd hcd hmg hobj hints hlen hg
  obtain ⟨fd, b, f⟩ := F w mg fa _ (hY w _ Y) G.T.g hmg
  exact lawG_call (hY w _ Y) G.T.g G.T.b G.T.builtins G.T.nolimit hg hobj hints (Nat.le_trans hlen hn2) hr f b (fun H o s => hsp w H a ns hlen o s)
/-! ### methods of a class of the program -/
structure CalM (P : Program) (w : World) (K : PySem.W.Frag) (mg : Str → Option Value) (base : Heap) (C : Addr) (x : Str) (k : Nat) (ps : List Str) (sp : Sp) (st : Stmt) (f : Addr) (fd : FuncData) : Prop where
  ok : FnOk P w K mg base CX0 k f fd ps sp
  me : Meth K C x f
  b : Binds K fd ps []
structure CalI (P : Program) (w : World) (K : PySem.W.Frag) (mg : Str → Option Value) (base : Heap) (C : Addr) (x : Str) (k : Nat) (ps : List Str) (sp : Sp) (st : Stmt) (f : Addr) (fd : FuncData) : Prop where
  ok : FnOk P w K mg base CX0 k f fd ps sp
  mkk : Mk K C f
  b : Binds K fd ps []
structure HereM (K : PySem.W.Frag) (C : Addr) (x q : Str) (st : Stmt) (ps : List Str) (f : Addr) (fd : FuncData) : Prop where
  fn : Fun K x q st f fd
  me : Meth K C x f
  b : Binds K fd ps []
structure HereI (K : PySem.W.Frag) (C : Addr) (x q : Str) (st : Stmt) (ps : List Str) (f : Addr) (fd : FuncData) : Prop where
  fn : Fun K x q st f fd
  mkk : Mk K C f
  b : Binds K fd ps []
section
variable {P : Program} {w : World} {K : PySem.W.Frag} {mg : Str → Option Value} {base : Heap}
theorem HereM.cal {C : Addr} {x q : Str} {st : Stmt} {ps N : List Str} {f : Addr} {fd : FuncData} {k : Nat} {sp : Sp} (F : HereM K C x q st ps f fd) (S : FnScope N ps (defScope st)) (len : ∀ vs H Q E, sp vs H Q E → vs.length = ps.length)
    (hbody : ∀ (cdv : Value) (A : Around) (outer : List Env) (s : Shared) (H : Hp) (vs : List V) (Q : VK) (E : XK), Room k (A.deeper (envOfC q (defScope st) s.heap.objs.size f cdv)) → sp vs H Q E →
      ∃ t, PSs (cxOf CX0 P w K mg base N q (defScope st) f cdv A outer s H E).nox (defBody st) t ∧ t { nx := fun _ H' => Q .non H', rt := Q } (L2.start N vs) H) : CalM P w K mg base C x (k + 1) ps sp st f fd :=
  ⟨F.fn.ok S len hbody, F.me, F.b⟩
theorem HereI.cal {C : Addr} {x q : Str} {st : Stmt} {ps N : List Str} {f : Addr} {fd : FuncData} {k : Nat} {sp : Sp} (F : HereI K C x q st ps f fd) (S : FnScope N ps (defScope st)) (len : ∀ vs H Q E, sp vs H Q E → vs.length = ps.length)
    (hbody : ∀ (cdv : Value) (A : Around) (outer : List Env) (s : Shared) (H : Hp) (vs : List V) (Q : VK) (E : XK), Room k (A.deeper (envOfC q (defScope st) s.heap.objs.size f cdv)) → sp vs H Q E →
      ∃ t, PSs (cxOf CX0 P w K mg base N q (defScope st) f cdv A outer s H E).nox (defBody st) t ∧ t { nx := fun _ H' => Q .non H', rt := Q } (L2.start N vs) H) : CalI P w K mg base C x (k + 1) ps sp st f fd :=
  ⟨F.fn.ok S len hbody, F.mkk, F.b⟩
end
theorem pe_fldK {X : Cx} {K : PySem.W.Frag} {e : Expr} {f : Str} {pos : Pos} {ta : TE} (he : PE X e ta) (hb : attributeBase e f X.env (eval e X.env) = eval e X.env) (q : X.K = K := by rfl) : PE X (.Attribute e f pos) (tFld K ta f) := q ▸ pe_fld he hb
theorem ps_fldK {X : Cx} {K : PySem.W.Frag} {o value : Expr} {f : Str} {pos pos' : Pos} {ta tv : TE} (ha : PE X o ta) (hv : PE X value tv) (hs : swapsWith value (some (.Attribute o f pos')) pos.line X.env = pure false) (q : X.K = K := by rfl) : PS X (.Assign [.Attribute o f pos'] value pos) (sFld K ta tv f) := q ▸ ps_fld ha hv hs
def FldR (K : PySem.W.Frag) (f : Str) (Q : VK) (x : V) (H1 : Hp) : Prop := ∃ a C dx fs v, x = .ref a ∧ H1 a = some (.ins C dx fs) ∧ Cls K C ∧ NoAttr K C f ∧ fs.lookup f = some v ∧ Q v H1
def SfR (K : PySem.W.Frag) (f : Str) (D : Ends) (σ : L2.St) (y x : V) (H2 : Hp) : Prop := ∃ a C dx fs, x = .ref a ∧ H2 a = some (.ins C dx fs) ∧ Cls K C ∧ NoAttr K C f ∧ fs.length < 1000 ∧ D.nx σ (upd H2 a (.ins C dx (putF f y fs)))
section
variable {K : PySem.W.Frag} {σ : L2.St} {H : Hp} {Q : VK} {D : Ends}
theorem r_fld {ta : TE} {f : Str} (h : ta σ H (FldR K f Q)) : tFld K ta f σ H Q := h
theorem r_fldr {f : Str} {p C dx : Addr} {fs : List (Str × V)} {v : V} (hp : H p = some (.ins C dx fs)) (c : Cls K C) (n : NoAttr K C f) (l : fs.lookup f = some v) (q : Q v H) : FldR K f Q (.ref p) H := ⟨p, C, dx, fs, v, rfl, hp, c, n, l, q⟩
theorem r_sfld {ta tv : TE} {f : Str} (h : tv σ H fun y H1 => ta σ H1 (SfR K f D σ y)) : sFld K ta tv f D σ H := h
theorem r_sfr {f : Str} {p C dx : Addr} {fs : List (Str × V)} {y : V} (hp : H p = some (.ins C dx fs)) (c : Cls K C) (n : NoAttr K C f) (l : fs.length < 1000) (q : D.nx σ (upd H p (.ins C dx (putF f y fs)))) : SfR K f D σ y (.ref p) H := ⟨p, C, dx, fs, rfl, hp, c, n, l, q⟩
end
section
variable {K : PySem.W.Frag} {D : Ends} {σ : L2.St} {H : Hp} {Q : VK}
theorem r_par {i j : Nat} {ta : TA} (h : ta σ H fun vs H1 => ∃ v w, vs = [v, w] ∧ D.nx ((σ.set i (some v)).set j (some w)) H1) : tPar i j ta D σ H := h
theorem r_parx {v w : V} {R : V → V → Prop} (h : R v w) : ∃ v' w', [v, w] = [v', w'] ∧ R v' w' := ⟨v, w, rfl, h⟩
theorem r_gtup {n : Nat} {t : TGs} {a : Addr} {xs : List V} {N : L2.St → Hp → Prop} (h : SqT K H a xs) (e : xs.length = n) (q : t xs σ H N) : gTup K n t (.ref a) σ H N := ⟨a, xs, rfl, h, e, q⟩
theorem r_gcons {t : TG} {u : TGs} {v : V} {r : List V} {N : L2.St → Hp → Prop} (q : t v σ H fun σ' H' => u r σ' H' N) : gCons t u (v :: r) σ H N := ⟨v, r, rfl, q⟩
theorem r_gnil {N : L2.St → Hp → Prop} (q : N σ H) : gNil [] σ H N := ⟨rfl, q⟩
end
section
variable {K : PySem.W.Frag} {σ : L2.St} {H : Hp} {Q : VK}
theorem walk_zipL {a b : Addr} {xs ys : List V} {n : Nat} (hn : n = min xs.length ys.length) : Walk (Itz K a b) n (fun H => SqL K H a xs ∧ SqL K H b ys) (YPair (fun i => xs[i]?) (fun i => ys[i]?)) where
  goes := fun i H hi h => ⟨xs, ys, xs[i]'(by omega), ys[i]'(by omega), h.1, h.2, List.getElem?_eq_getElem (by omega), List.getElem?_eq_getElem (by omega)⟩
  stops := fun H h => ⟨xs, ys, h.1, h.2, by omega⟩
  yields := fun i H x H' _ h y => by
    obtain ⟨T, x1, y1, e1, e2, e3, e4, e5⟩ := y
    exact ⟨T, x1, y1, e1, e2, e3, e4 xs h.1, e5 ys h.2⟩
theorem r_izl {R : It → Hp → Prop} {a b : Addr} {xs ys : List V} (e1 : SqL K H a xs) (e2 : SqL K H b ys) (h : R (Itz K a b) H) : IzR K R [.ref a, .ref b] H := ⟨a, b, xs, ys, rfl, .inl ⟨e1, e2, h⟩⟩
end
/-! ### sorted(d), the keys of d pairs of ints -/
def pairAt (H : Hp) : V → Int × Int
  | .ref t => match H t with
    | some (.tup [.int i, .int j]) => (i, j)
    | _ => (0, 0)
  | _ => (0, 0)
theorem pairAt_is {H : Hp} {t : Addr} {i j : Int} (h : H t = some (.tup [.int i, .int j])) : pairAt H (.ref t) = (i, j) := by
  show (match H t with
    | some (.tup [.int i, .int j]) => (i, j)
    | _ => (0, 0)) = (i, j)
  rw [h]
def rSortDT : List V → Hp → VK → Prop := fun xs H Q => ∃ (d : Addr) (kvs : List (List Key × V)), xs = [V.ref d] ∧ Rd H d (.dT kvs) ∧ (∀ kv ∈ kvs, ∃ i j, kv.1 = [Sum.inl i, Sum.inl j]) ∧
  ∀ (bs : List Addr) ys p, IsKeys H kvs bs → SrtO.Srtd (ltP (pairAt H)) ys → SrtO.Stb (ltP (pairAt H)) ys (bs.map V.ref) → H p = none → Q (.ref p) (upd H p (.lst ys))
theorem cr_sortDT {X : Cx} (hc : X.calm = true) : CallR X (.builtin "sorted") rSortDT := by
  intro pins s σ H xs us Q I r h
  obtain ⟨d, kvs, rfl, hd, hp, q⟩ := h
  obtain ⟨u, rfl, rx⟩ := r.one
  cases rx
  obtain ⟨z, hs, ks, pr, o, es, ep, ho, hx, hdt, he, hn⟩ := (show ObjOk X.prog X.w H s.heap d (.dT kvs) from hd.ok I.hok)
  have l1 : es.size = ks.length := size_of_entries he
  have l2 : kvs.length = ks.length := Paired.length pr
  refine Calls.call_function_entry PyProof.Rows.kind_sorted PyProof.Rows.plain_sorted PyProof.Rows.entry_sorted (PyProof.Rows.args_sorted1 _) ?_
  unfold Builtin.«sorted»
  refine wpAny_bind (m := checkCount "sorted" 1 1 _) (wpAny_pure ?_)
  refine wpAny_bind (PySem.W.kdu_collect (A := X.A.in1) (kdl_raw hs hx hdt) (I.ok.hd hc) ho (by omega) fun h' tk acc' hk it => ?_)
  have ea : acc'.toList = ks.map fun x => Value.ref x.2.1 := by
    have hl : acc'.toList.length = ks.length := by rw [Array.length_toList, it.1]; exact l1
    apply List.ext_getElem?
    intro j
    rw [List.getElem?_map]
    cases hj : acc'.toList[j]? with
    | none =>
      have h1 := List.getElem?_eq_none_iff.mp hj
      rw [List.getElem?_eq_none (by omega)]
      all_goals rfl
    | some v =>
      obtain ⟨en, hen, hv⟩ := it.2 j v (by rw [← Array.getElem?_toList]; exact hj)
      have qe := entry_at he j
      rw [hen] at qe
      cases hb : ks[j]? with
      | none =>
        rw [hb] at qe
        exact nomatch (show some en = none from qe)
      | some b =>
        rw [hb] at qe
        have e2 : en = entryOfKey (tupleKind (mixKind X.prog X.w)) b := Option.some.inj qe
        rw [hv, e2]
        all_goals rfl
  have eb : acc'.toList = (ks.map fun x => x.2.1).map Value.ref := by rw [ea, List.map_map]; all_goals rfl
  have hz : acc'.toList.length ≤ sizeLine := by rw [eb, List.length_map, List.length_map]; omega
  have I1 : Inv X pins σ H { s with heap := h', toks := tk } := I.kept hk
  refine wpAny_bind (wpAny_newList ?_ hz)
  have hoL : (h'.push (seqObj "list" acc'.toList.toArray 0)).get? h'.objs.size = some (seqObj "list" acc'.toList.toArray 0) := Heap.get?_push_size _ rfl
  show wpAny _ _ _ _ _ { s with heap := h'.push (seqObj "list" acc'.toList.toArray 0), toks := tk }
  have ik := isKeys_of pr
  have mk : ∀ v ∈ acc'.toList, ∃ t i j, v = Value.ref t ∧ H t = some (.tup [.int i, .int j]) := by
    rw [eb]
    clear hn he hdt hx ho l1 l2 it ea eb hz hoL
    intro v hv
    obtain ⟨t, ht, rfl⟩ := List.mem_map.mp hv
    have all : ∀ {kvs : List (List Key × V)} {bs : List Addr}, IsKeys H kvs bs → (∀ kv ∈ kvs, ∃ i j, kv.1 = [Sum.inl i, Sum.inl j]) → ∀ t ∈ bs, ∃ i j, H t = some (.tup [.int i, .int j]) := by
      intro kvs bs ik
      induction ik with
      | nil => intro _ t m; cases m
      | @cons p b ps bs hq _ ih =>
        intro hp t m
        rcases List.mem_cons.mp m with e | m
        · subst e
          obtain ⟨i, j, e⟩ := hp p List.mem_cons_self
          rw [e] at hq
          exact ⟨i, j, hq⟩
        · exact ih (fun kv m => hp kv (List.mem_cons_of_mem _ m)) t m
    obtain ⟨i, j, e⟩ := all ik hp t ht
    exact ⟨t, i, j, rfl, e⟩
  refine wpAny_bind (wpAny_holding (wpAny_call_entry PyProof.Rows.slot_list_sort ⟨_, hoL, rfl⟩ PyProof.Rows.entry_list_sort
    (SrtO.list_sort_ord (ltv := fun v u => SrtO.lexB (pairAt H (backV v)) (pairAt H (backV u))) (SrtO.swo_lex fun u => pairAt H (backV u)) hoL hz (fun h2 => SrtO.pairs_sortableO (k := fun u => pairAt H (backV u)) (by omega) (fun v hv => ?_) (fun o e c => ?_)) fun out hs hb => ⟨_, rfl, ?_⟩) (PyProof.Rows.args_list_sort _)))
  · obtain ⟨t, i, j, rfl, ht⟩ := mk v hv
    obtain ⟨_, its2, r2, o, ho, hc, n, hd⟩ := I1.hok _ _ ht
    obtain ⟨u1, u2, rfl, ri, rj⟩ := vals2 r2
    obtain ⟨t1, rfl⟩ := ri
    obtain ⟨t2, rfl⟩ := rj
    show Srt.IsPair _ (Value.ref t) (pairAt H (.ref t)).1 (pairAt H (.ref t)).2
    rw [pairAt_is ht]
    exact ⟨t, o, t1, t2, n, rfl, Heap.get?_push_of_some _ ho, hc, hd⟩
  · have e' : some o = some (seqObj "list" acc'.toList.toArray 0) := e.symm.trans hoL
    cases e'
    exact absurd (Value.type.inj c) (by decide)
  · have h3 : ∀ u ∈ out, ∃ a, u = Value.ref a := fun u hu => by
      obtain ⟨t, _, _, e, _⟩ := mk u (hb.perm.mem_iff.mp hu)
      exact ⟨t, e⟩
    obtain ⟨e', he'⟩ := PyProof.Rows.sortedHeap_at (vs := acc'.toList) (out := out.toArray) hoL
    have hb2 : SrtO.Stb (ltP (pairAt H)) (out.map backV) ((ks.map fun x => x.2.1).map V.ref) := by
      have e5 : (ks.map fun x => x.2.1).map V.ref = acc'.toList.map backV := by
        rw [eb, List.map_map, List.map_map, List.map_map]; rfl
      rw [e5]
      exact SrtO.Stb.map (ltP_swo (pairAt H)) backV hb
    have hlen : (out.map backV).length ≤ sizeLine := by
      rw [List.length_map, hb.perm.length_eq]; exact hz
    refine wpAny_pure ⟨_, rfl, .ref h'.objs.size, upd H h'.objs.size (.lst (out.map backV)), I1.laid (t' := tk) (fun b u e => ?_) (Nat.le_refl _)
      (show ObjOk X.prog X.w _ _ _ (.lst (out.map backV)) from ⟨hlen, out, e', vals_back h3, he'⟩), rfl, q _ _ _ ik (SrtO.srtd_map hs) hb2 (I1.hok.fresh (Nat.le_refl _))⟩
    have hb : b < h'.objs.size := Heap.lt_size e
    rw [PyProof.Rows.sortedHeap_old (Nat.ne_of_lt hb) (by rw [PyProof.Rows.size_push']; exact Nat.lt_succ_of_lt hb)]
    exact Heap.get?_push_of_some _ e
/-! ### dicts with tuple keys that hold the same: == and != -/
namespace DTQ
section
variable {prog : Program} {w : World} {K : Type} [DecidableEq K] {knd : HeapKind prog w K} {A : Around} {E : Value → Shared → Prop} {s : Shared}
inductive Hits (A : Around) (s : Shared) (xb : List (K × Addr × Value)) : List (K × Addr × Value) → Prop
  | nil : Hits A s xb []
  | hit {k : K} {a : Addr} {v : Value} {q : Addr × Value} {r : List (K × Addr × Value)} : atKey xb k = some q → SeqAt.EqAt A s v q.2 true → Hits A s xb r → Hits A s xb ((k, a, v) :: r)
theorem samePairsH {nm : String} {a b : Addr} {xa xb : List (K × Addr × Value)} {Q : Bool → Shared → Prop} (hu : knd.room A) (ha : (a == sysModules) = false) (hb : (b == sysModules) = false)
    (da : s.heap.DictOfH knd a xa) (db : s.heap.DictOfH knd b xb) (hl : xa.length = xb.length) (hits : Hits A s xb xa) (h : Q true s) :
    wpAny (model prog w) A (Builtin.Dict.samePairs nm a b) Q E s := by
  obtain ⟨oa, es, ep, hoa, _, hda, hea, hisa, _⟩ := da
  obtain ⟨ob, es', ep', hob, _, hdb, heb, hisb, hnb⟩ := db
  have hla : es.size = xa.length := size_of_entries hea
  have hlb : es'.size = xb.length := size_of_entries heb
  have hsz : es.size = es'.size := by omega
  unfold Builtin.Dict.samePairs Builtin.Dict.showsAll
  rw [if_neg (show ¬ (a == sysModules) = true by rw [ha]; exact Bool.false_ne_true), if_neg (show ¬ (b == sysModules) = true by rw [hb]; exact Bool.false_ne_true)]
  refine wpAny_bind (wpAny_pure (wpAny_bind (wpAny_pure ?_)))
  refine wpAny_bind (wpAny_dictEntries hoa hda ?_)
  dsimp only
  refine wpAny_bind (wpAny_dictEntries hob hdb ?_)
  rw [if_neg (by rw [hsz]; simp)]
  refine wpAny_bind (wpAny_dictEpoch hoa hda ?_)
  refine wpAny_bind ?_
  rw [Std.Legacy.Range.forIn_eq_forIn_range']
  simp only [Std.Legacy.Range.size, Nat.sub_zero, Nat.add_sub_cancel, Nat.div_one]
  refine wpAny_forIn_list _
    (fun rest q s' => s' = s ∧ q = (none, ()) ∧ ∃ i, rest = List.range' i (es.size - i) ∧ i ≤ es.size ∧ Hits A s xb (xa.drop i))
    _ ?_ ?_ _ _ ⟨rfl, rfl, 0, by simp, Nat.zero_le _, hits⟩
  · rintro x rest q s' ⟨rfl, rfl, i, hr, hi, hpre⟩
    have hlt : i < es.size := by
      rcases Nat.lt_or_ge i es.size with h | h
      · exact h
      · rw [Nat.sub_eq_zero_of_le h] at hr; simp at hr
    obtain ⟨rfl, hrest⟩ : x = i ∧ rest = List.range' (i + 1) (es.size - (i + 1)) := by
      have e : es.size - i = (es.size - (i + 1)) + 1 := by omega
      rw [e, List.range'_succ] at hr
      injection hr with h1 h2
      exact ⟨h1, h2⟩
    have hlt' : x < xa.length := by omega
    obtain ⟨k, ad, v, hkv⟩ : ∃ k ad v, xa[x] = (k, ad, v) := ⟨_, _, _, rfl⟩
    have hdrop : xa.drop x = (k, ad, v) :: xa.drop (x + 1) := by rw [← hkv]; exact List.drop_eq_getElem_cons hlt'
    have hent : es[x]? = some (entryOfKey knd (k, ad, v)) := by rw [entry_at hea x, List.getElem?_eq_getElem hlt', hkv]; rfl
    refine wpAny_bind (wpAny_dictEntries hoa hda ?_)
    rw [hent]
    have hkey : knd.is s'.heap k ad := by
      have := hisa xa[x] (List.getElem_mem hlt')
      rw [hkv] at this
      exact this
    rw [hdrop] at hpre
    cases hpre with
    | @hit _ _ _ qq _ hq he hrr =>
      show wpAny _ _ (holding [Value.ref ad, v] _ >>= _) _ _ _
      refine wpAny_bind (wpAny_holding (wpAny_bind (wpAny_dictFind_heap hu hkey hob hdb heb hisb hnb (fun hno => ?_) fun j p hj => ?_)))
      · rw [atKey_none_of_get hno] at hq; exact nomatch hq
      · rw [atKey_of_get hnb hj] at hq
        have ep2 : p = qq := Option.some.inj hq
        subst ep2
        refine wpAny_bind (wpAny_dictEntries hob hdb ?_)
        rw [entry_at heb j, hj]
        refine wpAny_holding (he prog w _ _ ?_)
        show wpAny _ _ (if (!true) = true then _ else _) _ _ _
        rw [if_neg (by decide)]
        refine wpAny_bind (wpAny_dictEpoch hoa hda ?_)
        rw [if_neg (by simp)]
        exact wpAny_pure ⟨rfl, rfl, x + 1, hrest, hlt, hrr⟩
  · rintro q s' ⟨rfl, rfl, i, hr, hi, hpre⟩
    exact wpAny_pure h
theorem neH {a b : Addr} {xa xb : List (K × Addr × Value)} {Q : Value → Shared → Prop} (hur : knd.room A.in1) (ha : (a == sysModules) = false) (hb : (b == sysModules) = false)
    (da : s.heap.DictOfH knd a xa) (db : s.heap.DictOfH knd b xb) (hu : A.units < cLine) (hl : xa.length = xb.length) (hits : Hits A.in1 s xb xa) (h : Q (.bool false) s) :
    wpAny (model prog w) A (compareOp .NotEq (.ref a) (.ref b)) Q E s := by
  refine wpAny_richCompare_same_room (op := .NotEq) da.typeIs db.typeIs PySem.F.slot_dict_ne (wpAny_call_entry PySem.F.slot_dict_ne da.typeIs PySem.F.entry_dict_ne ?_ (PySem.F.args_dict_ne_2 _ _)) hu
  show wpAny _ _ (Builtin.Dict.dictSlotArgs "__ne__" ⟨[.ref a, .ref b], []⟩ >>= _) _ _ s
  refine wpAny_bind ?_
  unfold Builtin.Dict.dictSlotArgs
  refine wpAny_bind (wpAny_notOrdered_dict da.typeIs ?_)
  show wpAny _ _ (pure (Value.ref a, Value.ref b)) _ _ s
  refine wpAny_pure ?_
  refine wpAny_bind (wpAny_isInstance (T := "dict") db.typeIs PySem.F.sub_dict_dict ?_)
  simp only [Bool.not_true, Bool.false_eq_true, if_false]
  refine wpAny_bind (wpAny_pure (wpAny_bind (wpAny_pure ?_)))
  refine wpAny_bind (samePairsH hur ha hb da db hl hits ?_)
  refine wpAny_pure ⟨_, rfl, ?_, ?_⟩
  · exact fun x => nomatch x
  · simpa using h
end
end DTQ
def rNeDT (K : PySem.W.Frag) : V → V → Hp → VK → Prop := fun x y H Q => ∃ (a b : Addr) (ka kb : List (List Key × V)), x = .ref a ∧ y = .ref b ∧ H a = some (.dT ka) ∧ H b = some (.dT kb) ∧ ka.length = kb.length ∧
  (∀ kv ∈ ka, ∃ v' d, valV kb kv.1 = some v' ∧ Dp K H kv.2 d ∧ Dp K H v' d ∧ d.canLay0 = true ∧ d.depth ≤ 40) ∧ Q (.bl false) H
theorem op_neDT {X : Cx} (hu : X.A.units + 64 < cLine) : OpR X (compareOp .NotEq) (rNeDT X.K) := by
  intro pins s σ H x y u v Q I rx ry h
  obtain ⟨a, b, ka, kb, rfl, rfl, hA, hB, hl, hv, q⟩ := h
  cases (show u = Value.ref a from rx)
  cases (show v = Value.ref b from ry)
  obtain ⟨_, na, xa, relA, da⟩ := dt_of I.hok hA
  obtain ⟨_, nb, xb, relB, db⟩ := dt_of I.hok hB
  have ha : ∀ {ks : List (List Key × V)} {xs : List (List Key × Addr × Value)}, KT H ks xs → (∀ kv ∈ ks, ∃ v' d, valV kb kv.1 = some v' ∧ Dp X.K H kv.2 d ∧ Dp X.K H v' d ∧ d.canLay0 = true ∧ d.depth ≤ 40) → DTQ.Hits X.A.in1 s xb xs := by
    intro ks xs r
    induction r with
    | nil => intro _; exact .nil
    | @cons p qq ps qs hq _ ih =>
      intro hv
      obtain ⟨v', d, e1, d1, d2, sh, dp⟩ := hv p List.mem_cons_self
      obtain ⟨k, ad, vv⟩ := qq
      obtain ⟨e0, _, r0⟩ := hq
      obtain ⟨w', hw, rw'⟩ := RelO.some_of (v := v') (o := (atKey xb p.1).map (·.2)) (by rw [← e1]; exact relB.val p.1)
      obtain ⟨pp, hp, hp2⟩ := Option.map_eq_some_iff.mp hw
      obtain ⟨as, ra⟩ := Dp.reads I d _ _ d1 r0
      obtain ⟨bs, rb⟩ := Dp.reads I d _ _ d2 rw'
      refine .hit (q := pp) (by rw [← hp, e0]) ?_ (ih fun kv m => hv kv (List.mem_cons_of_mem _ m))
      rw [hp2]
      have e := SeqAt.eqAt_reads d d X.A.in1 s _ _ as bs ra rb sh sh (by rw [Nat.min_self]; show X.A.units + 1 + d.depth < cLine; omega)
      rwa [SeqAt.eqv_refl d sh] at e
  refine DTQ.neH (tupleKind_room_in1 (by omega)) na nb da db (by omega) (by rw [← Paired.length relA, ← Paired.length relB]; exact hl) (ha relA hv) ⟨.bl false, H, I, rfl, q⟩
theorem op_neDTK {X : Cx} {K : PySem.W.Frag} (hu : X.A.units + 64 < cLine) (q : X.K = K := by rfl) : OpR X (compareOp .NotEq) (rNeDT K) := q ▸ op_neDT hu
/-! ### d.clear() of a dict with tuple keys -/
theorem meets_clearH {prog : Program} {w : World} {K : Type} [DecidableEq K] {knd : HeapKind prog w K} {d : Addr} :
    MeetsIn prog w (Builtin.«dict.clear» ⟨[.ref d], []⟩) (fun _ R s => ∃ xs, s.heap.DictOfH knd d xs ∧ xs.length ≤ sizeLine ∧
      ∀ h', h'.DictOfH knd d [] → Heap.SameBut d s.heap h' → R (.ok (.ret .none)) { s with heap := h' }) :=
  .of_wp fun A R s ⟨xs, hm, hsz, h⟩ => by
    obtain ⟨o, es, ep, ho, hc, hdat, he, his, hn⟩ := id hm
    have hes : es.size ≤ sizeLine := by have e1 := size_of_entries he; omega
    unfold Builtin.«dict.clear»
    refine wpAny_bind ?_
    unfold Builtin.Dict.noArgs
    refine wpAny_bind (wpAny_notOrdered_dict hm.typeIs ?_)
    show wpAny _ _ (pure d) _ _ s
    refine wpAny_pure ?_
    refine wpAny_bind (wpAny_dictEntries ho hdat ?_)
    refine wpAny_bind ?_
    unfold bearsInstanceDictMark
    refine wpAny_bind (wpAny_load ho (wpAny_pure ?_))
    refine wpAny_bind (wpAny_updateDictKeys (hz := hes) ho hdat ?_)
    have hnew : (s.heap.update d (Obj.mapDictKeys fun _ => #[])).DictOfH knd d [] :=
      ⟨_, _, ep + 1, Heap.get?_update_self _ ho (Obj.isFreed_of_dict (Obj.data_mapDictKeys hdat _)), hc.mapDictKeys _, Obj.data_mapDictKeys hdat _, rfl, fun x hx => by simp at hx, List.nodup_nil⟩
    split
    · exact wpAny_bind (wpAny_letGo (wpAny_pure ⟨.none, rfl, h _ hnew (Heap.SameBut.update ..)⟩))
    · exact wpAny_bind (wpAny_pure (wpAny_pure ⟨.none, rfl, h _ hnew (Heap.SameBut.update ..)⟩))
def rDClearT : V → List V → Hp → VK → Prop := fun x vs H Q => ∃ (a : Addr) (kvs : List (List Key × V)), x = .ref a ∧ vs = [] ∧ H a = some (.dT kvs) ∧ Q .non (upd H a (.dT []))
theorem mtd_clearT {X : Cx} : MtR X "dict.clear" rDClearT := by
  intro pins s σ H x vs v us Q I rx rv h
  obtain ⟨a, kvs, ex, ev, e, q⟩ := h
  subst ex
  subst ev
  obtain rfl : v = Value.ref a := rx
  have hus := rv.zero
  subst hus
  obtain ⟨z, hd, xs, rel, dd⟩ := dt_of I.hok e
  refine call_meetsIn PySem.F.slot_dict_clear dd.typeIs PySem.F.entry_dict_clear (PySem.F.args_dict_clear_1 _) (meets_clearH (knd := tupleKind (mixKind X.prog X.w))) ⟨xs, dd, by rw [← Paired.length rel]; exact z, fun h' dd' hs => ?_⟩
  obtain ⟨q2, es, ep, hq, h2, h3, h4, _, h5⟩ := dd'
  exact ⟨.non, _, d_write (t' := s.toks) (ob := .dT []) I (by rw [e]; exact True.intro) hs ⟨q2, hq⟩ ⟨Nat.zero_le _, hd, [], .nil, q2, es, ep, hq, h2, h3, h4, h5⟩, rfl, q⟩
/-! ### {k: v for ..} where the keys are tuples -/
def tDcT (wi : TI) (g : TG) (tt : TT) (tk tv : TE) (vs : List Nat) : TE := fun σ H Q => wi σ H fun J H1 => ∀ D, H1 D = none → ∃ Wv : Nat → Nat → Hp → Prop, (∃ m, Wv 0 m (upd H1 D (.dT []))) ∧
  ∀ i m H, Wv i m H → (J.stop i H ∧ Q (.ref D) H) ∨ (J.go i H ∧ ∃ Nx : Hp → Prop, (∀ H', Nx H' → ∃ m', m' < m ∧ Wv (i + 1) m' H') ∧ ∀ x H', J.yld i H x H' → g x (wipe σ vs) H' fun σ2 H2 =>
    wipe σ2 vs = wipe σ vs ∧ tt σ2 H2 fun b H3 => if b = true then tk σ2 H3 fun y H4 => tv σ2 H4 fun z H5 => ∃ kvs k q, y = .ref q ∧ H5 q = some (.tup (k.map kV)) ∧ H5 D = some (.dT kvs) ∧ kvs.length < sizeLine ∧ Nx (upd H5 D (.dT (putK kvs k z))) else Nx H3)
theorem dT_store {X : Cx} {pins : List (Addr × Obj)} {σ : L2.St} {H : Hp} {s : Shared} {E : Value → Shared → Prop} {D q : Addr} {kvs : List (List Key × V)} {k : List Key} {v : V} {r : Value} {Q : Unit → Shared → Prop} (hu : X.A.units < cLine)
    (I : Inv X pins σ H s) (hD : H D = some (.dT kvs)) (hq : H q = some (.tup (k.map kV))) (hz : kvs.length < sizeLine) (rv : RelV v r) (fin : ∀ s', Inv X pins σ (upd H D (.dT (putK kvs k v))) s' → Q () s') : wpAny (model X.prog X.w) X.A (dictSet D (.ref q) r) Q E s := by
  obtain ⟨l0, n0, xs, rel, dd⟩ := dt_of I.hok hD
  refine wpAny_dictSet_heap (hsz := by rw [← Paired.length rel]; exact l0) (show (tupleKind (mixKind X.prog X.w)).room X.A from hu) (key_of I.hok hq) dd fun h' ⟨o, es, ep, ho, x1, x2, x3, _, x4⟩ sb => fin _ (d_write I (by rw [hD]; exact True.intro) sb ⟨o, ho⟩ ⟨by have := length_putK kvs k v; omega, n0, _, (rel.put k hq rv).keeps fun c ys ec => ?_, o, es, ep, ho, x1, x2, x3, x4⟩)
  rw [upd_ne (ne_of ec hD fun z => nomatch z)]; exact ec
section
variable {X : Cx}
theorem dcT_core {pins : List (Addr × Obj)} {s : Shared} {σ : L2.St} {H : Hp} {Q : VK} {kx vx tg iter : Expr} {ifs : List Expr} {scope : Scope} {own : List (Str × Nat)} {pos pos' : Pos} {wi : TI} {g : TG} {tt : TT} {tk tv : TE} {use : Option (Value → Sem Unit)} {Qf : Value → Shared → Prop}
    (hu : X.A.units < cLine) (hc : X.calm = true) (hN : X.N.Nodup) (I : Inv X pins σ H s) (hi : PI X tg iter wi) (ok : BlkOk X.N X.env.scope scope own)
    (hg : ∀ (s : Shared) (H : Hp) (C : Addr) (cl : List (Str × Addr)) (fp : List Addr), PG (X.blk s H scope (compEnvC scope cl C X.env) fp) tg g)
    (ht : ∀ (s : Shared) (H : Hp) (C : Addr) (cl : List (Str × Addr)) (fp : List Addr), PTs (X.blk s H scope (compEnvC scope cl C X.env) fp) ifs tt)
    (hk : ∀ (s : Shared) (H : Hp) (C : Addr) (cl : List (Str × Addr)) (fp : List Addr), PE (X.blk s H scope (compEnvC scope cl C X.env) fp) kx tk)
    (he : ∀ (s : Shared) (H : Hp) (C : Addr) (cl : List (Str × Addr)) (fp : List Addr), PE (X.blk s H scope (compEnvC scope cl C X.env) fp) vx tv) (hs : ∀ x, foldedSetIterable iter X.env x = pure x)
    (h : tDcT wi g tt tk tv (own.map (·.2)) σ H Q)
    (last : ∀ D C s' m H', Inv X pins σ H' s' → Q (.ref D) H' → s'.heap.Ns C m → FpOk X pins H' C → compPost (model X.prog X.w) X.A X.xe use Qf (.ref D) C (.ok .next) s') :
    wpAny (model X.prog X.w) X.A (comprehension (.DictComp kx vx [⟨tg, iter, ifs, 0⟩] scope pos) scope X.env pos' newDict false (eval iter X.env) use) Qf X.xe s := by
  have free : ∀ y ∈ scope.names, y.2 = .free → ∃ c, X.env.cells.lookup y.1 = some c := fun y hy e => (ok.free y hy e).elim (fun k => I.ok.has _ (.inl k)) fun k => I.ok.has _ (.inr k)
  refine wpAny_comprehension_free (use := use) rfl hs (closure_ok free) ok.kind (fun y hy e => by rw [ok.uniq y hy, e]) (thn (hi.run pins s σ H _ I h) fun _ sa hx => thn hx fun _ sb ⟨it, fp, tn, J, Hb, eit, Ib, T, stb, fb, q⟩ => ?_)
  subst eit
  refine wpAny_newObj_type (newEnv_comp ?_)
  generalize hD : sb.heap.objs.size = D
  obtain ⟨Wv, ⟨m0, w0⟩, turn⟩ := q D (Ib.hok.fresh (Nat.le_of_eq hD))
  generalize hsc : ({ sb with heap := sb.heap.push { cls := .type "dict", data := .dict #[] } } : Shared) = sc
  have hpc : sc.heap = sb.heap.push { cls := .type "dict", data := .dict #[] } := by rw [← hsc]
  have Ic : Inv X pins σ (upd Hb D (.dT [])) sc := by
    rw [← hsc]
    exact Ib.laid (t' := sb.toks) (fun b o e => Heap.get?_push_of_some _ e) (Nat.le_of_eq hD) (by rw [← hD]; exact dt_empty sb.heap Ib.big)
  have fc : ∀ b ∈ fp, FpOk X pins (upd Hb D (.dT [])) b ∧ b < sc.heap.objs.size := fun b hb => by
    have lt : b < sb.heap.objs.size := (T.obj _ _ stb b hb).elim fun o z => Heap.lt_size z.1
    exact ⟨⟨by rw [upd_ne (by rw [← hD]; exact Nat.ne_of_lt lt)]; exact (fb b hb).1, (fb b hb).2⟩, by rw [hpc, Heap.size_push]; exact Nat.lt_succ_of_lt lt⟩
  have stc : tn 0 sc.heap := T.keep _ _ _ stb fun b _ o e => by rw [hpc]; exact Heap.get?_push_of_some _ e
  have Id := block_start Ic ok hN fc
  have parts := And.intro (hg sc (upd Hb D (.dT [])) sc.heap.objs.size (cellsFrom (sc.heap.objs.size + 1) scope.names (cloFrom X.env.cells scope.names [])) fp) <| And.intro (ht sc (upd Hb D (.dT [])) sc.heap.objs.size (cellsFrom (sc.heap.objs.size + 1) scope.names (cloFrom X.env.cells scope.names [])) fp) <|
    And.intro (hk sc (upd Hb D (.dT [])) sc.heap.objs.size (cellsFrom (sc.heap.objs.size + 1) scope.names (cloFrom X.env.cells scope.names [])) fp) (he sc (upd Hb D (.dT [])) sc.heap.objs.size (cellsFrom (sc.heap.objs.size + 1) scope.names (cloFrom X.env.cells scope.names [])) fp)
  show codeAny _ _ (.compStart (.DictComp kx vx [⟨tg, iter, ifs, 0⟩] scope pos) 0 (.ref it) (.ref D) (compEnvC scope (cellsFrom (sc.heap.objs.size + 1) scope.names (cloFrom X.env.cells scope.names [])) sc.heap.objs.size X.env)) (compPost (model X.prog X.w) X.A X.xe use Qf (.ref D) sc.heap.objs.size)
    { sc with heap := pushCells (sc.heap.push { cls := .type "dict", data := .dict #[] }) scope.names }
  have none0 : ∀ b ∈ fp, (upd Hb D (.dT [])) b = none := fun b hb => (fc b hb).1.1
  generalize hce : compEnvC scope (cellsFrom (sc.heap.objs.size + 1) scope.names (cloFrom X.env.cells scope.names [])) sc.heap.objs.size X.env = ce at Id parts ⊢
  have hloc : ce.locals = sc.heap.objs.size := by subst hce; rfl
  generalize hHc : upd Hb D (.dT []) = Hc at Ic Id parts w0 none0 fc
  generalize hsd : ({ sc with heap := pushCells (sc.heap.push { cls := .type "dict", data := .dict #[] }) scope.names } : Shared) = sd at Id ⊢
  obtain ⟨pg, pt, pk, pe⟩ := parts
  have std : tn 0 sd.heap := T.keep _ _ _ stc fun b _ o e => by rw [← hsd]; exact pushCells_keeps _ _ _ _ (Heap.get?_push_of_some _ e)
  have stays : ∀ {σ' : L2.St} {H' : Hp} {s' : Shared}, Inv (X.blk sc Hc scope ce fp) [] σ' H' s' → (∀ b ∈ fp, H' b = none) → ∀ b ∈ fp, FpOk (X.blk sc Hc scope ce fp) [] H' b := fun {σ' H' s'} I' hn b hb =>
    ⟨hn b hb, (I'.ok.exf b hb).1, I'.ok.exfs b hb, .inl hb, fun x c e => (I'.ok.exf b hb).2 x c e, fun p hp => absurd (show p ∈ ([] : List (Addr × Obj)) ++ [] from hp) (by simp)⟩
  suffices loop : codeAny (model X.prog X.w) X.A (.compLoop (.DictComp kx vx [⟨tg, iter, ifs, 0⟩] scope pos) 0 (.ref it) (.ref D) ce) (compPost (model X.prog X.w) X.A X.xe use Qf (.ref D) sc.heap.objs.size) sd from codeAny_compStart_dict loop (T.self X.A 0 _ _ _ std loop)
  refine compLoop_anyD (fun n s' => ∃ i H', Inv (X.blk sc Hc scope ce fp) [] (wipe σ (own.map (·.2))) H' s' ∧ tn i s'.heap ∧ (∀ b ∈ fp, H' b = none) ∧ Wv i n H') (fun n se ⟨i, He, Ie, ste, ne, we⟩ => ?_) m0 ⟨0, Hc, Id, std, none0, w0⟩
  rcases turn i n He we with ⟨stop, qq⟩ | ⟨go, Nx, hNx, step⟩
  · refine thnF (T.done (X.blk sc Hc scope ce fp) rfl rfl rfl hc i [] se _ He (fun _ _ => False) Ie (stays Ie ne) ste stop) fun r sf ⟨hr, If⟩ => ?_
    subst hr
    have Ig : Inv X pins σ He sf := Ic.call' (ch := fp) If.os If.base If.hok If.bare fun b hb => ⟨(fc b hb).1.2.2.2.1, (fc b hb).1.2.1, (fc b hb).1.2.2.2.2.1, (fc b hb).1.2.2.2.2.2⟩
    obtain ⟨m, hn, _⟩ := If.loc
    have hn : sf.heap.Ns sc.heap.objs.size m := hloc ▸ hn
    exact last D _ sf m He Ig qq hn (Ic.fpOk (Nat.le_refl _) (hloc ▸ (show He ce.locals = none from If.free)))
  · refine thnF (T.item (X.blk sc Hc scope ce fp) rfl rfl rfl hc i [] se _ He (fun _ _ => False) Ie (stays Ie ne) ste go) fun r sf ⟨u, hr, h6⟩ => ?_
    subst hr
    refine thnF h6 fun _ sg ⟨x, Hg, Ig, rg, yg, stg, ng⟩ => thnF (pg.run _ sg _ Hg x u _ (Ig.pinned (stays Ig ng) (T.obj _ _ stg)) rg (step x Hg yg)) fun _ sh ⟨σh, Hh, Ih, wh, qh⟩ => thnF (pt.run _ sh σh Hh _ Ih qh) fun b sj ⟨Hj, Ij, qj⟩ => ?_
    have turned : ∀ {s' : Shared} {H' : Hp}, Inv (X.blk sc Hc scope ce fp) ([] ++ pinsAt fp sg.heap) σh H' s' → Nx H' → ∃ m, m < n ∧ ∃ i H', Inv (X.blk sc Hc scope ce fp) [] (wipe σ (own.map (·.2))) H' s' ∧ tn i s'.heap ∧ (∀ b ∈ fp, H' b = none) ∧ Wv i m H' := fun {s' H'} I' nx => by
      obtain ⟨m', lt, w'⟩ := hNx H' nx
      have pinned : ∀ b ∈ fp, ∀ o, sg.heap.get? b = some o → s'.heap.get? b = some o ∧ H' b = none := fun b hb o e => ⟨(I'.pin (b, o) (List.mem_append_right _ (List.mem_append_right _ (mem_pinsAt hb e)))).1, (I'.pin (b, o) (List.mem_append_right _ (List.mem_append_right _ (mem_pinsAt hb e)))).2.1⟩
      refine ⟨m', lt, i + 1, H', (I'.unpinned (pins := [])).weak (by rw [← wh, wipe_length]) (fun j v e => by rw [← wh] at e; exact (wipe_some e).1), T.keep _ _ _ stg fun b hb o e => (pinned b hb o e).1, fun b hb => ?_, w'⟩
      exact (T.obj _ _ stg b hb).elim fun o z => (pinned b hb o z.1).2
    cases b with
    | false =>
      rw [if_neg (by decide)] at qj ⊢
      exact turned Ij qj
    | true =>
      rw [if_pos rfl] at qj ⊢
      refine thnF (pk.run _ sj σh Hj _ Ij qj) fun z sk ⟨yk, Hk, Ik, rk, qk⟩ => thnF (pe.run _ sk σh Hk _ Ik qk) fun z2 sl ⟨yv, Hl, Il, rl, kvs, k, q, ek, hq, hDl, hz, nx⟩ => ?_
      subst ek
      cases (show z = Value.ref q from rk)
      exact dT_store (X := X.blk sc Hc scope ce fp) hu Il hDl hq hz rl fun sm Im => turned Im nx
theorem pe_dcT {kx vx tg iter : Expr} {ifs : List Expr} {scope : Scope} {own : List (Str × Nat)} {pos : Pos} {wi : TI} {g : TG} {tt : TT} {tk tv : TE} (hu : X.A.units < cLine) (hc : X.calm = true) (hN : X.N.Nodup) (hi : PI X tg iter wi) (ok : BlkOk X.N X.env.scope scope own)
    (hg : ∀ (s : Shared) (H : Hp) (C : Addr) (cl : List (Str × Addr)) (fp : List Addr), PG (X.blk s H scope (compEnvC scope cl C X.env) fp) tg g)
    (ht : ∀ (s : Shared) (H : Hp) (C : Addr) (cl : List (Str × Addr)) (fp : List Addr), PTs (X.blk s H scope (compEnvC scope cl C X.env) fp) ifs tt)
    (hk : ∀ (s : Shared) (H : Hp) (C : Addr) (cl : List (Str × Addr)) (fp : List Addr), PE (X.blk s H scope (compEnvC scope cl C X.env) fp) kx tk)
    (he : ∀ (s : Shared) (H : Hp) (C : Addr) (cl : List (Str × Addr)) (fp : List Addr), PE (X.blk s H scope (compEnvC scope cl C X.env) fp) vx tv) (hs : ∀ x, foldedSetIterable iter X.env x = pure x := by intro _; rfl) :
    PE X (.DictComp kx vx [⟨tg, iter, ifs, 0⟩] scope pos) (tDcT wi g tt tk tv (own.map (·.2))) := ⟨fun pins s σ H Q I h => by
  rw [arm_eval_DictComp]
  exact dcT_core hu hc hN I hi ok hg ht hk he hs h fun D C s' m H' I' q hn f => ⟨m, hn, fun h'' sb => ⟨.ref D, H', I'.turned (t' := s'.toks) (fun b o hb e => (sb.2 b hb).trans e) f.1 f.2.1 f.2.2.2.1 f.2.2.2.2.1 f.2.2.2.2.2, rfl, q⟩⟩⟩
end
theorem dcT_by {J : It} {n : Nat} {G : Hp → Prop} {Yd : Nat → Hp → V → Hp → Prop} (w : Walk J n G Yd) {g : TG} {tt : TT} {tk tv : TE} {vs : List Nat} {σ : L2.St} {H1 : Hp} {D : Addr} {Qd : Hp → Prop} (Pv : Nat → Hp → Prop) (h0 : Pv 0 (upd H1 D (.dT []))) (hG : ∀ i H, i ≤ n → Pv i H → G H)
    (hs : ∀ i x H H', i < n → Pv i H → Yd i H x H' → g x (wipe σ vs) H' fun σ2 H2 => wipe σ2 vs = wipe σ vs ∧ tt σ2 H2 fun b H3 =>
      if b = true then tk σ2 H3 fun y H4 => tv σ2 H4 fun z H5 => ∃ kvs k q, y = .ref q ∧ H5 q = some (.tup (k.map kV)) ∧ H5 D = some (.dT kvs) ∧ kvs.length < sizeLine ∧ Pv (i + 1) (upd H5 D (.dT (putK kvs k z))) else Pv (i + 1) H3)
    (hd : ∀ H, Pv n H → Qd H) : ∃ Wv : Nat → Nat → Hp → Prop, (∃ m, Wv 0 m (upd H1 D (.dT []))) ∧ ∀ i m H, Wv i m H → (J.stop i H ∧ Qd H) ∨ (J.go i H ∧ ∃ Nx : Hp → Prop, (∀ H', Nx H' → ∃ m', m' < m ∧ Wv (i + 1) m' H') ∧
      ∀ x H', J.yld i H x H' → g x (wipe σ vs) H' fun σ2 H2 => wipe σ2 vs = wipe σ vs ∧ tt σ2 H2 fun b H3 =>
        if b = true then tk σ2 H3 fun y H4 => tv σ2 H4 fun z H5 => ∃ kvs k q, y = .ref q ∧ H5 q = some (.tup (k.map kV)) ∧ H5 D = some (.dT kvs) ∧ kvs.length < sizeLine ∧ Nx (upd H5 D (.dT (putK kvs k z))) else Nx H3) := by
  refine ⟨fun i m H => m = n - i ∧ i ≤ n ∧ Pv i H, ⟨n, by rw [Nat.sub_zero], Nat.zero_le _, h0⟩, fun i m H ⟨em, hi, p⟩ => ?_⟩
  rcases Nat.lt_or_ge i n with lt | ge
  · exact .inr ⟨w.goes i H lt (hG i H hi p), Pv (i + 1), fun H' p' => ⟨n - (i + 1), by omega, rfl, lt, p'⟩, fun x H' y => hs i x H H' lt p (w.yields i H x H' lt (hG i H hi p) y)⟩
  · obtain rfl : i = n := by omega
    exact .inl ⟨w.stops H (hG _ H hi p), hd H p⟩
def DcR (g : TG) (tt : TT) (tk tv : TE) (vs : List Nat) (σ : L2.St) (Q : VK) (J : It) (H1 : Hp) : Prop := ∀ D, H1 D = none → ∃ Wv : Nat → Nat → Hp → Prop, (∃ m, Wv 0 m (upd H1 D (.dT []))) ∧
  ∀ i m H, Wv i m H → (J.stop i H ∧ Q (.ref D) H) ∨ (J.go i H ∧ ∃ Nx : Hp → Prop, (∀ H', Nx H' → ∃ m', m' < m ∧ Wv (i + 1) m' H') ∧ ∀ x H', J.yld i H x H' → g x (wipe σ vs) H' fun σ2 H2 =>
    wipe σ2 vs = wipe σ vs ∧ tt σ2 H2 fun b H3 => if b = true then tk σ2 H3 fun y H4 => tv σ2 H4 fun z H5 => ∃ kvs k q, y = .ref q ∧ H5 q = some (.tup (k.map kV)) ∧ H5 D = some (.dT kvs) ∧ kvs.length < sizeLine ∧ Nx (upd H5 D (.dT (putK kvs k z))) else Nx H3)
theorem r_dcT {wi : TI} {g : TG} {tt : TT} {tk tv : TE} {vs : List Nat} {σ : L2.St} {H : Hp} {Q : VK} (h : wi σ H (DcR g tt tk tv vs σ Q)) : tDcT wi g tt tk tv vs σ H Q := h
/-! ### repr of a dict with tuple keys -/
def keyD : Key → PyData
  | .inl i => .int i
  | .inr z => .str z
mutual
def boxless : PyData → Bool
  | .tuple xs => boxlessAll xs
  | .list _ => false
  | .dict _ => false
  | .none => true
  | .bool _ => true
  | .int _ => true
  | .str _ => true
def boxlessAll : List PyData → Bool
  | [] => true
  | x :: xs => boxless x && boxlessAll xs
end
mutual
theorem reads_nil {h : Heap} : ∀ (d : PyData) (v : Value) (as : List Addr), boxless d = true → Reads h v d as → as = []
  | .none, _, _, _, r => by cases r; rfl
  | .bool _, _, _, _, r => by cases r; rfl
  | .int _, _, _, _, r => by cases r; rfl
  | .str _, _, _, _, r => by cases r; rfl
  | .list _, _, _, b, _ => by rw [boxless] at b; cases b
  | .dict _, _, _, b, _ => by rw [boxless] at b; cases b
  | .tuple xs, _, as, b, r => by
    rw [boxless] at b
    cases r with
    | tuple _ _ _ q => exact readsAll_nil xs _ as b q
theorem readsAll_nil {h : Heap} : ∀ (ds : List PyData) (vs : List Value) (as : List Addr), boxlessAll ds = true → ReadsAll h vs ds as → as = []
  | [], _, _, _, r => by cases r; rfl
  | d :: ds, _, _, b, r => by
    rw [boxlessAll, Bool.and_eq_true] at b
    cases r with
    | @cons _ _ _ _ as bs q1 q2 => rw [reads_nil d _ as b.1 q1, readsAll_nil ds _ bs b.2 q2]; rfl
end
def dtD (kvs : List (List Key × V)) (ds : List PyData) : PyData := .dict (List.zipWith (fun kv d => (PyData.tuple (kv.1.map keyD), d)) kvs ds)
def rReprDT (K : PySem.W.Frag) : List V → Hp → VK → Prop := fun xs H Q => ∃ (a : Addr) (kvs : List (List Key × V)) (ds : List PyData), xs = [.ref a] ∧ Rd H a (.dT kvs) ∧ DpAll K H (kvs.map (·.2)) ds ∧ boxlessAll ds = true ∧
  (dtD kvs ds).showable = true ∧ (dtD kvs ds).depth ≤ 40 ∧ (dtD kvs ds).shown.length ≤ sizeLine ∧ Q (.str (dtD kvs ds).shown) H
theorem DpAll.key {K : PySem.W.Frag} {H : Hp} : ∀ k : List Key, DpAll K H (k.map kV) (k.map keyD)
  | [] => .nil
  | .inl i :: k => .cons (.int i) (DpAll.key k)
  | .inr z :: k => .cons (.str z) (DpAll.key k)
theorem boxless_key : ∀ k : List Key, boxlessAll (k.map keyD) = true
  | [] => by rw [List.map_nil, boxlessAll]
  | .inl i :: k => by rw [List.map_cons, boxlessAll, boxless_key k]; show boxless (.int i) && true = true; rw [boxless]; rfl
  | .inr z :: k => by rw [List.map_cons, boxlessAll, boxless_key k]; show boxless (.str z) && true = true; rw [boxless]; rfl
theorem dpAll_len {K : PySem.W.Frag} {H : Hp} : ∀ {vs : List V} {ds : List PyData}, DpAll K H vs ds → vs.length = ds.length
  | _, _, .nil => rfl
  | _, _, .cons _ t => by rw [List.length_cons, List.length_cons, dpAll_len t]
theorem kt_vals {H : Hp} {kvs : List (List Key × V)} {xs : List (List Key × Addr × Value)} (r : KT H kvs xs) : Vals (kvs.map (·.2)) (xs.map fun x => x.2.2) := by
  induction r with
  | nil => exact .nil
  | cons h _ ih => exact .cons h.2.2 ih
theorem kt_keysR {X : Cx} {pins : List (Addr × Obj)} {σ : L2.St} {H : Hp} {s : Shared} (I : Inv X pins σ H s) {kvs : List (List Key × V)} {xs : List (List Key × Addr × Value)} (r : KT H kvs xs) : ReadsAll s.heap (xs.map fun x => Value.ref x.2.1) (kvs.map fun kv => PyData.tuple (kv.1.map keyD)) [] := by
  induction r with
  | nil => exact .nil
  | @cons p q ps qs h _ ih =>
    obtain ⟨as, ra⟩ := Dp.reads I (.tuple (p.1.map keyD)) (.ref q.2.1) (.ref q.2.1) (.tup (SqT.of h.2.1) (DpAll.key p.1)) rfl
    have e := reads_nil _ _ as (by rw [boxless]; exact boxless_key p.1) ra
    subst e
    exact .cons (as := []) (bs := []) ra ih
theorem zip_fst {α β γ : Type} (f : α → γ) : ∀ {l : List α} {m : List β}, l.length = m.length → (List.zipWith (fun a b => (f a, b)) l m).map (·.1) = l.map f
  | [], [], _ => rfl
  | a :: l, b :: m, h => by rw [List.zipWith_cons_cons, List.map_cons, List.map_cons, zip_fst f (by simpa using h)]
  | [], _ :: _, h => by simp at h
  | _ :: _, [], h => by simp at h
theorem zip_snd {α β γ : Type} (f : α → γ) : ∀ {l : List α} {m : List β}, l.length = m.length → (List.zipWith (fun a b => (f a, b)) l m).map (·.2) = m
  | [], [], _ => rfl
  | a :: l, b :: m, h => by rw [List.zipWith_cons_cons, List.map_cons, zip_snd f (by simpa using h)]
  | [], _ :: _, h => by simp at h
  | _ :: _, [], h => by simp at h
theorem cr_reprDT {X : Cx} (hg : X.A.guards = some []) (hu : X.A.units + 64 < cLine) : CallR X (.builtin "repr") (rReprDT X.K) := by
  intro pins s σ H xs us Q I r h
  obtain ⟨a, kvs, ds, rfl, hd, dp, bx, sh, dep, sz, q⟩ := h
  rw [Vals.ref1 r]
  obtain ⟨_, na, ks, pr, o, es, ep, ho, hx, hdt, he, _⟩ := (show ObjOk X.prog X.w H s.heap a (.dT kvs) from hd.ok I.hok)
  obtain ⟨bs, rv⟩ := Dp.readsAll I ds _ _ dp (kt_vals pr)
  have e := readsAll_nil ds _ bs bx rv
  subst e
  have l : kvs.length = ds.length := by rw [← dpAll_len dp, List.length_map]
  have e1 : es.toList.map (·.key) = ks.map fun x => Value.ref x.2.1 := by rw [he, List.map_map]; rfl
  have e2 : es.toList.map (·.val) = ks.map fun x => x.2.2 := by rw [he, List.map_map]; rfl
  have rd : Reads s.heap (.ref a) (dtD kvs ds) (a :: [] ++ []) := .dict ho hx.1 hdt (by rw [e1, zip_fst _ l]; exact kt_keysR I pr) (by rw [e2, zip_snd _ l]; exact rv)
  refine repr_of_reads' rd sh (fun _ m => ?_) hg (by omega) (fun _ _ e => e) (fun h' u tk kp => ⟨.str _, H, I.kept kp, ⟨_, rfl⟩, q⟩) sz
  rw [List.append_nil, List.mem_singleton] at m
  rw [m] at na
  simp at na
theorem cr_reprDTK {X : Cx} {K : PySem.W.Frag} (hg : X.A.guards = some []) (hu : X.A.units + 64 < cLine) (q : X.K = K := by rfl) : CallR X (.builtin "repr") (rReprDT K) := q ▸ cr_reprDT hg hu
/-! ### repr of a list of data, where nothing is being shown -/
def rRepr (K : PySem.W.Frag) : List V → Hp → VK → Prop := fun xs H Q => ∃ (a : Addr) (d : PyData), xs = [.ref a] ∧ Dp K H (.ref a) d ∧ d.showable = true ∧ d.hasDict = false ∧ d.depth ≤ 40 ∧ d.shown.length ≤ sizeLine ∧ Q (.str d.shown) H
theorem cr_repr {X : Cx} (hg : X.A.guards = some []) (hu : X.A.units + 64 < cLine) : CallR X (.builtin "repr") (rRepr X.K) := by
  intro pins s σ H xs us Q I r h
  obtain ⟨a, d, rfl, hd, sh, nd, dep, sz, q⟩ := h
  rw [Vals.ref1 r]
  obtain ⟨as, rr⟩ := Dp.reads I d _ _ hd (show L2.RelV (.ref a) (Value.ref a) from rfl)
  exact repr_of_reads' rr sh (fun z => by rw [nd] at z; cases z) hg (by omega) (fun _ _ e => e) (fun h' u tk kp => ⟨.str _, H, I.kept kp, ⟨_, rfl⟩, q⟩) sz
theorem cr_reprK {X : Cx} {K : PySem.W.Frag} (hg : X.A.guards = some []) (hu : X.A.units + 64 < cLine) (q : X.K = K := by rfl) : CallR X (.builtin "repr") (rRepr K) := q ▸ cr_repr hg hu
def show2 (b1 b2 : Bool) : Str := PyData.shown (.list [.bool b1, .bool b2])
def show4 (b1 b2 b3 b4 : Bool) : Str := PyData.shown (.list [.bool b1, .bool b2, .bool b3, .bool b4])
theorem show2_len (b1 b2 : Bool) : (show2 b1 b2).length ≤ sizeLine := by cases b1 <;> cases b2 <;> decide +kernel
theorem show4_len (b1 b2 b3 b4 : Bool) : (show4 b1 b2 b3 b4).length ≤ sizeLine := by cases b1 <;> cases b2 <;> cases b3 <;> cases b4 <;> decide +kernel
section
variable {K : PySem.W.Frag} {H : Hp} {Q : VK}
theorem r_repr2 {a : Addr} {b1 b2 : Bool} (h : SqL K H a [.bl b1, .bl b2]) (q : Q (.str (show2 b1 b2)) H) : rRepr K [.ref a] H Q :=
  ⟨a, _, rfl, .lst h (.cons (.bl b1) (.cons (.bl b2) .nil)), rfl, rfl, Nat.le_of_ble_eq_true rfl, show2_len b1 b2, q⟩
theorem r_repr4 {a : Addr} {b1 b2 b3 b4 : Bool} (h : SqL K H a [.bl b1, .bl b2, .bl b3, .bl b4]) (q : Q (.str (show4 b1 b2 b3 b4)) H) : rRepr K [.ref a] H Q :=
  ⟨a, _, rfl, .lst h (.cons (.bl b1) (.cons (.bl b2) (.cons (.bl b3) (.cons (.bl b4) .nil)))), rfl, rfl, Nat.le_of_ble_eq_true rfl, show4_len b1 b2 b3 b4, q⟩
end
local macro_rules | `(tactic| walk_at "st1") => `(tactic| first
  | with_reducible refine r_par ?_
  | with_reducible refine r_parx ?_
  | ((with_reducible refine' r_gtup ?e1 ?e2 ?_); (case e1 => walk_at "sq"); (case e2 => rfl))
  | with_reducible refine r_gcons ?_
  | with_reducible refine r_gnil ?_
  | with_reducible refine r_ient ?_
  | ((with_reducible refine' r_ent ?e1 ?_); (case e1 => walk_at "sq")))
local macro_rules | `(tactic| walk_at "st1") => `(tactic| first
  | with_reducible refine' r_nt ?_
  | with_reducible refine' r_nf ?_
  | with_reducible refine r_un ?_
  | with_reducible refine r_u ?_)
theorem getElem?_map_int {ns : List Int} {i : Nat} {x : V} (e : (ns.map V.int)[i]? = some x) : ∃ n, ns[i]? = some n ∧ x = .int n := by
  rw [List.getElem?_map] at e
  cases h : ns[i]? with
  | none => rw [h] at e; cases e
  | some n => rw [h] at e; exact ⟨n, rfl, (Option.some.inj e).symm⟩
theorem list_ext_int {ys : List V} {ms : List Int} (hl : ys.length = ms.length) (h : ∀ (i : Nat) (y : V), ys[i]? = some y → ∃ m, ms[i]? = some m ∧ y = V.int m) : ys = ms.map V.int := by
  apply List.ext_getElem?
  intro i
  cases e : ys[i]? with
  | none =>
    rw [List.getElem?_eq_none_iff] at e
    rw [List.getElem?_eq_none_iff.mpr (by rw [List.length_map]; omega)]
  | some y =>
    obtain ⟨m, h1, rfl⟩ := h i y e
    rw [List.getElem?_map, h1]; rfl
/-! ### the law's own: draws, rows -/
def sp_law_state (K : PySem.W.Frag) : Sp := fun vs H Q _ => ∃ (a : Addr) (ns : List Int), vs = [.ref a] ∧ SqL K H a (ns.map .int) ∧ ns.length ≤ 63 ∧
  ∀ s c H', Same H H' → St s c H' → Q (.ref s) H'
def sp_law_draw (_ : PySem.W.Frag) : Sp := fun vs H Q _ => ∃ (s c : Addr) (m : Int), vs = [.ref s, .int m] ∧ St s c H ∧ (0 < m ∧ m < 1073741824) ∧
  ∀ d H', Kp [s, c] H H' → St s c H' → 0 ≤ d ∧ d < m → Q (.int d) H'
theorem St.nil0 {s c : Addr} {H : Hp} (h : St s c H) : H s ≠ none ∧ H c ≠ none := by
  obtain ⟨_, cs, j, r, h⟩ := h
  exact ⟨by rw [h.hs]; simp, by rw [h.hc]; simp⟩
theorem ints_of_all {p : Int → Prop} : ∀ {ys : List V}, (∀ y ∈ ys, ∃ n : Int, y = .int n ∧ p n) → ∃ cs : List Int, ys = cs.map .int ∧ ∀ n ∈ cs, p n
  | [], _ => ⟨[], rfl, by simp⟩
  | y :: ys, h => by
    obtain ⟨n, rfl, hn⟩ := h y List.mem_cons_self
    obtain ⟨cs, rfl, hc⟩ := ints_of_all (ys := ys) fun z hz => h z (List.mem_cons_of_mem _ hz)
    exact ⟨n :: cs, rfl, fun m hm => by
      rcases List.mem_cons.mp hm with rfl | hm
      · exact hn
      · exact hc m hm⟩
theorem atI_in {α : Type} {xs : List α} {i : Int} (h0 : 0 ≤ i) (h1 : i < xs.length) : ∃ v, atI xs i = some v ∧ v ∈ xs := by
  obtain ⟨j, rfl⟩ : ∃ j : Nat, i = j := ⟨i.toNat, by omega⟩
  have h2 : j < xs.length := by omega
  exact ⟨xs[j], atI_nat (List.getElem?_eq_getElem h2), List.getElem_mem h2⟩
section
variable {P : Program} {w : World} {K : PySem.W.Frag} {mg : Str → Option Value} {base : Heap}
theorem ok_law_draw {c_PaperReader : Addr} (T : Tx K mg c_PaperReader)  {f : Addr} {fd : FuncData} (F : Here K mg "_law_draw" s_law_draw ["state", "many"] f fd) : Cal P w K mg base "_law_draw" 1 ["state", "many"] (sp_law_draw K) s_law_draw f fd := by
  refine F.cal sc_law_draw (fun vs H Q E h => ?_) (fun cdv A outer s H vs Q E hr h => ?_)
  · obtain ⟨s, c, m, rfl, _⟩ := h
    rfl
  · obtain ⟨s, c, m, rfl, hst, ⟨m0, m1⟩, q⟩ := h
    refine ⟨_, (pss_cons (ps_set (i := 2) sc_law_draw.nd rfl (by first | exact .inl rfl | exact .inr rfl) (pe_op op_mod (pe_ix (ix_listK (K := K)) (pv 0) pe_int (fun _ _ => rfl)) (pe_callB (cr_lenK (K := K)) (by rfl) T.m_len (by decide +kernel) (pa_cons (pe_ix (ix_listK (K := K)) (pv 0) pe_int (fun _ _ => rfl)) pa_nil))))
      (pss_cons (ps_set (i := 3) sc_law_draw.nd rfl (by first | exact .inl rfl | exact .inr rfl) (pe_ix (ix_listK (K := K)) (pe_ix (ix_listK (K := K)) (pv 0) pe_int (fun _ _ => rfl)) (pv 2) (fun _ _ => rfl)))
      (pss_cons (ps_if (pt_cmpR op_ge (pv 3) (pe_op op_pow pe_int pe_int) (nomark _)) (pss_cons (ps_asg (pe_op op_fdivW (pv 3) (pv 1)) (pg_sub (pe_ix (ix_listK (K := K)) (pv 0) pe_int (fun _ _ => rfl)) (pv 2) set_list))
      (pss_one (ps_ret (pe_op op_mod (pv 3) (pv 1))))) pss_nil)
      (pss_cons (ps_asg (pe_op op_add (pe_ix (ix_listK (K := K)) (pv 0) pe_int (fun _ _ => rfl)) pe_int) (pg_sub (pv 0) pe_int set_list))
      (pss_cons (ps_asg (pe_op op_mod (pe_op op_add (pe_op op_add (pe_op op_mul (pe_ix (ix_listK (K := K)) (pv 0) pe_int (fun _ _ => rfl)) pe_int) (pv 3)) pe_int) pe_int) (pg_sub (pv 0) pe_int set_list))
      (pss_one (ps_ret (pe_op op_mod (pe_op op_fdivW (pe_op op_mod (pe_op op_mul (pe_ix (ix_listK (K := K)) (pv 0) pe_int (fun _ _ => rfl)) (pe_ix (ix_listK (K := K)) (pv 0) pe_int (fun _ _ => rfl))) pe_int) pe_int) (pv 1))))))))), ?_⟩
    obtain ⟨hne, cs, j, r, hs, hc, ne, nn, len, hj, hr0, hr1⟩ := hst
    have hl : 0 < (cs.map V.int).length := by rw [List.length_map]; exact List.length_pos_iff.mpr ne
    obtain ⟨i, hi, ei⟩ : ∃ i : Nat, i < cs.length ∧ j % ((cs.map V.int).length : Int) = i := by
      have h1 := Int.emod_nonneg j (show ((cs.map V.int).length : Int) ≠ 0 by omega)
      have h2 := Int.emod_lt_of_pos j (show (0 : Int) < ((cs.map V.int).length : Int) by omega)
      rw [List.length_map] at h1 h2 ⊢
      exact ⟨(j % (cs.length : Int)).toNat, by omega, by omega⟩
    have hx : atI (cs.map V.int) (j % ((cs.map V.int).length : Int)) = some (.int cs[i]) := by
      rw [ei]; exact atI_nat (by rw [List.getElem?_map, List.getElem?_eq_getElem hi]; rfl)
    have hx0 : 0 ≤ cs[i] := nn _ (List.getElem_mem hi)
    have hxi : ixN (cs.map V.int).length (j % ((cs.map V.int).length : Int)) = some i := by
      rw [ei]; unfold ixN; rw [if_pos (by omega), if_pos (by rw [List.length_map]; omega)]; rfl
    have hw : CDivW cs[i] m := wide_div (b := 30) m0 (by omega) (by decide) (by decide)
    walk_at "st"
    walk_at "if"
    refine r_ite (fun hge => ?_) (fun hlt => ?_)
    · walk_at "st"
      refine q _ _ (fun b o e hb => ?_) ⟨hne, cs.set i (cs[i] / m), j, r, ?_, ?_, ?_, ?_, ?_, hj, hr0, hr1⟩ ⟨Int.emod_nonneg _ (by omega), Int.emod_lt_of_pos _ m0⟩
      · rw [upd_ne (by intro z; exact hb (by simp [z]))]; exact e
      · walk_at "hl"
      · rw [upd_same, List.map_set]
      · intro z; exact ne (by simpa using congrArg List.length z)
      · intro x hx
        rcases List.mem_or_eq_of_mem_set hx with h | h
        · exact nn _ h
        · rw [h]; exact Int.ediv_nonneg hx0 (by omega)
      · simpa using len
    · walk_at "st"
      refine q _ _ (fun b o e hb => ?_) ⟨hne, cs, j + 1, (r * 48271 + cs[i] + 12345) % 2147483647, upd_same, ?_, ne, nn, len, by omega, Int.emod_nonneg _ (by decide), Int.emod_lt_of_pos _ (by decide)⟩ ⟨Int.emod_nonneg _ (by omega), Int.emod_lt_of_pos _ m0⟩
      · rw [upd_ne (by intro z; exact hb (by simp [z])), upd_ne (by intro z; exact hb (by simp [z]))]; exact e
      · rw [upd_ne hne.symm, upd_ne hne.symm]; exact hc
end
section
variable {P : Program} {w : World} {K : PySem.W.Frag} {mg : Str → Option Value} {base : Heap}
theorem ok_law_state {c_PaperReader : Addr} (T : Tx K mg c_PaperReader)  {f : Addr} {fd : FuncData} (F : Here K mg "_law_state" s_law_state ["script"] f fd) : Cal P w K mg base "_law_state" 1 ["script"] (sp_law_state K) s_law_state f fd := by
  refine F.cal sc_law_state (fun vs H Q E h => ?_) (fun cdv A outer s H vs Q E hr h => ?_)
  · obtain ⟨a, ns, rfl, _⟩ := h
    rfl
  · obtain ⟨a, ns, rfl, hS, hlen, q⟩ := h
    refine ⟨_, (pss_cons (ps_setLc (i := 1) rfl sc_law_state.nd rfl rfl (sw_true rfl rfl rfl (by decide +kernel)) (pi_listK (K := K) (pv 0)) (blkOk_by (own := [("cell", 2)]) (N := ["script", "cells", "cell"]) (sc := (defScope s_law_state)) (by decide +kernel)) (fun _ _ _ _ _ => (pg_name (i := 2) sc_law_state.nd rfl (by first | exact .inl rfl | exact .inr rfl))) (fun _ _ _ _ _ => pts_nil) (fun _ _ _ _ _ => (pe_callB cr_abs (by rfl) T.m_abs (by decide +kernel) (pa_cons (pv 2) pa_nil))))
      (pss_cons (ps_if (pt_cmpR (op_eqNilK (K := K) (hu_of64 hr)) (pv 1) (pe_lst pa_nil) (nomark _)) (pss_one (ps_set (i := 1) sc_law_state.nd rfl (by first | exact .inl rfl | exact .inr rfl) (pe_lst (pa_cons pe_int pa_nil)))) pss_nil)
      (pss_one (ps_ret (pe_lst (pa_cons (pv 1) (pa_cons pe_int (pa_cons pe_int pa_nil)))))))), ?_⟩
    walk_at "st"
    intro D hD
    refine lc_map (walk_list (xs := ns.map V.int)) (by rw [List.length_map]; omega) hD (fun _ y _ => ∃ n : Int, y = .int n ∧ 0 ≤ n) (fun _ _ _ _ h _ => h) (fun _ _ _ _ _ h _ => h) (fun H' k => k.seq hS) (fun i H1 x H2 y => by rw [y.1]; exact Same.refl _)
      (fun i x H1 H2 Y No hi sm y hY => ?_) (fun ys H' el sm eD hys => ?_)
    · obtain ⟨rfl, ex⟩ := y
      obtain ⟨n, _, rfl⟩ := getElem?_map_int ex
      refine ⟨rfl, ?_⟩
      walk_at "st"
      refine hY _ _ (Same.refl _) ⟨_, rfl, ?_⟩
      split <;> omega
    · have hall : ∀ y ∈ ys, ∃ n : Int, y = .int n ∧ 0 ≤ n := fun y hy => by
        obtain ⟨i, e⟩ := List.getElem?_of_mem hy
        exact hys i y e
      obtain ⟨cs, ecs, hcs⟩ := ints_of_all hall
      subst ecs
      have hcl2 : cs.length ≤ 63 := by rw [List.length_map, List.length_map] at el; omega
      walk_at "st"
      walk_at "if"
      intro ln hln
      have eD2 := hl_new (u := .lst []) eD hln
      have sm2 : Same H (upd H' ln (.lst [])) := sm.trans (Same.upd_new hln)
      have eln : upd H' ln (.lst []) ln = some (.lst []) := upd_same
      generalize upd H' ln (.lst []) = H2 at *
      walk_at "st"
      refine r_iteB (fun h0 => ?_) (fun h0 => ?_)
      · walk_at "st"
        intro l hl
        walk_at "st"
        intro s hs
        have ne : s ≠ l := fun z => by rw [z, upd_same] at hs; cases hs
        refine q s l _ (by walk_at "sm") ⟨ne, [1], 0, 1, upd_same, hl_set ne.symm upd_same, by simp, by simp, by simp, by omega, by omega, by omega⟩
      · walk_at "st"
        intro s hs
        have ne : s ≠ D := (ne_of_none eD2 hs).symm
        have h1 : cs ≠ [] := fun z => by rw [z] at h0; simp at h0
        exact q s D _ (by walk_at "sm") ⟨ne, cs, 0, 1, upd_same, hl_set ne.symm eD2, h1, hcs, by omega, by omega, by omega, by omega⟩
def sp_law_number (_ : PySem.W.Frag) : Sp := fun vs H Q _ => ∃ (s c : Addr), vs = [.ref s] ∧ St s c H ∧ ∀ d H', Kp [s, c] H H' → St s c H' → 0 ≤ d ∧ d ≤ 99999 → Q (.int d) H'
theorem ok_law_number {c_PaperReader : Addr} (T : Tx K mg c_PaperReader) {f_law_draw : Addr} {fd_law_draw : FuncData} (C_law_draw : Cal P w K mg base "_law_draw" 1 ["state", "many"] (sp_law_draw K) s_law_draw f_law_draw fd_law_draw) {f : Addr} {fd : FuncData} (F : Here K mg "_law_number" s_law_number ["state"] f fd) : Cal P w K mg base "_law_number" 2 ["state"] (sp_law_number K) s_law_number f fd := by
  refine F.cal sc_law_number (fun vs H Q E h => ?_) (fun cdv A outer s H vs Q E hr h => ?_)
  · obtain ⟨s, c, rfl, _⟩ := h
    rfl
  · obtain ⟨s, c, rfl, st, q⟩ := h
    refine ⟨_, (pss_one (ps_ret (pe_ix (ix_listK (K := K)) (pe_lst (pa_cons pe_int (pa_cons (pe_call C_law_draw.ok (hr.mono (by decide)) (by rfl) C_law_draw.at_ C_law_draw.kp C_law_draw.b .nil pass0 (pa_cons (pv 0) (pa_cons pe_int pa_nil))) (pa_cons (pe_call C_law_draw.ok (hr.mono (by decide)) (by rfl) C_law_draw.at_ C_law_draw.kp C_law_draw.b .nil pass0 (pa_cons (pv 0) (pa_cons pe_int pa_nil))) (pa_cons (pe_op op_sub pe_int (pe_call C_law_draw.ok (hr.mono (by decide)) (by rfl) C_law_draw.at_ C_law_draw.kp C_law_draw.b .nil pass0 (pa_cons (pv 0) (pa_cons pe_int pa_nil)))) pa_nil))))) (pe_call C_law_draw.ok (hr.mono (by decide)) (by rfl) C_law_draw.at_ C_law_draw.kp C_law_draw.b .nil pass0 (pa_cons (pv 0) (pa_cons pe_int pa_nil))) (fun _ _ => rfl)))), ?_⟩
    walk_at "st"
    refine ⟨s, c, 10, rfl, st, by omega, fun d1 H1 k1 st1 hd1 => ?_⟩
    walk_at "st"
    refine ⟨s, c, 1000, rfl, st1, by omega, fun d2 H2 k2 st2 hd2 => ?_⟩
    walk_at "st"
    refine ⟨s, c, 3, rfl, st2, by omega, fun d3 H3 k3 st3 hd3 => ?_⟩
    walk_at "st"
    intro l hl
    have st4 := st3.new (x := .lst [.int 0, .int d1, .int d2, .int (99999 - d3)]) hl
    have k4 := ((k1.trans k2).trans k3).trans (Kp.new (S := [s, c]) (x := .lst [.int 0, .int d1, .int d2, .int (99999 - d3)]) hl)
    have el : upd H3 l (.lst [.int 0, .int d1, .int d2, .int (99999 - d3)]) l = some (.lst [.int 0, .int d1, .int d2, .int (99999 - d3)]) := upd_same
    have ol := st3.out hl
    generalize upd H3 l (.lst [.int 0, .int d1, .int d2, .int (99999 - d3)]) = H4 at *
    walk_at "st"
    refine ⟨s, c, 4, rfl, st4, by omega, fun d5 H5 k5 st5 hd5 => ?_⟩
    have el5 := k5 _ _ el ol
    obtain ⟨v, ev, hv⟩ := atI_in (xs := [V.int 0, V.int d1, V.int d2, V.int (99999 - d3)]) hd5.1 (by simpa using hd5.2)
    obtain ⟨n, rfl, hn⟩ : ∃ n, v = .int n ∧ 0 ≤ n ∧ n ≤ 99999 := by
      simp at hv
      rcases hv with h | h | h | h <;> exact ⟨_, h, by omega⟩
    walk_at "st"
    exact q n _ (k4.trans k5) st5 hn
end
/-! ### texts -/
def rLenS : List V → Hp → VK → Prop := fun xs H Q => ∃ z, xs = [.str z] ∧ z.length ≤ sizeLine ∧ Q (.int z.length) H
theorem cr_lenS {X : Cx} : CallR X (.builtin "len") rLenS := call_len_str
def rInS : R2 := fun x y H Q => ∃ (c : Nat) (z : Str), x = .str ⟨#[c]⟩ ∧ y = .str z ∧ Q (.bl (decide (c ∈ z.cps.toList))) H
theorem op_inS {X : Cx} : OpR X (compareOp .In) rInS := op_in_sign
def rNinS : R2 := fun x y H Q => ∃ (c : Nat) (z : Str), x = .str ⟨#[c]⟩ ∧ y = .str z ∧ Q (.bl (!decide (c ∈ z.cps.toList))) H
theorem op_ninS {X : Cx} : OpR X (compareOp .NotIn) rNinS := op_notIn_sign
def rAddS : R2 := fun x y H Q => ∃ i j, x = .str i ∧ y = .str j ∧ i.length + j.length ≤ sizeLine ∧ Q (.str (i ++ j)) H
theorem op_addS {X : Cx} : OpR X (binaryOp .Add) rAddS := op_add_str
section
variable {K : PySem.W.Frag} {σ : L2.St} {H : Hp} {Q : VK}
theorem r_lenS {z : Str} (h : z.length ≤ sizeLine) (q : Q (.int z.length) H) : rLenS [.str z] H Q := ⟨z, rfl, h, q⟩
theorem r_inS {c : Nat} {z : Str} (q : Q (.bl (decide (c ∈ z.cps.toList))) H) : rInS (.str ⟨#[c]⟩) (.str z) H Q := ⟨c, z, rfl, rfl, q⟩
theorem r_ninS {c : Nat} {z : Str} (q : Q (.bl (!decide (c ∈ z.cps.toList))) H) : rNinS (.str ⟨#[c]⟩) (.str z) H Q := ⟨c, z, rfl, rfl, q⟩
theorem r_addS {a b : Str} (h : a.length + b.length ≤ sizeLine) (q : Q (.str (a ++ b)) H) : rAddS (.str a) (.str b) H Q := ⟨a, b, rfl, rfl, h, q⟩
theorem r_ixS {z : Str} {i : Int} {c : Nat} (h : z.length ≤ sizeLine) (e : atI z.cps.toList i = some c) (q : Q (.str ⟨#[c]⟩) H) : rIxS (.str z) (.int i) H Q := ⟨z, i, c, rfl, rfl, h, e, q⟩
def IsR (R : It → Hp → Prop) (v : V) (H : Hp) : Prop := ∃ x, v = .str x ∧ R (Its x) H
theorem r_istr {te : TE} {R : It → Hp → Prop} (h : te σ H (IsR R)) : iStr te σ H R := h
theorem r_is {R : It → Hp → Prop} {x : Str} (h : R (Its x) H) : IsR R (.str x) H := ⟨x, rfl, h⟩
end
theorem str_small {z : Str} (h : z.length ≤ 1000) : z.length ≤ sizeLine := Nat.le_trans h (by decide)
local macro_rules | `(tactic| walk_at "ssz") => `(tactic| first | decide | exact str_small (by assumption) | (have : (1000000 : Nat) ≤ sizeLine := (by decide); omega))
local macro_rules | `(tactic| walk_at "st1") => `(tactic| first
  | with_reducible refine' r_nt ?_ | with_reducible refine' r_nf ?_
  | ((with_reducible refine r_lenS ?e1 ?_); (case e1 => walk_at "ssz"))
  | with_reducible refine r_inS ?_
  | with_reducible refine r_ninS ?_
  | ((with_reducible refine r_addS ?e1 ?_); (case e1 => walk_at "ssz"))
  | ((with_reducible refine' r_ixS ?e1 ?e2 ?_); (case e1 => walk_at "ssz"); (case e2 => first | assumption | rfl))
  | with_reducible refine r_istr ?_
  | with_reducible refine r_is ?_
  | with_reducible refine r_un ?_
  | with_reducible refine r_u ?_)
local macro_rules | `(tactic| walk_at "ssz") => `(tactic| first | decide | exact str_small (by assumption) | (have : (1000000 : Nat) ≤ sizeLine := (by decide); omega))
local macro_rules | `(tactic| walk_at "st1") => `(tactic| first
  | with_reducible refine' r_nt ?_ | with_reducible refine' r_nf ?_
  | ((with_reducible refine r_lenS ?e1 ?_); (case e1 => walk_at "ssz"))
  | with_reducible refine r_inS ?_
  | with_reducible refine r_ninS ?_
  | ((with_reducible refine r_addS ?e1 ?_); (case e1 => walk_at "ssz"))
  | ((with_reducible refine' r_ixS ?e1 ?e2 ?_); (case e1 => walk_at "ssz"); (case e2 => first | assumption | rfl))
  | with_reducible refine r_istr ?_
  | with_reducible refine r_is ?_
  | with_reducible refine r_un ?_
  | with_reducible refine r_u ?_)
def cs (x : Str) : List Nat := x.cps.toList
def onlyIn (x z : Str) : Bool := (cs x).all (fun c => decide (c ∈ cs z))
def sp_has_only (_ : PySem.W.Frag) : Sp := fun vs H Q _ => ∃ x z : Str, vs = [.str x, .str z] ∧ x.length ≤ 1000 ∧ ∀ H', Same H H' → Q (.bl (onlyIn x z)) H'
section
variable {P : Program} {w : World} {K : PySem.W.Frag} {mg : Str → Option Value} {base : Heap}
theorem ok_has_only {c_PaperReader : Addr} (T : Tx K mg c_PaperReader)  {f : Addr} {fd : FuncData} (F : Here K mg "has_only" s_has_only ["text", "signs"] f fd) : Cal P w K mg base "has_only" 1 ["text", "signs"] (sp_has_only K) s_has_only f fd := by
  refine F.cal sc_has_only (fun vs H Q E h => ?_) (fun cdv A outer s H vs Q E hr h => ?_)
  · obtain ⟨x, z, rfl, _⟩ := h
    rfl
  · obtain ⟨x, z, rfl, hx, q⟩ := h
    refine ⟨_, (pss_one (ps_ret (pe_callB (cr_allK (K := K) rfl) (by rfl) T.m_all (by decide +kernel) (pa_cons (pe_lc rfl sc_has_only.nd (pi_str (pv 0)) (blkOk_by (own := [("sign", 2)]) (N := ["text", "signs", "sign"]) (sc := (defScope s_has_only)) (by decide +kernel)) (fun _ _ _ _ _ => (pg_name (i := 2) sc_has_only.nd rfl (by first | exact .inl rfl | exact .inr rfl))) (fun _ _ _ _ _ => pts_nil) (fun _ _ _ _ _ => (pe_cmpR op_inS (pv 2) (pv 1) (by rfl)))) pa_nil)))), ?_⟩
    walk_at "st"
    intro D hD
    have hx2 : x.cps.size ≤ 1000 := hx
    refine lc_map (walk_str (z := x)) (by omega) hD (fun i y _ => ∃ c, x.cps[i]? = some c ∧ y = .bl (decide (c ∈ cs z))) (fun _ _ _ _ h _ => h) (fun _ _ _ _ _ h _ => h) (fun _ _ => trivial) (fun i H1 x H2 y => by rw [y.1]; exact Same.refl _)
      (fun i x' H1 H2 Y No hi sm y hY => ?_) (fun ys H' el sm eD hys => ?_)
    · obtain ⟨rfl, c, ec, rfl⟩ := y
      refine ⟨rfl, ?_⟩
      walk_at "st"
      exact hY _ _ (Same.refl _) ⟨c, ec, rfl⟩
    · have eys : ys = ((cs x).map fun c => decide (c ∈ cs z)).map V.bl := by
        apply List.ext_getElem?
        intro i
        cases e2 : ys[i]? with
        | none =>
          rw [List.getElem?_eq_none_iff] at e2
          rw [List.getElem?_eq_none_iff.mpr (by simp [cs]; omega)]
        | some y =>
          obtain ⟨c, ec, rfl⟩ := hys i y e2
          have : (cs x)[i]? = some c := by unfold cs; rw [Array.getElem?_toList]; exact ec
          rw [List.getElem?_map, List.getElem?_map, this]; rfl
      subst eys
      walk_at "st"
      have := q H' sm
      rw [List.all_map]
      exact this
end
local macro_rules | `(tactic| walk_at "ssz") => `(tactic| first | decide | exact str_small (by assumption) | (have : (1000000 : Nat) ≤ sizeLine := (by decide); omega))
local macro_rules | `(tactic| walk_at "st1") => `(tactic| first
  | with_reducible refine' r_nt ?_ | with_reducible refine' r_nf ?_
  | ((with_reducible refine r_lenS ?e1 ?_); (case e1 => walk_at "ssz"))
  | with_reducible refine r_inS ?_
  | with_reducible refine r_ninS ?_
  | ((with_reducible refine r_addS ?e1 ?_); (case e1 => walk_at "ssz"))
  | ((with_reducible refine' r_ixS ?e1 ?e2 ?_); (case e1 => walk_at "ssz"); (case e2 => first | assumption | rfl))
  | with_reducible refine r_istr ?_
  | with_reducible refine r_is ?_
  | with_reducible refine r_un ?_
  | with_reducible refine r_u ?_)
/-! ### texts by their codes -/
abbrev Sx (a : List Nat) : Str := SX.S a
theorem Sx_cs (z : Str) : Sx (cs z) = z := SX.S_tl z
theorem cs_Sx (a : List Nat) : cs (Sx a) = a := rfl
theorem Sx_len (a : List Nat) : (Sx a).length = a.length := SX.S_len a
def digC (c : Nat) : Bool := decide (48 ≤ c) && decide (c ≤ 57)
def numC (n : Int) : List Nat := TL.numL n.toNat
/-- a number that is told by figures, at most so many, none with a 0 ahead of others -/
def figC (a : List Nat) (m : Int) : Option Int :=
  if (1 ≤ a.length ∧ (a.length : Int) ≤ m) ∧ a.all digC = true ∧ ¬ (a.head? = some 48 ∧ 1 < a.length) then some ((NumText.digitsVal a : Nat) : Int) else none
def optV : Option Int → V
  | none => .non
  | some n => .int n
theorem digC_iff (c : Nat) : digC c = decide (c ∈ cs "0123456789") := by
  have e : cs "0123456789" = [48, 49, 50, 51, 52, 53, 54, 55, 56, 57] := by decide
  rw [e]
  unfold digC
  by_cases h : 48 ≤ c ∧ c ≤ 57
  · have : c = 48 ∨ c = 49 ∨ c = 50 ∨ c = 51 ∨ c = 52 ∨ c = 53 ∨ c = 54 ∨ c = 55 ∨ c = 56 ∨ c = 57 := by omega
    rcases this with h | h | h | h | h | h | h | h | h | h <;> subst h <;> decide
  · have h1 : (decide (48 ≤ c) && decide (c ≤ 57)) = false := by
      rw [Bool.and_eq_false_iff]
      by_cases d : 48 ≤ c
      · exact .inr (decide_eq_false fun z => h ⟨d, z⟩)
      · exact .inl (decide_eq_false d)
    rw [h1]
    symm
    refine decide_eq_false fun m => ?_
    simp at m
    omega
theorem numC_digits (n : Int) : (numC n).all digC = true := by
  refine List.all_eq_true.mpr fun c m => ?_
  have := TL.numL_digits n.toNat c m
  unfold digC
  rw [decide_eq_true this.1, decide_eq_true this.2]; rfl
theorem numC_ne (n : Int) : numC n ≠ [] := TL.numL_ne _
theorem numC_val {n : Int} (h : 0 ≤ n) : ((NumText.digitsVal (numC n) : Nat) : Int) = n := by
  unfold numC; rw [TL.numL_val]; omega
def rStrOf : List V → Hp → VK → Prop := fun xs H Q => ∃ i, xs = [.int i] ∧ i.natAbs.log2 < 1920 ∧ Q (.str (toString i)) H
theorem cr_strOf {X : Cx} : CallR X (.type "str") rStrOf := call_str_int
def tTru (K : PySem.W.Frag) (ta : TE) : TT := fun σ H Q => ta σ H fun x H' => ∃ k, TruV K x H' k ∧ Q k H'
theorem pt_truthK {X : Cx} {K : PySem.W.Frag} {a : Expr} {ta : TE} (ha : PE X a ta) (he : ∀ whole, isTrue a X.env whole = (do let v ← whole; standAt a.pos; holding [v] (truthy v))) (q : X.K = K := by rfl) : PT X a (tTru K ta) := q ▸ pt_truth ha he
def rIntS : List V → Hp → VK → Prop := fun xs H Q => ∃ a n, xs = [.str a] ∧ PySem.intText? a = some n ∧ a.length ≤ 640 ∧ Q (.int n) H
theorem cr_intS {X : Cx} : CallR X (.type "int") rIntS := call_int_str
def rLstC : V → List V → Hp → VK → Prop := fun x xs H Q => ∃ a b, x = .str a ∧ xs = [.str b] ∧ a.length ≤ sizeLine ∧ Q (.str (Txt.lstripChars a b)) H
def rSplS : V → List V → Hp → VK → Prop := fun x xs H Q => ∃ a b, x = .str a ∧ xs = [.str b] ∧ (b.length == 0) = false ∧ a.length + 2 ≤ sizeLine ∧ ∀ p, H p = none → Q (.ref p) (upd H p (.lst ((Txt.split a b).map V.str)))
theorem mt_lstK {X : Cx} : MtR X "str.lstrip" rLstC := mt_lstripChars
theorem mt_splK {X : Cx} : MtR X "str.split" rSplS := mt_split
def rSlTx : V → Option Int → Option Int → Hp → VK → Prop := fun x lo hi H Q => ∃ z, x = .str z ∧ z.length ≤ sizeLine ∧ Q (.str (Txt.slice z lo hi)) H
theorem sl_txtK {X : Cx} : SlR X rSlTx := C8.sl_txt
theorem take_tw (f : Nat → Bool) : ∀ a : List Nat, a.take (a.takeWhile f).length = a.takeWhile f
  | [] => rfl
  | c :: a => by
    rw [List.takeWhile_cons]
    cases f c with
    | true => rw [if_pos rfl, List.length_cons, List.take_succ_cons, take_tw f a]
    | false => rw [if_neg (by decide)]; rfl
theorem numC_of {p : Int} (h : 0 ≤ p) : (toString p : Str) = Sx (numC p) := by
  obtain ⟨n, rfl⟩ := Int.eq_ofNat_of_zero_le h
  exact SX.num_S n
theorem log_small {p : Int} (h0 : 0 ≤ p) (h : p ≤ 1000000) : p.natAbs.log2 < 1920 := by
  have h1 : p.natAbs < 2 ^ 20 := by
    have : (2 : Nat) ^ 20 = 1048576 := by decide
    omega
  by_cases c : p.natAbs = 0
  · rw [c]; decide
  · exact Nat.lt_of_lt_of_le ((Nat.log2_lt c).mpr h1) (by decide)
theorem numC_le {p : Int} (h : p ≤ 1000000) : (numC p).length ≤ 7 := by
  have e : (10 : Nat) ^ 7 = 10000000 := by decide
  exact TL.numL_len (by decide) (by rw [e]; omega)
theorem drop_tw (f : Nat → Bool) : ∀ a : List Nat, a.drop (a.takeWhile f).length = a.dropWhile f
  | [] => rfl
  | c :: a => by
    rw [List.takeWhile_cons, List.dropWhile_cons]
    cases f c with
    | true => rw [if_pos rfl, if_pos rfl, List.length_cons, List.drop_succ_cons, drop_tw f a]
    | false => rw [if_neg (by decide), if_neg (by decide)]; rfl
theorem lstrip_S (a b : List Nat) : Txt.lstripChars (SX.S a) (SX.S b) = SX.S (a.dropWhile fun c => decide (c ∈ b)) := by
  have e0 : (fun c => (SX.S b).cps.contains c) = fun c => decide (c ∈ b) := by
    funext c
    rw [Array.contains_eq_mem]
    exact decide_eq_decide.mpr ⟨fun h => by simpa [SX.S] using h, fun h => by simpa [SX.S] using h⟩
  unfold Txt.lstripChars
  rw [show (SX.S b).cps.contains = fun c => (SX.S b).cps.contains c from rfl, e0, PyProof.Rows.stripBy_eq]
  have e1 : stripLo (fun c => decide (c ∈ b)) true (SX.S a) = (a.takeWhile fun c => decide (c ∈ b)).length := by
    unfold stripLo
    rw [if_pos rfl]
  have e2 : stripHi (fun c => decide (c ∈ b)) false (SX.S a) (stripLo (fun c => decide (c ∈ b)) true (SX.S a)) = a.length := by
    unfold stripHi
    rw [if_neg (by decide)]
    exact SX.S_len a
  rw [e2, e1]
  refine TL.ext_tl ?_
  show ((SX.S a).cps.extract _ _).toList = _
  rw [Array.toList_extract]
  show (a.drop _).take _ = a.dropWhile _
  rw [← List.length_drop, List.take_length]
  exact drop_tw _ a
def rJoin (K : PySem.W.Frag) : V → List V → Hp → VK → Prop := fun x xs H Q => ∃ a p, ∃ ys : List Str, x = .str a ∧ xs = [.ref p] ∧ (SqL K H p (ys.map V.str) ∨ SqT K H p (ys.map V.str)) ∧ (ys.map (·.length)).sum + ys.length * a.length ≤ 16777216 ∧ Q (.str (Txt.join a ys)) H
theorem castM1 {X : Cx} {K : PySem.W.Frag} {e : Expr} {to te : TE} (h : PE X e (tM1 (rJoin X.K) to te)) (q : X.K = K := by rfl) : PE X e (tM1 (rJoin K) to te) := q ▸ h
def rIsNn : R2 := fun x y H Q => y = .non ∧ Q (.bl (decide (x = .non))) H
theorem op_isNn {X : Cx} : OpR X (compareOp .Is) rIsNn := op_isN
section
variable {K : PySem.W.Frag} {σ : L2.St} {H : Hp} {Q : VK}
theorem r_tru {ta : TE} {R : Bool → Hp → Prop} (h : ta σ H fun x H' => ∃ k, TruV K x H' k ∧ R k H') : tTru K ta σ H R := h
theorem r_truT {p : Addr} {xs : List V} {R : Bool → Prop} (h : SqT K H p xs) (q : R (!xs.isEmpty)) : ∃ k, TruV K (.ref p) H k ∧ R k := ⟨_, .inr (.inl ⟨xs, h, rfl⟩), q⟩
theorem r_tyS {z : Str} {A : Prop} (q : A) : tyV K "str" (.str z) H ∧ A := ⟨(rfl : "str" = "str"), q⟩
theorem r_lstC {a b : List Nat} (h : a.length ≤ 1000000) (q : Q (.str (Sx (a.dropWhile fun c => decide (c ∈ b)))) H) : rLstC (.str (Sx a)) [.str (Sx b)] H Q := ⟨_, _, rfl, rfl, by rw [Sx_len]; exact Nat.le_trans h (by decide), by rw [lstrip_S]; exact q⟩
theorem r_slTo {a : List Nat} {i : Int} (h : a.length ≤ 1000000) (h0 : 0 ≤ i) (q : Q (.str (Sx (a.take i.toNat))) H) : rSlTx (.str (Sx a)) none (some i) H Q := ⟨_, rfl, by rw [Sx_len]; exact Nat.le_trans h (by decide), by rw [SX.slice_to h0]; exact q⟩
theorem r_strC {i : Int} (h : 0 ≤ i ∧ i ≤ 1000000) (q : Q (.str (Sx (numC i))) H) : rStrOf [.int i] H Q := ⟨i, rfl, log_small h.1 h.2, by rw [numC_of h.1]; exact q⟩
theorem r_m1 {r : V → List V → Hp → VK → Prop} {to te : TE} (h : to σ H fun x H1 => (∃ a, x = .str a) ∧ te σ H1 fun y H2 => r x [y] H2 Q) : tM1 r to te σ H Q := h
theorem r_sx {z : Str} {B : Prop} (h : B) : (∃ a, V.str z = .str a) ∧ B := ⟨⟨z, rfl⟩, h⟩
theorem r_joinS {a : Str} {p : Addr} {ys : List Str} (h : SqL K H p (ys.map V.str)) (z : (ys.map (·.length)).sum + ys.length * a.length ≤ 16777216) (q : Q (.str (Txt.join a ys)) H) : rJoin K (.str a) [.ref p] H Q := ⟨a, p, ys, rfl, rfl, .inl h, z, q⟩
theorem r_ifG {c : TT} {t u : TE} (J : V → Hp → Prop) (hQ : ∀ x H', J x H' → Q x H') (h : ∀ Q' : VK, (∀ x H', J x H' → Q' x H') → tIf c t u σ H Q') : tIf c t u σ H Q := h Q hQ
theorem r_tjs {t : TE} {ts : List TE} {acc : Str} {R : Str → Hp → Prop} (h : t σ H fun x H1 => ∃ y : Str, x = .str y ∧ (acc ++ y).length ≤ sizeLine ∧ tJs ts (acc ++ y) σ H1 R) : tJs (t :: ts) acc σ H R := h
theorem r_fmtI {te : TE} (h : te σ H fun x H1 => ∃ i, x = .int i ∧ (0 ≤ i ∧ i ≤ 1000000) ∧ Q (.str (Sx (numC i))) H1) (hm : ∀ {Q1 Q2 : VK}, (∀ x H1, Q1 x H1 → Q2 x H1) → te σ H Q1 → te σ H Q2) : tFmt te σ H Q :=
  hm (fun x H1 z => by
    obtain ⟨i, rfl, hi, q⟩ := z
    exact .inr ⟨i, rfl, log_small hi.1 hi.2, by rw [numC_of hi.1]; exact q⟩) h
theorem r_fmtVI {i : Nat} {k : Int} (e : σ[i]? = some (some (.int k))) (hk : 0 ≤ k ∧ k ≤ 1000000) (q : Q (.str (Sx (numC k))) H) : tFmt (tVar i) σ H Q := ⟨_, e, .inr ⟨k, rfl, log_small hk.1 hk.2, by rw [numC_of hk.1]; exact q⟩⟩
theorem r_fmtVS {i : Nat} {z : Str} (e : σ[i]? = some (some (.str z))) (hz : z.length ≤ 1000000) (q : Q (.str z) H) : tFmt (tVar i) σ H Q := ⟨_, e, .inl ⟨z, rfl, Nat.le_trans hz (by decide), q⟩⟩
theorem r_isN {x : V} (q : Q (.bl (decide (x = .non))) H) : rIsNn x .non H Q := ⟨rfl, q⟩
end
local macro_rules | `(tactic| walk_at "st1") => `(tactic| first
  | with_reducible refine r_tru ?_
  | ((with_reducible refine' r_truT ?e1 ?_); (case e1 => walk_at "sq"))
  | with_reducible refine r_isN ?_
  | with_reducible refine r_tyS ?_
  | with_reducible refine r_m1 ?_
  | with_reducible refine r_sx ?_
  | ((with_reducible refine r_strC ?e1 ?_); (case e1 => omega)))
def sp_read_figures (_ : PySem.W.Frag) : Sp := fun vs H Q _ => ∃ (a : List Nat) (m : Int), vs = [.str (Sx a), .int m] ∧ a.length ≤ 1000000 ∧ m ≤ 600 ∧ ∀ H', Same H H' → Q (optV (figC a m)) H'
section
variable {P : Program} {w : World} {K : PySem.W.Frag} {mg : Str → Option Value} {base : Heap}
theorem ok_read_figures {c_PaperReader : Addr} (T : Tx K mg c_PaperReader) {f_has_only : Addr} {fd_has_only : FuncData} (C_has_only : Cal P w K mg base "has_only" 1 ["text", "signs"] (sp_has_only K) s_has_only f_has_only fd_has_only) {f : Addr} {fd : FuncData} (F : Here K mg "read_figures" s_read_figures ["text", "most"] f fd) : Cal P w K mg base "read_figures" 2 ["text", "most"] (sp_read_figures K) s_read_figures f fd := by
  refine F.cal sc_read_figures (fun vs H Q E h => ?_) (fun cdv A outer s H vs Q E hr h => ?_)
  · obtain ⟨a, m, rfl, _⟩ := h
    rfl
  · obtain ⟨a, m, rfl, ha, hm, q⟩ := h
    refine ⟨_, (pss_cons (ps_if (PW.pt (pw_or (pt_not (pt_chain op_le op_le pe_int (pe_callB cr_lenS (by rfl) T.m_len (by decide +kernel) (pa_cons (pv 0) pa_nil)) (pv 1))) (pw_or1 (pt_not (pt_val (pe_call C_has_only.ok (hr.mono (by decide)) (by rfl) C_has_only.at_ C_has_only.kp C_has_only.b .nil pass0 (pa_cons (pv 0) (pa_cons (pe_glob (v := .str "0123456789") (by rfl) (T.c_FIGURES).choose_spec ⟨_, rfl⟩) pa_nil)))))))) (pss_one (ps_ret pe_non)) pss_nil)
      (pss_cons (ps_if (PW.pt (pw_and (pt_cmpR op_eq (pe_ix ix_str (pv 0) pe_int (fun _ _ => rfl)) pe_str (nomark _)) (pw_and1 (pt_cmpR op_gt (pe_callB cr_lenS (by rfl) T.m_len (by decide +kernel) (pa_cons (pv 0) pa_nil)) pe_int (nomark _))))) (pss_one (ps_ret pe_non)) pss_nil)
      (pss_one (ps_ret (pe_callTy cr_intS (by rfl) T.m_int (by decide +kernel) (pa_cons (pv 0) pa_nil)))))), ?_⟩
    have hla : (Sx a).length ≤ sizeLine := by rw [Sx_len]; exact Nat.le_trans ha (by decide)
    walk_at "st"
    walk_at "if"
    rw [Sx_len]
    have no : figC a m = none → ∀ H', Same H H' → Q .non H' := fun e H' k => by
      have := q H' k
      rw [e] at this
      exact this
    refine r_ite (fun h1 => ?_) (fun h1 => ?_)
    · walk_at "st"
      cases h2 : decide ((a.length : Int) ≤ m) with
      | false =>
        walk_at "st"
        refine no ?_ H (Same.refl _)
        unfold figC
        rw [if_neg fun z => of_decide_eq_false h2 z.1.2]
      | true =>
        have hm2 := of_decide_eq_true h2
        walk_at "st"
        refine ⟨Sx a, _, rfl, by rw [Sx_len]; omega, fun H1 s1 => ?_⟩
        have e1 : onlyIn (Sx a) (Str.ofString "0123456789") = a.all digC := by
          unfold onlyIn
          show (cs (Sx a)).all _ = _
          rw [cs_Sx]
          congr 1
          funext c
          exact (digC_iff c).symm
        rw [e1]
        walk_at "st"
        cases h3 : a.all digC with
        | false =>
          walk_at "st"
          refine no ?_ H1 s1
          unfold figC
          rw [if_neg fun z => by rw [h3] at z; exact absurd z.2.1 (by decide)]
        | true =>
          walk_at "st"
          walk_at "if"
          obtain ⟨c, r, rfl⟩ : ∃ c r, a = c :: r := by
            cases a with
            | nil => simp at h1
            | cons c r => exact ⟨c, r, rfl⟩
          have ix : atI (Sx (c :: r)).cps.toList 0 = some c := (show atI (c :: r) ((0 : Nat) : Int) = some c from atI_nat rfl)
          have yes : ∀ H', Same H H' → ¬ ((c :: r).head? = some 48 ∧ 1 < (c :: r).length) → Q (.int ((NumText.digitsVal (c :: r) : Nat) : Int)) H' := fun H' k z => by
            have := q H' k
            unfold figC at this
            rw [if_pos ⟨⟨by simp, hm2⟩, h3, z⟩] at this
            exact this
          have fin : ∀ H', Same H H' → ¬ ((c :: r).head? = some 48 ∧ 1 < (c :: r).length) → rIntS [.str (Sx (c :: r))] H' Q := fun H' k z =>
            ⟨_, _, rfl, SX.int_S h3 (List.cons_ne_nil _ _) (by omega), by rw [Sx_len]; omega, yes H' k z⟩
          walk_at "st"
          have e2 : decide (V.str ⟨#[c]⟩ = V.str (Str.ofString "0")) = decide (c = 48) := by
            refine decide_eq_decide.mpr ⟨fun z => ?_, fun z => by rw [z]; rfl⟩
            injection z with z
            injection z with z
            have : #[c] = #[48] := z
            simpa using this
          rw [e2]
          refine r_ite (fun h4 => ?_) (fun h4 => ?_)
          · walk_at "st"
            rw [Sx_len]
            refine r_ite (fun h5 => ?_) (fun h5 => ?_)
            · walk_at "st"
              refine no ?_ H1 s1
              unfold figC
              rw [if_neg fun z => z.2.2 ⟨by rw [h4]; rfl, by omega⟩]
            · walk_at "st"
              exact fin H1 s1 fun z => h5 (by have := z.2; omega)
          · walk_at "st"
            exact fin H1 s1 fun z => h4 (Option.some.inj z.1)
    · walk_at "st"
      refine no ?_ H (Same.refl _)
      unfold figC
      rw [if_neg fun z => h1 (by have := z.1.1; omega)]
end
/-! ### tuples of rows, as they stand -/
def RowV (H : Hp) (v : V) (r : List Int) : Prop := ∃ c, v = .ref c ∧ H c = some (.tup (r.map .int))
def Rws (H : Hp) (us : List V) (rows : List (List Int)) : Prop := us.length = rows.length ∧ ∀ (i : Nat) (v : V), us[i]? = some v → ∃ r, rows[i]? = some r ∧ RowV H v r
theorem RowV.same {H H' : Hp} {v : V} {x : List Int} (h : RowV H v x) (k : Same H H') : RowV H' v x := by
  obtain ⟨c, e, h1⟩ := h
  exact ⟨c, e, k _ _ h1⟩
theorem Rws.same {H H' : Hp} {us : List V} {rows : List (List Int)} (h : Rws H us rows) (k : Same H H') : Rws H' us rows :=
  ⟨h.1, fun i v e => (h.2 i v e).imp fun _ y => ⟨y.1, y.2.same k⟩⟩
theorem St.tupOut {s c a : Addr} {H : Hp} {xs : List V} (h : St s c H) (e : H a = some (.tup xs)) : a ∉ [s, c] := by
  obtain ⟨_, cs, j, r, h⟩ := h
  intro z
  rcases List.mem_cons.mp z with e1 | z
  · rw [e1, h.hs] at e; cases e
  · rw [List.mem_singleton.mp z, h.hc] at e; cases e
theorem Rws.kp {S : List Addr} {H H' : Hp} {us : List V} {rows : List (List Int)} (h : Rws H us rows) (k : Kp S H H') (o : ∀ a xs, H a = some (.tup xs) → a ∉ S) : Rws H' us rows :=
  ⟨h.1, fun i v e => by
    obtain ⟨r, er, c, e1, hc⟩ := h.2 i v e
    exact ⟨r, er, c, e1, k _ _ hc (o _ _ hc)⟩⟩
theorem Rws.kpSt {s c : Addr} {H H' : Hp} {us : List V} {rows : List (List Int)} (h : Rws H us rows) (k : Kp [s, c] H H') (t : St s c H) : Rws H' us rows := h.kp k fun _ _ e => t.tupOut e
theorem Rws.upd {H : Hp} {us : List V} {rows : List (List Int)} {l : Addr} {xs ys : List V} (h : Rws H us rows) (e : H l = some (.lst xs)) : Rws (upd H l (.lst ys)) us rows :=
  ⟨h.1, fun i v ev => by
    obtain ⟨r, er, c, e1, hc⟩ := h.2 i v ev
    exact ⟨r, er, c, e1, hl_set (fun z => by rw [z, e] at hc; cases hc) hc⟩⟩
theorem Rws.append {H : Hp} {us vs : List V} {rows qs : List (List Int)} (h : Rws H us rows) (k : Rws H vs qs) : Rws H (us ++ vs) (rows ++ qs) :=
  ⟨by rw [List.length_append, List.length_append, h.1, k.1], fun i v e => by
    by_cases lt : i < us.length
    · rw [List.getElem?_append_left lt] at e
      rw [List.getElem?_append_left (by rw [← h.1]; exact lt)]
      exact h.2 i v e
    · rw [List.getElem?_append_right (by omega)] at e
      rw [List.getElem?_append_right (by rw [← h.1]; omega), ← h.1]
      exact k.2 _ v e⟩
theorem Rws.row {H : Hp} {us : List V} {rows : List (List Int)} {i : Nat} {v : V} {r : List Int} (h : Rws H us rows) (e : us[i]? = some v) (f : rows[i]? = some r) : RowV H v r := by
  obtain ⟨q, eq, pv⟩ := h.2 i v e
  rw [f] at eq; cases eq; exact pv
def Lot (H : Hp) (a : Addr) (rows : List (List Int)) : Prop := ∃ us, H a = some (.tup us) ∧ Rws H us rows
theorem Lot.same {H H' : Hp} {a : Addr} {rows : List (List Int)} (h : Lot H a rows) (k : Same H H') : Lot H' a rows := h.imp fun _ z => ⟨k _ _ z.1, z.2.same k⟩
theorem Lot.kpSt {s c : Addr} {H H' : Hp} {a : Addr} {rows : List (List Int)} (h : Lot H a rows) (k : Kp [s, c] H H') (t : St s c H) : Lot H' a rows := h.imp fun _ z => ⟨k _ _ z.1 (t.tupOut z.1), z.2.kpSt k t⟩
/-! ### papers: their rows as codes -/
def Sm (n : Int) : Prop := 0 ≤ n ∧ n ≤ 99999
theorem numL_head : ∀ (m n : Nat), n ≤ m → 1 ≤ n → (TL.numL n).head? ≠ some 48
  | 0, n, h, k => by omega
  | m + 1, n, h, k => by
    by_cases c : n < 10
    · rw [TL.numL_lt c]
      intro z
      have : 48 + n = 48 := Option.some.inj z
      omega
    · rw [TL.numL_step (by omega)]
      have ih := numL_head m (n / 10) (by omega) (by omega)
      cases e : TL.numL (n / 10) with
      | nil => exact absurd e (TL.numL_ne _)
      | cons a l => rw [e] at ih; exact ih
theorem numC5 {n : Int} (h : Sm n) : (numC n).length ≤ 5 := by
  have e : (10 : Nat) ^ 5 = 100000 := by decide
  have := h.2
  exact TL.numL_len (by decide) (by rw [e]; have := h.1; omega)
theorem fig5 {n : Int} (h : Sm n) : figC (numC n) 5 = some n := by
  have hz : ¬ ((numC n).head? = some 48 ∧ 1 < (numC n).length) := fun z => by
    by_cases c : n = 0
    · subst c; exact absurd z.2 (by decide)
    · exact numL_head n.toNat n.toNat (Nat.le_refl _) (by have := h.1; omega) z.1
  unfold figC
  rw [if_pos ⟨⟨List.length_pos_iff.mpr (numC_ne n), by have := numC5 h; omega⟩, numC_digits n, hz⟩, numC_val h.1]
theorem num_no {n : Int} {c : Nat} (h : c < 48) : c ∉ numC n := TL.numL_free (.inl h)
def pairC (p : Int × Int) : List Nat := TL.joinL [32] [[112, 97, 105, 114], numC p.1, numC p.2]
def rowC (r : List Int) : List Nat := TL.joinL [32] (r.map numC)
theorem mem_join {c s : Nat} : ∀ {ps : List (List Nat)}, c ∈ TL.joinL [s] ps → c = s ∨ ∃ p ∈ ps, c ∈ p
  | [], h => by cases h
  | [p], h => .inr ⟨p, List.mem_cons_self, h⟩
  | p :: q :: r, h => by
    rcases List.mem_append.mp (show c ∈ p ++ ([s] ++ TL.joinL [s] (q :: r)) from h) with h | h
    · exact .inr ⟨p, List.mem_cons_self, h⟩
    · rcases List.mem_append.mp h with h | h
      · exact .inl (List.mem_singleton.mp h)
      · rcases mem_join h with h | ⟨x, hx, h⟩
        · exact .inl h
        · exact .inr ⟨x, List.mem_cons_of_mem _ hx, h⟩
theorem row_no {r : List Int} : 10 ∉ rowC r := fun h => by
  rcases mem_join h with h | ⟨p, hp, h⟩
  · cases h
  · obtain ⟨n, _, rfl⟩ := List.mem_map.mp hp
    exact num_no (by decide) h
theorem pair_no {p : Int × Int} : 10 ∉ pairC p := fun h => by
  rcases mem_join h with h | ⟨q, hq, h⟩
  · cases h
  · simp only [List.mem_cons, List.not_mem_nil, or_false] at hq
    rcases hq with rfl | rfl | rfl
    · simp at h
    · exact num_no (by decide) h
    · exact num_no (by decide) h
theorem row_words {r : List Int} (ne : r ≠ []) : TL.spl [32] 0 [] (rowC r) = r.map numC := TL.spl_join (fun e => ne (List.map_eq_nil_iff.mp e)) fun p hp => by
  obtain ⟨n, _, rfl⟩ := List.mem_map.mp hp
  exact num_no (by decide)
theorem pair_words (p : Int × Int) : TL.spl [32] 0 [] (pairC p) = [[112, 97, 105, 114], numC p.1, numC p.2] := TL.spl_join (by simp) fun q hq => by
  simp only [List.mem_cons, List.not_mem_nil, or_false] at hq
  rcases hq with rfl | rfl | rfl
  · decide
  · exact num_no (by decide)
  · exact num_no (by decide)
/-- rows, each with a line feed behind it -/
def linesC (L : List (List Nat)) : List Nat := L.flatMap (· ++ [10])
theorem lines_join : ∀ L : List (List Nat), linesC L = TL.joinL [10] (L ++ [[]])
  | [] => rfl
  | [p] => by
    show (p ++ [10]) ++ [] = p ++ ([10] ++ [])
    rw [List.append_nil]; rfl
  | p :: q :: r => by
    have ih := lines_join (q :: r)
    have e : linesC (p :: q :: r) = (p ++ [10]) ++ linesC (q :: r) := List.flatMap_cons
    rw [e, ih, List.append_assoc]; rfl
theorem lines_split {L : List (List Nat)} (h : ∀ p ∈ L, 10 ∉ p) : TL.spl [10] 0 [] (linesC L) = L ++ [[]] := by
  rw [lines_join]
  exact TL.spl_join (by simp) fun p hp => by
    rcases List.mem_append.mp hp with m | m
    · exact h p m
    · rw [List.mem_singleton.mp m]; decide
abbrev Sheet := List ((Int × Int) × List (List Int))
def leP (p q : Int × Int) : Bool := decide (p.1 < q.1 ∨ (p.1 = q.1 ∧ p.2 ≤ q.2))
theorem leP_iff {p q : Int × Int} : leP p q = true ↔ p.1 < q.1 ∨ (p.1 = q.1 ∧ p.2 ≤ q.2) := decide_eq_true_iff
def ordS (sh : Sheet) : List (Int × Int) := (sh.map fun x => x.1).mergeSort leP
def rowsAt (sh : Sheet) (p : Int × Int) : List (List Int) := ((sh.find? fun x => decide (x.1 = p)).map fun x => x.2).getD []
def srtS (sh : Sheet) : Sheet := (ordS sh).map fun p => (p, rowsAt sh p)
def linesS (sh : Sheet) : List (List Nat) := sh.flatMap fun x => pairC x.1 :: x.2.map rowC
def paperC (sh : Sheet) : List Nat := linesC (linesS (srtS sh))
structure GoodS (sh : Sheet) : Prop where
  nd : (sh.map fun x => x.1).Nodup
  len : sh.length ≤ 6
  pr : ∀ x ∈ sh, Sm x.1.1 ∧ Sm x.1.2
  rows : ∀ x ∈ sh, x.2.length ≤ 4
  row : ∀ x ∈ sh, ∀ r ∈ x.2, (r ≠ [] ∧ r.length ≤ 6) ∧ ∀ n ∈ r, Sm n
theorem rowsAt_mem {sh : Sheet} (nd : (sh.map fun x => x.1).Nodup) {x : (Int × Int) × List (List Int)} (m : x ∈ sh) : rowsAt sh x.1 = x.2 := by
  induction sh with
  | nil => cases m
  | cons y sh ih =>
    rw [List.map_cons, List.nodup_cons] at nd
    unfold rowsAt
    rw [List.find?_cons]
    rcases List.mem_cons.mp m with e | m
    · subst e
      rw [decide_eq_true rfl]; rfl
    · have ne : ¬ y.1 = x.1 := fun e => nd.1 (by rw [e]; exact List.mem_map.mpr ⟨x, m, rfl⟩)
      rw [decide_eq_false ne]
      exact ih nd.2 m
theorem ord_perm (sh : Sheet) : (ordS sh).Perm (sh.map fun x => x.1) := List.mergeSort_perm ..
theorem srt_perm {sh : Sheet} (nd : (sh.map fun x => x.1).Nodup) : (srtS sh).Perm sh := by
  have h := (ord_perm sh).map fun p => (p, rowsAt sh p)
  have e : (sh.map fun x => x.1).map (fun p => (p, rowsAt sh p)) = sh := by
    rw [List.map_map]
    have : sh.map (fun x => x) = sh := List.map_id' sh
    conv => rhs; rw [← this]
    exact List.map_congr_left fun x m => by show (x.1, rowsAt sh x.1) = x; rw [rowsAt_mem nd m]
  rw [e] at h
  exact h
theorem GoodS.srt {sh : Sheet} (g : GoodS sh) : GoodS (srtS sh) := by
  have p := srt_perm g.nd
  exact ⟨(p.map _).nodup_iff.mpr g.nd, by rw [p.length_eq]; exact g.len, fun x m => g.pr x (p.mem_iff.mp m), fun x m => g.rows x (p.mem_iff.mp m), fun x m => g.row x (p.mem_iff.mp m)⟩
theorem ord_sorted (sh : Sheet) : (ordS sh).Pairwise fun p q => leP p q = true := List.pairwise_mergeSort (fun a b c h1 h2 => by
    rw [leP_iff] at h1 h2 ⊢; omega) (fun a b => by
    rw [Bool.or_eq_true, leP_iff, leP_iff]; omega) _
theorem srt_keys (sh : Sheet) : (srtS sh).map (fun x => x.1) = ordS sh := by
  unfold srtS
  rw [List.map_map]
  exact List.map_id' _
theorem srt_rise {sh : Sheet} (nd : (sh.map fun x => x.1).Nodup) : (srtS sh).Pairwise fun x y => leP y.1 x.1 = false := by
  have h1 := ord_sorted sh
  have h2 : (ordS sh).Nodup := (ord_perm sh).nodup_iff.mpr nd
  rw [← srt_keys sh] at h1 h2
  have h1 := List.pairwise_map.mp h1
  have h2 := List.pairwise_map.mp h2
  refine List.Pairwise.imp₂ (fun x y a b => ?_) h1 h2
  rw [leP_iff] at a
  refine Bool.eq_false_iff.mpr fun c => b ?_
  rw [leP_iff] at c
  exact Prod.ext (by omega) (by omega)
theorem lines_no {sh : Sheet} : ∀ p ∈ linesS sh, 10 ∉ p := fun p m => by
  obtain ⟨x, _, m⟩ := List.mem_flatMap.mp m
  rcases List.mem_cons.mp m with e | m
  · rw [e]; exact pair_no
  · obtain ⟨r, _, rfl⟩ := List.mem_map.mp m
    exact row_no
theorem join_len {s : Nat} {n : Nat} : ∀ {ps : List (List Nat)}, (∀ p ∈ ps, p.length ≤ n) → (TL.joinL [s] ps).length ≤ ps.length * (n + 1)
  | [], _ => Nat.zero_le _
  | [p], h => by
    have := h p List.mem_cons_self
    show p.length ≤ 1 * (n + 1)
    omega
  | p :: q :: r, h => by
    have := h p List.mem_cons_self
    have ih := join_len (s := s) (ps := q :: r) fun x m => h x (List.mem_cons_of_mem _ m)
    show (p ++ ([s] ++ TL.joinL [s] (q :: r))).length ≤ _
    rw [List.length_append, List.length_append]
    have e : (p :: q :: r).length * (n + 1) = (q :: r).length * (n + 1) + (n + 1) := by rw [List.length_cons, Nat.add_mul, Nat.one_mul]
    rw [e]
    show p.length + (1 + _) ≤ _
    omega
theorem row_len {r : List Int} (l : r.length ≤ 6) (h : ∀ n ∈ r, Sm n) : (rowC r).length ≤ 36 := by
  have := join_len (s := 32) (n := 5) (ps := r.map numC) fun p m => by
    obtain ⟨n, hn, rfl⟩ := List.mem_map.mp m
    exact numC5 (h n hn)
  rw [List.length_map] at this
  exact Nat.le_trans this (Nat.mul_le_mul_right 6 l)
theorem pair_len {p : Int × Int} (h : Sm p.1 ∧ Sm p.2) : (pairC p).length ≤ 18 := by
  have := join_len (s := 32) (n := 5) (ps := [[112, 97, 105, 114], numC p.1, numC p.2]) fun q hq => by
    simp only [List.mem_cons, List.not_mem_nil, or_false] at hq
    rcases hq with rfl | rfl | rfl
    · decide
    · exact numC5 h.1
    · exact numC5 h.2
  exact this
local macro_rules | `(tactic| walk_at "ssz") => `(tactic| first | decide | exact str_small (by assumption) | (have : (1000000 : Nat) ≤ sizeLine := (by decide); omega))
local macro_rules | `(tactic| walk_at "st1") => `(tactic| first
  | with_reducible refine' r_nt ?_ | with_reducible refine' r_nf ?_
  | ((with_reducible refine r_lenS ?e1 ?_); (case e1 => walk_at "ssz"))
  | with_reducible refine r_inS ?_
  | with_reducible refine r_ninS ?_
  | ((with_reducible refine r_addS ?e1 ?_); (case e1 => walk_at "ssz"))
  | ((with_reducible refine' r_ixS ?e1 ?e2 ?_); (case e1 => walk_at "ssz"); (case e2 => first | assumption | rfl))
  | with_reducible refine r_istr ?_
  | with_reducible refine r_is ?_
  | with_reducible refine r_un ?_
  | with_reducible refine r_u ?_)
local macro_rules | `(tactic| walk_at "st1") => `(tactic| first
  | with_reducible refine r_tru ?_
  | ((with_reducible refine' r_truT ?e1 ?_); (case e1 => walk_at "sq"))
  | with_reducible refine r_isN ?_
  | with_reducible refine r_tyS ?_
  | with_reducible refine r_m1 ?_
  | with_reducible refine r_sx ?_
  | ((with_reducible refine r_strC ?e1 ?_); (case e1 => omega)))
theorem op_inSeqK {X : Cx} {K : PySem.W.Frag} (q : X.K = K := by rfl) : OpR X (compareOp .In) (rIn K false) := q ▸ op_in_seq
theorem op_leTK {X : Cx} {K : PySem.W.Frag} (hu : X.A.units + 64 < cLine) (q : X.K = K := by rfl) : OpR X (compareOp .LtE) (rLeT K) := q ▸ op_leT (by omega)
def sp_text_rows (_ : PySem.W.Frag) : Sp := fun vs H Q _ => ∃ (L : List (List Nat)), vs = [.str (Sx (linesC L))] ∧ (∀ p ∈ L, 10 ∉ p) ∧ (linesC L).length ≤ 5000 ∧ L.length ≤ 1000 ∧
  ∀ (t l : Addr) (H' : Hp), Same H H' → H l = none → H' t = some (.tup [.ref l, .bl true]) → H' l = some (.lst (L.map fun p => V.str (Sx p))) → Q (.ref t) H'
def sp_numbers_told (_ : PySem.W.Frag) : Sp := fun vs H Q _ => ∃ (l : Addr) (r : List Int), vs = [.ref l] ∧ H l = some (.lst (r.map fun n => V.str (Sx (numC n)))) ∧ r.length ≤ 100 ∧ (∀ n ∈ r, Sm n) ∧
  ∀ (t : Addr) (H' : Hp), Same H H' → H' t = some (.tup (r.map .int)) → Q (.ref t) H'
section
variable {P : Program} {w : World} {K : PySem.W.Frag} {mg : Str → Option Value} {base : Heap}
theorem ok_text_rows {c_PaperReader : Addr} (T : Tx K mg c_PaperReader)  {f : Addr} {fd : FuncData} (F : Here K mg "text_rows" s_text_rows ["text"] f fd) : Cal P w K mg base "text_rows" 1 ["text"] (sp_text_rows K) s_text_rows f fd := by
  refine F.cal sc_text_rows (fun vs H Q E h => ?_) (fun cdv A outer s H vs Q E hr h => ?_)
  · obtain ⟨L, rfl, _⟩ := h
    rfl
  · obtain ⟨L, rfl, hL, l1, l2, q⟩ := h
    refine ⟨_, (pss_cons (ps_if (pt_not (pt_val (pe_callB (cr_isiK (K := K)) (by rfl) T.m_isinstance (by decide +kernel) (pa_cons (pv 0) (pa_cons (pe_bltn (v := .ty "str") (by rfl) T.m_str (by decide +kernel) rfl) pa_nil))))) (pss_one ps_never) pss_nil)
      (pss_cons (ps_set (i := 1) sc_text_rows.nd rfl (by first | exact .inl rfl | exact .inr rfl) (castBM (K := K) (pe_bm PySem.F.plainAttrs_str PySem.F.slot_str_split PySem.F.type_str_split mt_splK (pv 0) (pa_cons pe_str pa_nil))))
      (pss_cons (ps_set (i := 2) sc_text_rows.nd rfl (by first | exact .inl rfl | exact .inr rfl) (castBM0 (K := K) (pe_bm0 PySem.F.plainAttrs_list PySem.F.slot_list_pop PySem.F.type_list_pop mt_pop (pv 1))))
      (pss_one (ps_ret (pe_ifExp (pt_cmpR op_eq (pv 2) pe_str (nomark _)) (pe_tup (pa_cons (pv 1) (pa_cons pe_bl pa_nil))) (pe_tup (pa_cons (pe_op op_cat (pv 1) (pe_lst (pa_cons (pv 2) pa_nil))) (pa_cons pe_bl pa_nil))))))))), ?_⟩
    walk_at "st"
    walk_at "if"
    walk_at "st"
    refine ⟨_, _, rfl, rfl, rfl, by rw [Sx_len]; exact Nat.le_trans (show (linesC L).length + 2 ≤ 5002 by omega) (by decide), fun l hl => ?_⟩
    have e1 : (Txt.split (Sx (linesC L)) (Str.ofString "\n")).map V.str = (L.map fun p => V.str (Sx p)) ++ [V.str (Sx [])] := by
      have e := SX.split_S (a := linesC L) (b := [10]) (by simp) (by decide)
      rw [lines_split hL] at e
      rw [show Txt.split (Sx (linesC L)) (Str.ofString "\n") = _ from e, List.map_append, List.map_append, List.map_map, List.map_map]; rfl
    rw [e1]
    have n1 : (List.map (fun p => V.str (Sx p)) L ++ [V.str (Sx [])])[(List.map (fun p => V.str (Sx p)) L ++ [V.str (Sx [])]).length - 1]? = some (V.str (Sx [])) := by
      rw [List.length_append, List.getElem?_append_right (by simp)]
      simp
    walk_at "st"
    refine ⟨_, rfl, .inl ⟨rfl, _, SqL.of upd_same⟩, l, _, _, rfl, rfl, upd_same, n1, ?_⟩
    rw [List.dropLast_concat]
    have s1 : Same H (upd (upd H l (.lst (List.map (fun p => V.str (Sx p)) L ++ [V.str (Sx [])]))) l (.lst (List.map (fun p => V.str (Sx p)) L))) := fun b o e => hl_set (ne_of_none e hl) (hl_set (ne_of_none e hl) e)
    have el : upd (upd H l (.lst (List.map (fun p => V.str (Sx p)) L ++ [V.str (Sx [])]))) l (.lst (List.map (fun p => V.str (Sx p)) L)) l = some (.lst (List.map (fun p => V.str (Sx p)) L)) := upd_same
    generalize upd (upd H l (.lst (List.map (fun p => V.str (Sx p)) L ++ [V.str (Sx [])]))) l (.lst (List.map (fun p => V.str (Sx p)) L)) = H1 at *
    walk_at "st"
    rw [if_pos (decide_eq_true (show V.str (Sx []) = V.str (Str.ofString "") from rfl))]
    walk_at "st"
    intro t ht
    exact q t l _ (s1.trans (Same.upd_new ht)) hl upd_same (hl_new el ht)
theorem ok_numbers_told {c_PaperReader : Addr} (T : Tx K mg c_PaperReader) {f_read_figures : Addr} {fd_read_figures : FuncData} (C_read_figures : Cal P w K mg base "read_figures" 2 ["text", "most"] (sp_read_figures K) s_read_figures f_read_figures fd_read_figures) {f : Addr} {fd : FuncData} (F : Here K mg "numbers_told" s_numbers_told ["words"] f fd) : Cal P w K mg base "numbers_told" 3 ["words"] (sp_numbers_told K) s_numbers_told f fd := by
  refine F.cal sc_numbers_told (fun vs H Q E h => ?_) (fun cdv A outer s H vs Q E hr h => ?_)
  · obtain ⟨l, r, rfl, _⟩ := h
    rfl
  · obtain ⟨l, r, rfl, hl, lr, sm, q⟩ := h
    refine ⟨_, (pss_cons (ps_set (i := 1) sc_numbers_told.nd rfl (by first | exact .inl rfl | exact .inr rfl) (pe_callTy (cr_tupOfK (K := K)) (by rfl) T.m_tuple (by decide +kernel) (pa_cons (pe_lc rfl sc_numbers_told.nd (pi_listK (K := K) (pv 0)) (blkOk_by (own := [("word", 2)]) (N := ["words", "numbers", "word"]) (sc := (defScope s_numbers_told)) (by decide +kernel)) (fun _ _ _ _ _ => (pg_name (i := 2) sc_numbers_told.nd rfl (by first | exact .inl rfl | exact .inr rfl))) (fun _ _ _ _ _ => pts_nil) (fun _ _ _ _ _ => (pe_call C_read_figures.ok (hr.mono (by decide)) (by rfl) C_read_figures.at_ C_read_figures.kp C_read_figures.b .nil pass0 (pa_cons (pv 2) (pa_cons (pe_glob (v := .int 5) (by rfl) (T.c_MOST_FIGURES).choose_spec ⟨_, rfl⟩) pa_nil))))) pa_nil)))
      (pss_one (ps_ret (pe_ifExp (pt_cmpR (op_inSeqK (K := K)) pe_non (pv 1) (by rfl)) pe_non (pv 1))))), ?_⟩
    walk_at "st"
    intro D hD
    refine lc_map (walk_list (xs := r.map fun n => V.str (Sx (numC n)))) (by rw [List.length_map]; omega) hD (fun i y _ => ∃ m, r[i]? = some m ∧ y = .int m) (fun _ _ _ _ h _ => h) (fun _ _ _ _ _ h _ => h) (fun H' k => SqL.of (k _ _ hl)) (fun i H1 x H2 y => by rw [y.1]; exact Same.refl _)
      (fun i x H1 H2 Y No hi s1 y hY => ?_) (fun ys H' el s1 eD hys => ?_)
    · obtain ⟨rfl, ex⟩ := y
      rw [List.getElem?_map] at ex
      cases er : r[i]? with
      | none => rw [er] at ex; cases ex
      | some n =>
        rw [er] at ex
        obtain rfl : V.str (Sx (numC n)) = x := Option.some.inj ex
        have hn := sm n (List.mem_of_getElem? er)
        refine ⟨rfl, ?_⟩
        walk_at "st"
        refine ⟨numC n, 5, rfl, Nat.le_trans (numC5 hn) (by decide), by decide, fun H3 s3 => ?_⟩
        rw [fig5 hn]
        exact hY _ _ s3 ⟨n, er, rfl⟩
    · obtain rfl := list_ext_int (by rw [el, List.length_map]) hys
      walk_at "st"
      intro t ht
      walk_at "st"
      have nf : (r.map V.int).all flatV = true := List.all_eq_true.mpr fun x m => by
        obtain ⟨n, _, rfl⟩ := List.mem_map.mp m
        rfl
      have ni : inV .non (r.map V.int) = false := by
        unfold inV
        rw [List.any_map]
        refine List.any_eq_false.mpr fun n _ => ?_
        show ¬ eqV (.int n) .non = true
        simp [eqV]
      refine ⟨t, r.map V.int, rfl, .inr (SqT.of upd_same), rfl, nf, ?_⟩
      rw [ni]
      rw [if_neg (by simp)]
      refine ⟨false, rfl, ?_⟩
      rw [if_neg (by simp)]
      walk_at "st"
      exact q t _ (s1.trans (Same.upd_new ht)) upd_same
end
local macro_rules | `(tactic| walk_at "ssz") => `(tactic| first | decide | exact str_small (by assumption) | (have : (1000000 : Nat) ≤ sizeLine := (by decide); omega))
local macro_rules | `(tactic| walk_at "st1") => `(tactic| first
  | with_reducible refine' r_nt ?_ | with_reducible refine' r_nf ?_
  | ((with_reducible refine r_lenS ?e1 ?_); (case e1 => walk_at "ssz"))
  | with_reducible refine r_inS ?_
  | with_reducible refine r_ninS ?_
  | ((with_reducible refine r_addS ?e1 ?_); (case e1 => walk_at "ssz"))
  | ((with_reducible refine' r_ixS ?e1 ?e2 ?_); (case e1 => walk_at "ssz"); (case e2 => first | assumption | rfl))
  | with_reducible refine r_istr ?_
  | with_reducible refine r_is ?_
  | with_reducible refine r_un ?_
  | with_reducible refine r_u ?_)
local macro_rules | `(tactic| walk_at "st1") => `(tactic| first
  | with_reducible refine r_tru ?_
  | ((with_reducible refine' r_truT ?e1 ?_); (case e1 => walk_at "sq"))
  | with_reducible refine r_isN ?_
  | with_reducible refine r_tyS ?_
  | with_reducible refine r_m1 ?_
  | with_reducible refine r_sx ?_
  | ((with_reducible refine r_strC ?e1 ?_); (case e1 => omega)))
local macro_rules | `(tactic| walk_at "st1") => `(tactic| first
  | with_reducible refine r_fld ?_
  | with_reducible refine r_sfld ?_
  | ((with_reducible refine' r_fldr ?e1 ?e2 ?e3 ?e4 ?_); (case e1 => walk_at "hl"); (case e2 => assumption); (case e3 => assumption); (case e4 => assumption)))
/-! ### the reader of papers -/
def PrsAt (H : Hp) (us : List V) (ps : List (Int × Int)) : Prop := us.length = ps.length ∧ ∀ (i : Nat) (v : V), us[i]? = some v → ∃ p, ps[i]? = some p ∧ ∃ t, v = .ref t ∧ H t = some (.tup [.int p.1, .int p.2])
theorem PrsAt.same {H H' : Hp} {us : List V} {ps : List (Int × Int)} (h : PrsAt H us ps) (k : ∀ t xs, H t = some (.tup xs) → H' t = some (.tup xs)) : PrsAt H' us ps :=
  ⟨h.1, fun i v e => by
    obtain ⟨p, ep, t, rfl, ht⟩ := h.2 i v e
    exact ⟨p, ep, t, rfl, k _ _ ht⟩⟩
theorem PrsAt.snoc {H : Hp} {us : List V} {ps : List (Int × Int)} {t : Addr} {p : Int × Int} (h : PrsAt H us ps) (ht : H t = some (.tup [.int p.1, .int p.2])) : PrsAt H (us ++ [.ref t]) (ps ++ [p]) :=
  ⟨by rw [List.length_append, List.length_append, h.1]; rfl, fun i v e => by
    by_cases c : i < us.length
    · rw [List.getElem?_append_left c] at e
      rw [List.getElem?_append_left (by rw [← h.1]; exact c)]
      exact h.2 i v e
    · rw [List.getElem?_append_right (by omega)] at e
      rw [List.getElem?_append_right (by rw [← h.1]; omega), ← h.1]
      cases hi : i - us.length with
      | zero => rw [hi] at e; exact ⟨p, rfl, t, (Option.some.inj (show some (V.ref t) = some v from e)).symm, ht⟩
      | succ n => rw [hi] at e; simp at e⟩
theorem Rws.tups {H H' : Hp} {us : List V} {rows : List (List Int)} (h : Rws H us rows) (k : ∀ t xs, H t = some (.tup xs) → H' t = some (.tup xs)) : Rws H' us rows :=
  ⟨h.1, fun i v e => by
    obtain ⟨r, er, c, rfl, hc⟩ := h.2 i v e
    exact ⟨r, er, c, rfl, k _ _ hc⟩⟩
def rdF (A B : Addr) : List (Str × V) := putF "rows_told" (.ref B) (putF "pairs_told" (.ref A) [])
theorem rd_ne : ¬ (("pairs_told" : Str) = "rows_told") := by decide +kernel
theorem rdF_eq (A B : Addr) : rdF A B = ([("pairs_told", V.ref A), ("rows_told", V.ref B)] : List (Str × V)) := by
  show (if ("pairs_told" : Str) = "rows_told" then [(("pairs_told" : Str), V.ref B)] else (("pairs_told" : Str), V.ref A) :: putF "rows_told" (V.ref B) []) = _
  rw [if_neg rd_ne]
  all_goals rfl
theorem rdF_p (A B : Addr) : (rdF A B).lookup ("pairs_told" : Str) = some (.ref A) := by
  unfold rdF
  rw [lookup_putF, if_neg rd_ne, lookup_putF, if_pos rfl]
theorem rdF_r (A B : Addr) : (rdF A B).lookup ("rows_told" : Str) = some (.ref B) := by
  unfold rdF
  rw [lookup_putF, if_pos rfl]
theorem rdF_no (A B : Addr) {m : Str} (h1 : ¬ m = "rows_told") (h2 : ¬ m = "pairs_told") : (rdF A B).lookup m = none := by
  unfold rdF
  rw [lookup_putF, if_neg h1, lookup_putF, if_neg h2]
  all_goals rfl
structure RdS (C : Addr) (H : Hp) (p A B : Addr) (ls : List Addr) (d : Sheet) : Prop where
  ob : ∃ dx, H p = some (.ins C dx (rdF A B))
  nd : (A :: B :: ls).Nodup
  prs : ∃ ua, H A = some (.lst ua) ∧ PrsAt H ua (d.map fun x => x.1)
  lst : H B = some (.lst (ls.map V.ref))
  len : ls.length = d.length
  row : ∀ (i : Nat) (l : Addr), ls[i]? = some l → ∃ x us, d[i]? = some x ∧ H l = some (.lst us) ∧ Rws H us x.2
theorem RdS.same {C : Addr} {H H' : Hp} {p A B : Addr} {ls : List Addr} {d : Sheet} (h : RdS C H p A B ls d) (k : Same H H') : RdS C H' p A B ls d := by
  obtain ⟨⟨dx, hp⟩, nd, ⟨ua, hA, pr⟩, hB, len, row⟩ := h
  exact ⟨⟨dx, k _ _ hp⟩, nd, ⟨ua, k _ _ hA, pr.same fun t xs e => k _ _ e⟩, k _ _ hB, len, fun i l e => by
    obtain ⟨x, us, ex, hl, r⟩ := row i l e
    exact ⟨x, us, ex, k _ _ hl, r.same k⟩⟩
def sp_PaperReader___init__ (_ : PySem.W.Frag) (C : Addr) : Sp := fun vs H Q _ => ∃ (p dx : Addr), vs = [.ref p] ∧ H p = some (.ins C dx []) ∧
  ∀ (A B : Addr) (H' : Hp), (∀ b o, H b = some o → b ≠ p → H' b = some o) → H A = none → H B = none → RdS C H' p A B [] [] → Q .non H'
def ltP2 (p q : Int × Int) : Prop := p.1 < q.1 ∨ (p.1 = q.1 ∧ p.2 < q.2)
def sp_PaperReader_reads_pair (_ : PySem.W.Frag) (C : Addr) : Sp := fun vs H Q _ => ∃ (p A B t : Addr) (ls : List Addr) (d : Sheet) (pr : Int × Int), vs = [.ref p, .ref t] ∧ RdS C H p A B ls d ∧ H t = some (.tup [.int pr.1, .int pr.2]) ∧ (∀ x, d.getLast? = some x → ltP2 x.1 pr) ∧ d.length ≤ 100 ∧
  ∀ (l : Addr) (H' : Hp), H l = none → Kp (A :: B :: ls) H H' → RdS C H' p A B (ls ++ [l]) (d ++ [(pr, [])]) → Q (.bl true) H'
section
variable {P : Program} {w : World} {K : PySem.W.Frag} {mg : Str → Option Value} {base : Heap}
theorem ok_PaperReader___init__ {c_PaperReader : Addr} (T : Tx K mg c_PaperReader)  {f : Addr} {fd : FuncData} (F : HereI K c_PaperReader "__init__" "PaperReader.__init__" s_PaperReader___init__ ["self"] f fd) : CalI P w K mg base c_PaperReader "__init__" 1 ["self"] (sp_PaperReader___init__ K c_PaperReader) s_PaperReader___init__ f fd := by
  refine F.cal sc_PaperReader___init__ (fun vs H Q E h => ?_) (fun cdv A outer s H vs Q E hr h => ?_)
  · obtain ⟨p, dx, rfl, _⟩ := h
    rfl
  · obtain ⟨p, dx, rfl, hp, q⟩ := h
    refine ⟨_, (pss_cons (ps_fldK (K := K) (pv 0) (pe_lst pa_nil) rfl)
      (pss_one (ps_fldK (K := K) (pv 0) (pe_lst pa_nil) rfl))), ?_⟩
    walk_at "st"
    intro a ha
    have npa : p ≠ a := ne_of_none hp ha
    walk_at "st"
    refine r_sfr (hl_set npa hp) T.cl_PaperReader T.na_pairs_told (by show 0 < 1000; decide) ?_
    walk_at "st"
    intro b hb
    have nbp : p ≠ b := fun e => by rw [e, upd_same] at hb; cases hb
    have nba : a ≠ b := fun e => by rw [← e, upd_ne npa.symm, upd_same] at hb; cases hb
    walk_at "st"
    refine r_sfr (hl_set nbp upd_same) T.cl_PaperReader T.na_rows_told (by show 1 < 1000; decide) ?_
    have hb0 : H b = none := by
      rw [upd_ne nbp.symm, upd_ne nba.symm] at hb
      exact hb
    refine q a b _ (fun c o e ne => hl_set ne (hl_set (ne_of_none e hb0) (hl_set ne (hl_set (ne_of_none e ha) e)))) ha hb0 ⟨⟨dx, upd_same⟩, ?_, ⟨[], hl_set npa.symm (hl_set nba (hl_set npa.symm upd_same)), rfl, fun i v e => by simp at e⟩, hl_set nbp.symm upd_same, rfl, fun i l e => by simp at e⟩
    simp [nba]
theorem ok_PaperReader_reads_pair {c_PaperReader : Addr} (T : Tx K mg c_PaperReader)  {f : Addr} {fd : FuncData} (F : HereM K c_PaperReader "reads_pair" "PaperReader.reads_pair" s_PaperReader_reads_pair ["self", "pair"] f fd) : CalM P w K mg base c_PaperReader "reads_pair" 1 ["self", "pair"] (sp_PaperReader_reads_pair K c_PaperReader) s_PaperReader_reads_pair f fd := by
  refine F.cal sc_PaperReader_reads_pair (fun vs H Q E h => ?_) (fun cdv A' outer s H vs Q E hr h => ?_)
  · obtain ⟨p, A, B, t, ls, d, pr, rfl, _⟩ := h
    rfl
  · obtain ⟨p, A, B, t, ls, d, pr, rfl, R, ht, hlt, hlen, q⟩ := h
    refine ⟨_, (pss_cons (ps_if (PW.pt (pw_or (pt_cmpR op_isNn (pv 1) pe_non (nomark _)) (pw_or (pt_cmpR op_ne (pe_callB (cr_lenK (K := K)) (by rfl) T.m_len (by decide +kernel) (pa_cons (pv 1) pa_nil)) pe_int (nomark _)) (pw_or1 (PW.pt (pw_and (pt_truthK (K := K) (pe_fldK (K := K) (pv 0) rfl) (by intro _; rfl)) (pw_and1 (pt_cmpR (op_leTK (K := K) (hu_of64 hr)) (pv 1) (pe_ix (ix_listK (K := K)) (pe_fldK (K := K) (pv 0) rfl) (pe_un un_neg pe_int) (fun _ _ => rfl)) (nomark _))))))))) (pss_one (ps_ret pe_bl)) pss_nil)
      (pss_cons (ps_expr (castBM (K := K) (pe_bm PySem.F.plainAttrs_list PySem.F.slot_list_append PySem.F.type_list_append mt_append (pe_fldK (K := K) (pv 0) rfl) (pa_cons (pv 1) pa_nil))))
      (pss_cons (ps_expr (castBM (K := K) (pe_bm PySem.F.plainAttrs_list PySem.F.slot_list_append PySem.F.type_list_append mt_append (pe_fldK (K := K) (pv 0) rfl) (pa_cons (pe_lst pa_nil) pa_nil))))
      (pss_one (ps_ret pe_bl))))), ?_⟩
    obtain ⟨⟨dx, hp⟩, nd, ⟨ua, hA, pa⟩, hB, len, row⟩ := R
    have cl := T.cl_PaperReader
    have n1 := T.na_pairs_told
    have n2 := T.na_rows_told
    have l1 := rdF_p A B
    have l2 := rdF_r A B
    walk_at "st"
    walk_at "if"
    walk_at "st"
    rw [if_neg (by simp)]
    walk_at "st"
    rw [if_neg (by simp)]
    refine r_joinT (fun b H' => b = false ∧ H' = H) (fun v H' g => ?_) (fun R' hR => ?_)
    · obtain ⟨rfl, rfl⟩ := g
      have lua : ua.length ≤ 100 := by rw [pa.1, List.length_map]; exact hlen
      have lls : ls.length ≤ 100 := by rw [len]; exact hlen
      have nAB : A ≠ B := fun e => (List.nodup_cons.mp nd).1 (by rw [e]; exact List.mem_cons_self)
      have nAl : A ∉ ls := fun m => (List.nodup_cons.mp nd).1 (List.mem_cons_of_mem _ m)
      have nBl : B ∉ ls := fun m => (List.nodup_cons.mp (List.nodup_cons.mp nd).2).1 m
      have npA : p ≠ A := ne_of hp hA (by intro z; cases z)
      have npB : p ≠ B := ne_of hp hB (by intro z; cases z)
      have z1 : ua.length < sizeLine := Nat.lt_of_le_of_lt lua (by decide)
      have z2 : (ls.map V.ref).length < sizeLine := Nat.lt_of_le_of_lt (by rw [List.length_map]; exact lls) (by decide)
      walk_at "st"
      intro l hl
      have hl0 : H' l = none := by
        by_cases c : l = A
        · rw [c, upd_same] at hl; cases hl
        · rwa [upd_ne c] at hl
      have nlA : l ≠ A := (ne_of_none hA hl0).symm
      have nlB : l ≠ B := (ne_of_none hB hl0).symm
      have hp2 : upd (upd H' A (.lst (ua ++ [.ref t]))) l (.lst []) p = some (.ins _ dx (rdF A B)) := hl_set (ne_of_none hp hl0) (hl_set npA hp)
      have hB2 : upd (upd H' A (.lst (ua ++ [.ref t]))) l (.lst []) B = some (.lst (ls.map V.ref)) := hl_set nlB.symm (hl_set nAB.symm hB)
      walk_at "st"
      have keep : ∀ c o, H' c = some o → c ≠ A → c ≠ B → upd (upd (upd H' A (.lst (ua ++ [.ref t]))) l (.lst [])) B (.lst (ls.map V.ref ++ [.ref l])) c = some o := fun c o e n1 n2 => hl_set n2 (hl_set (ne_of_none e hl0) (hl_set n1 e))
      have tups : ∀ c xs, H' c = some (.tup xs) → upd (upd (upd H' A (.lst (ua ++ [.ref t]))) l (.lst [])) B (.lst (ls.map V.ref ++ [.ref l])) c = some (.tup xs) := fun c xs e => keep c _ e (fun z => by rw [z, hA] at e; cases e) (fun z => by rw [z, hB] at e; cases e)
      have hl2 : upd (upd (upd H' A (.lst (ua ++ [.ref t]))) l (.lst [])) B (.lst (ls.map V.ref ++ [.ref l])) l = some (.lst []) := hl_set nlB upd_same
      have hA2 : upd (upd (upd H' A (.lst (ua ++ [.ref t]))) l (.lst [])) B (.lst (ls.map V.ref ++ [.ref l])) A = some (.lst (ua ++ [.ref t])) := hl_set nAB (hl_set nlA.symm upd_same)
      have hB3 : upd (upd (upd H' A (.lst (ua ++ [.ref t]))) l (.lst [])) B (.lst (ls.map V.ref ++ [.ref l])) B = some (.lst ((ls ++ [l]).map V.ref)) := by rw [upd_same, List.map_append]; rfl
      have hp3 := keep p _ hp npA npB
      generalize upd (upd (upd H' A (.lst (ua ++ [.ref t]))) l (.lst [])) B (.lst (ls.map V.ref ++ [.ref l])) = HZ at *
      refine q l HZ hl0 (fun c o e nm => keep c o e (fun z => nm (by rw [z]; exact List.mem_cons_self)) fun z => nm (by rw [z]; simp)) ⟨⟨dx, hp3⟩, ?_, ⟨_, hA2, ?_⟩, hB3, by rw [List.length_append, List.length_append, len]; rfl, fun i k e => ?_⟩
      · have e : A :: B :: (ls ++ [l]) = (A :: B :: ls) ++ [l] := rfl
        rw [e]
        refine List.nodup_append.mpr ⟨nd, List.pairwise_singleton _ _, fun x hx y hy => ?_⟩
        rw [List.mem_singleton.mp hy]
        intro z
        rw [z] at hx
        rcases List.mem_cons.mp hx with z | hx
        · exact nlA z
        · rcases List.mem_cons.mp hx with z | hx
          · exact nlB z
          · obtain ⟨j, ej⟩ := List.getElem?_of_mem hx
            obtain ⟨_, us, _, h1, _⟩ := row j l ej
            rw [hl0] at h1; cases h1
      · rw [List.map_append]
        exact (pa.same tups).snoc (tups _ _ ht)
      · by_cases c : i < ls.length
        · rw [List.getElem?_append_left c] at e
          obtain ⟨x, us, ex, h1, r1⟩ := row i k e
          have mk := List.mem_of_getElem? e
          exact ⟨x, us, by rw [List.getElem?_append_left (by rw [← len]; exact c)]; exact ex, keep k _ h1 (fun z => nAl (z ▸ mk)) (fun z => nBl (z ▸ mk)), r1.tups tups⟩
        · rw [List.getElem?_append_right (by omega)] at e
          have e0 : i - ls.length = 0 := by
            cases h0 : i - ls.length with
            | zero => rfl
            | succ n => rw [h0] at e; simp at e
          rw [e0] at e
          obtain rfl : l = k := Option.some.inj (show some l = some k from e)
          refine ⟨(pr, []), [], ?_, hl2, rfl, fun i v e => by simp at e⟩
          rw [List.getElem?_append_right (by rw [← len]; omega), ← len, e0]; rfl
    · walk_at "st"
      refine ⟨!ua.isEmpty, .inl ⟨ua, SqL.of hA, rfl⟩, ?_⟩
      rcases List.eq_nil_or_concat ua with e | ⟨ua', v, e⟩
      · subst e
        exact hR _ _ ⟨rfl, rfl⟩
      · rw [List.concat_eq_append] at e
        subst e
        rw [if_pos (by simp)]
        have ix := atI_last ua' v
        obtain ⟨pp, ep, tl, rfl, htl⟩ := pa.2 ua'.length v (by rw [List.getElem?_append_right (Nat.le_refl _), Nat.sub_self]; rfl)
        walk_at "st"
        have hlast : d.getLast?.map (fun x => x.1) = some pp := by
          rw [← List.getLast?_map]
          have l := pa.1
          rw [List.length_append] at l
          rw [List.getLast?_eq_getElem?, ← l]
          exact ep
        obtain ⟨x, ex, exp⟩ := Option.map_eq_some_iff.mp hlast
        have lt := hlt x ex
        rw [exp] at lt
        refine ⟨t, tl, [pr.1, pr.2], [pp.1, pp.2], rfl, rfl, SqT.of ht, SqT.of htl, ?_⟩
        have ef : Ob.lexAt (fun j => decide ([pr.1, pr.2].getD j 0 = [pp.1, pp.2].getD j 0)) (fun j => decide ([pr.1, pr.2].getD j 0 ≤ [pp.1, pp.2].getD j 0)) (decide ([pr.1, pr.2].length ≤ [pp.1, pp.2].length)) 0 (min [pr.1, pr.2].length [pp.1, pp.2].length) = false := by
          show (if decide (pr.1 = pp.1) = true then (if decide (pr.2 = pp.2) = true then decide (2 ≤ 2) else decide (pr.2 ≤ pp.2)) else decide (pr.1 ≤ pp.1)) = false
          unfold ltP2 at lt
          by_cases c : pr.1 = pp.1
          · have n2 : ¬ pr.2 = pp.2 := by omega
            rw [if_pos (decide_eq_true c), if_neg (fun z => n2 (of_decide_eq_true z))]
            exact decide_eq_false (by omega)
          · rw [if_neg (fun z => c (of_decide_eq_true z))]
            exact decide_eq_false (by omega)
        rw [ef]
        exact ⟨false, rfl, hR _ _ ⟨rfl, rfl⟩⟩
end
local macro_rules | `(tactic| walk_at "ssz") => `(tactic| first | decide | exact str_small (by assumption) | (have : (1000000 : Nat) ≤ sizeLine := (by decide); omega))
local macro_rules | `(tactic| walk_at "st1") => `(tactic| first
  | with_reducible refine' r_nt ?_ | with_reducible refine' r_nf ?_
  | ((with_reducible refine r_lenS ?e1 ?_); (case e1 => walk_at "ssz"))
  | with_reducible refine r_inS ?_
  | with_reducible refine r_ninS ?_
  | ((with_reducible refine r_addS ?e1 ?_); (case e1 => walk_at "ssz"))
  | ((with_reducible refine' r_ixS ?e1 ?e2 ?_); (case e1 => walk_at "ssz"); (case e2 => first | assumption | rfl))
  | with_reducible refine r_istr ?_
  | with_reducible refine r_is ?_
  | with_reducible refine r_un ?_
  | with_reducible refine r_u ?_)
local macro_rules | `(tactic| walk_at "st1") => `(tactic| first
  | with_reducible refine r_tru ?_
  | ((with_reducible refine' r_truT ?e1 ?_); (case e1 => walk_at "sq"))
  | with_reducible refine r_isN ?_
  | with_reducible refine r_tyS ?_
  | with_reducible refine r_m1 ?_
  | with_reducible refine r_sx ?_
  | ((with_reducible refine r_strC ?e1 ?_); (case e1 => omega)))
local macro_rules | `(tactic| walk_at "st1") => `(tactic| first
  | with_reducible refine r_fld ?_
  | with_reducible refine r_sfld ?_
  | ((with_reducible refine' r_fldr ?e1 ?e2 ?e3 ?e4 ?_); (case e1 => walk_at "hl"); (case e2 => assumption); (case e3 => assumption); (case e4 => assumption)))
def sp_PaperReader_reads (_ : PySem.W.Frag) (C : Addr) : Sp := fun vs H Q _ => ∃ (p A B : Addr) (ls : List Addr) (d : Sheet) (a : List Nat), vs = [.ref p, .str (Sx a)] ∧ RdS C H p A B ls d ∧ d.length ≤ 100 ∧
  ((∃ pr, a = pairC pr ∧ (Sm pr.1 ∧ Sm pr.2) ∧ (∀ x, d.getLast? = some x → ltP2 x.1 pr) ∧ ∀ (l : Addr) (H' : Hp), H l = none → Kp (A :: B :: ls) H H' → RdS C H' p A B (ls ++ [l]) (d ++ [(pr, [])]) → Q (.bl true) H') ∨
   ∃ (r : List Int) (d0 : Sheet) (x : (Int × Int) × List (List Int)), a = rowC r ∧ r ≠ [] ∧ r.length ≤ 6 ∧ (∀ n ∈ r, Sm n) ∧ d = d0 ++ [x] ∧ x.2.length ≤ 100 ∧ ∀ H' : Hp, Kp (A :: B :: ls) H H' → RdS C H' p A B ls (d0 ++ [(x.1, x.2 ++ [r])]) → Q (.bl true) H')
theorem spl_words (a : List Nat) : (Txt.split (Sx a) (Str.ofString " ")).map V.str = (TL.spl [32] 0 [] a).map fun p => V.str (Sx p) := by
  have e := SX.split_S (a := a) (b := [32]) (by simp) (by decide)
  rw [show Txt.split (Sx a) (Str.ofString " ") = _ from e, List.map_map]; rfl
theorem kp_app {S T : List Addr} {H H' : Hp} (k : Kp S H H') (s : ∀ b ∈ S, b ∈ T) : Kp T H H' := fun b o e n => k b o e fun m => n (s b m)
section
variable {P : Program} {w : World} {K : PySem.W.Frag} {mg : Str → Option Value} {base : Heap}
theorem ok_PaperReader_reads {c_PaperReader : Addr} (T : Tx K mg c_PaperReader) {f_numbers_told : Addr} {fd_numbers_told : FuncData} (C_numbers_told : Cal P w K mg base "numbers_told" 3 ["words"] (sp_numbers_told K) s_numbers_told f_numbers_told fd_numbers_told) {f_PaperReader_reads_pair : Addr} {fd_PaperReader_reads_pair : FuncData} (C_PaperReader_reads_pair : CalM P w K mg base c_PaperReader "reads_pair" 1 ["self", "pair"] (sp_PaperReader_reads_pair K c_PaperReader) s_PaperReader_reads_pair f_PaperReader_reads_pair fd_PaperReader_reads_pair) {f : Addr} {fd : FuncData} (F : HereM K c_PaperReader "reads" "PaperReader.reads" s_PaperReader_reads ["self", "row"] f fd) : CalM P w K mg base c_PaperReader "reads" 4 ["self", "row"] (sp_PaperReader_reads K c_PaperReader) s_PaperReader_reads f fd := by
  refine F.cal sc_PaperReader_reads (fun vs H Q E h => ?_) (fun cdv A' outer s H vs Q E hr h => ?_)
  · obtain ⟨p, A, B, ls, d, a, rfl, _⟩ := h
    rfl
  · obtain ⟨p, A, B, ls, d, a, rfl, R, hlen, h⟩ := h
    refine ⟨_, (pss_cons (ps_set (i := 2) sc_PaperReader_reads.nd rfl (by first | exact .inl rfl | exact .inr rfl) (castBM (K := K) (pe_bm PySem.F.plainAttrs_str PySem.F.slot_str_split PySem.F.type_str_split mt_splK (pv 1) (pa_cons pe_str pa_nil))))
      (pss_cons (ps_if (pt_cmpR op_eq (pe_ix (ix_listK (K := K)) (pv 2) pe_int (fun _ _ => rfl)) pe_str (nomark _)) (pss_one (ps_ret (pe_meth (pv 0) T.cl_PaperReader C_PaperReader_reads_pair.me C_PaperReader_reads_pair.ok (hr.mono (by decide)) C_PaperReader_reads_pair.b .nil pass0 (pa_cons (pe_call C_numbers_told.ok (hr.mono (by decide)) (by rfl) C_numbers_told.at_ C_numbers_told.kp C_numbers_told.b .nil pass0 (pa_cons (pe_slice (sl_listK (K := K)) (pv 2) (po_some pe_int) po_none) pa_nil)) pa_nil)))) pss_nil)
      (pss_cons (ps_set (i := 3) sc_PaperReader_reads.nd rfl (by first | exact .inl rfl | exact .inr rfl) (pe_call C_numbers_told.ok (hr.mono (by decide)) (by rfl) C_numbers_told.at_ C_numbers_told.kp C_numbers_told.b .nil pass0 (pa_cons (pv 2) pa_nil)))
      (pss_cons (ps_if (PW.pt (pw_or (pt_cmpR op_isNn (pv 3) pe_non (nomark _)) (pw_or1 (pt_not (pt_truthK (K := K) (pe_fldK (K := K) (pv 0) rfl) (by intro _; rfl)))))) (pss_one (ps_ret pe_bl)) pss_nil)
      (pss_cons (ps_expr (castBM (K := K) (pe_bm PySem.F.plainAttrs_list PySem.F.slot_list_append PySem.F.type_list_append mt_append (pe_ix (ix_listK (K := K)) (pe_fldK (K := K) (pv 0) rfl) (pe_un un_neg pe_int) (fun _ _ => rfl)) (pa_cons (pv 3) pa_nil))))
      (pss_one (ps_ret pe_bl))))))), ?_⟩
    have hla : a.length ≤ 1000 := by
      rcases h with ⟨pr, rfl, sm, _⟩ | ⟨r, _, _, rfl, _, l6, sm, _⟩
      · exact Nat.le_trans (pair_len sm) (by decide)
      · exact Nat.le_trans (row_len l6 sm) (by decide)
    walk_at "st"
    refine ⟨_, _, rfl, rfl, rfl, by rw [Sx_len]; exact Nat.le_trans (show a.length + 2 ≤ 1002 by omega) (by decide), fun lw hlw => ?_⟩
    rw [spl_words]
    rcases h with ⟨pr, rfl, sm, hlt, q⟩ | ⟨r, d0, x, rfl, ne, l6, sm, rfl, lx, q⟩
    · rw [pair_words]
      have s1 := Same.upd_new (x := .lst ([[112, 97, 105, 114], numC pr.1, numC pr.2].map fun p => V.str (Sx p))) hlw
      have ew : upd H lw (.lst ([[112, 97, 105, 114], numC pr.1, numC pr.2].map fun p => V.str (Sx p))) lw = some (.lst [V.str (Sx [112, 97, 105, 114]), V.str (Sx (numC pr.1)), V.str (Sx (numC pr.2))]) := upd_same
      generalize upd H lw (.lst ([[112, 97, 105, 114], numC pr.1, numC pr.2].map fun p => V.str (Sx p))) = H1 at *
      have ix : atI [V.str (Sx [112, 97, 105, 114]), V.str (Sx (numC pr.1)), V.str (Sx (numC pr.2))] 0 = some (V.str (Sx [112, 97, 105, 114])) := (show atI _ ((0 : Nat) : Int) = _ from atI_nat rfl) -- (atI_nat (j := 0) rfl)
      walk_at "st"
      walk_at "if"
      rw [if_pos (decide_eq_true (show V.str (Sx [112, 97, 105, 114]) = V.str (Str.ofString "pair") from rfl))]
      have R1 := R.same s1
      obtain ⟨dx, hp⟩ := R1.ob
      refine ⟨_, rfl, p, dx, _, rfl, hp, rdF_no A B (by decide +kernel) (by decide +kernel), ?_⟩
      walk_at "st"
      intro l2 hl2
      have ec : cutV [V.str (Sx [112, 97, 105, 114]), V.str (Sx (numC pr.1)), V.str (Sx (numC pr.2))] (some 1) none = [pr.1, pr.2].map fun n => V.str (Sx (numC n)) := rfl
      rw [ec]
      have s2 := Same.upd_new (x := .lst ([pr.1, pr.2].map fun n => V.str (Sx (numC n)))) hl2
      have e2 : upd H1 l2 (.lst ([pr.1, pr.2].map fun n => V.str (Sx (numC n)))) l2 = some (.lst ([pr.1, pr.2].map fun n => V.str (Sx (numC n)))) := upd_same
      generalize upd H1 l2 (.lst ([pr.1, pr.2].map fun n => V.str (Sx (numC n)))) = H2 at *
      walk_at "st"
      refine ⟨l2, [pr.1, pr.2], rfl, e2, by simp, fun n m => by
        simp only [List.mem_cons, List.not_mem_nil, or_false] at m
        rcases m with rfl | rfl
        · exact sm.1
        · exact sm.2, fun t H3 s3 et => ?_⟩
      walk_at "st"
      have S3 := (s1.trans s2).trans s3
      refine ⟨p, A, B, t, ls, d, pr, rfl, R.same S3, et, hlt, hlen, fun l H' hl k R' => ?_⟩
      walk_at "st"
      refine q l H' ?_ (fun b o e n => k b o (S3 _ _ e) n) R'
      cases hh : H l with
      | none => rfl
      | some o => rw [S3 _ _ hh] at hl; cases hl
    · rw [row_words ne]
      rw [List.map_map]
      have s1 := Same.upd_new (x := .lst (r.map ((fun p => V.str (Sx p)) ∘ numC))) hlw
      have ew : upd H lw (.lst (r.map ((fun p => V.str (Sx p)) ∘ numC))) lw = some (.lst (r.map fun n => V.str (Sx (numC n)))) := upd_same
      generalize upd H lw (.lst (r.map ((fun p => V.str (Sx p)) ∘ numC))) = H1 at *
      obtain ⟨n0, r0, rfl⟩ := List.exists_cons_of_ne_nil ne
      have ix : atI ((n0 :: r0).map fun n => V.str (Sx (numC n))) 0 = some (V.str (Sx (numC n0))) := (show atI _ ((0 : Nat) : Int) = _ from atI_nat rfl) -- (atI_nat (j := 0) rfl)
      walk_at "st"
      walk_at "if"
      have nq : ¬ V.str (Sx (numC n0)) = V.str (Str.ofString "pair") := fun e => by
        injection e with e
        have e : numC n0 = [112, 97, 105, 114] := congrArg cs e
        have dg := numC_digits n0
        rw [e] at dg
        exact absurd dg (by decide)
      rw [if_neg (fun e => nq (of_decide_eq_true e))]
      walk_at "st"
      refine ⟨lw, n0 :: r0, rfl, ew, by omega, sm, fun t H2 s2 et => ?_⟩
      have S2 := s1.trans s2
      have R2 := R.same S2
      obtain ⟨⟨dx, hp⟩, nd, ⟨ua, hA, pa⟩, hB, len, row⟩ := R2
      have cl := T.cl_PaperReader
      have n1 := T.na_pairs_told
      have n2 := T.na_rows_told
      have l1 := rdF_p A B
      have l2 := rdF_r A B
      walk_at "st"
      walk_at "if"
      walk_at "st"
      rw [if_neg (by simp)]
      walk_at "st"
      refine ⟨!ua.isEmpty, .inl ⟨ua, SqL.of hA, rfl⟩, ?_⟩
      have une : ua ≠ [] := fun z => by
        have := pa.1
        rw [z, List.length_map, List.length_append] at this
        simp at this
      have ue : ua.isEmpty = false := by cases ua with
        | nil => exact absurd rfl une
        | cons _ _ => rfl
      rw [ue]
      walk_at "st"
      rw [if_neg (by simp)]
      rcases List.eq_nil_or_concat ls with e | ⟨ls0, l, e⟩
      · rw [e, List.length_append] at len
        simp at len
      rw [List.concat_eq_append] at e
      subst e
      have ll : ls0.length = d0.length := by rw [List.length_append, List.length_append] at len; simpa using len
      obtain ⟨x', us, ex, hl, r1⟩ := row ls0.length l (by rw [List.getElem?_append_right (Nat.le_refl _), Nat.sub_self]; rfl)
      have exx : x = x' := by
        rw [ll, List.getElem?_append_right (Nat.le_refl _), Nat.sub_self] at ex
        exact Option.some.inj ex
      subst exx
      have lus : us.length < sizeLine := by rw [r1.1]; exact Nat.lt_of_le_of_lt lx (by decide)
      rw [List.map_append] at hB
      have ix2 := atI_last (ls0.map V.ref) (V.ref l)
      have hB2 : H2 B = some (.lst (ls0.map V.ref ++ [V.ref l])) := hB
      walk_at "st"
      have nAl : A ≠ l := fun z => (List.nodup_cons.mp nd).1 (by rw [z]; simp)
      have nBl : B ≠ l := fun z => (List.nodup_cons.mp (List.nodup_cons.mp nd).2).1 (by rw [z]; simp)
      have nls := (List.nodup_cons.mp (List.nodup_cons.mp nd).2).2
      have keep : ∀ c o, H2 c = some o → c ≠ l → upd H2 l (.lst (us ++ [.ref t])) c = some o := fun c o e n => hl_set n e
      have tups : ∀ c xs, H2 c = some (.tup xs) → upd H2 l (.lst (us ++ [.ref t])) c = some (.tup xs) := fun c xs e => keep c _ e fun z => by rw [z, hl] at e; cases e
      refine q _ (fun b o e n => keep b o (S2 _ _ e) fun z => n (by rw [z]; simp)) ⟨⟨dx, keep _ _ hp fun z => by rw [z, hl] at hp; cases hp⟩, nd, ⟨ua, keep _ _ hA nAl, ?_⟩, keep _ _ (by rw [List.map_append]; exact hB) nBl, by rw [List.length_append, List.length_append, ll]; rfl, fun i k e => ?_⟩
      · have e : (d0 ++ [(x.1, x.2 ++ [n0 :: r0])]).map (fun x => x.1) = (d0 ++ [x]).map fun x => x.1 := by rw [List.map_append, List.map_append]; rfl
        rw [e]
        exact pa.same tups
      · by_cases c : i < ls0.length
        · obtain ⟨y, vs', ey, h1, r2⟩ := row i k e
          rw [List.getElem?_append_left c] at e
          have nk : k ≠ l := fun z => (List.nodup_append.mp nls).2.2 k (List.mem_of_getElem? e) l List.mem_cons_self z
          rw [List.getElem?_append_left (by rw [← ll]; exact c)] at ey
          exact ⟨y, vs', by rw [List.getElem?_append_left (by rw [← ll]; exact c)]; exact ey, keep _ _ h1 nk, r2.tups tups⟩
        · rw [List.getElem?_append_right (by omega)] at e
          have e0 : i - ls0.length = 0 := by
            cases h0 : i - ls0.length with
            | zero => rfl
            | succ n => rw [h0] at e; simp at e
          rw [e0] at e
          obtain rfl : l = k := Option.some.inj (show some l = some k from e)
          refine ⟨(x.1, x.2 ++ [n0 :: r0]), us ++ [.ref t], by rw [List.getElem?_append_right (by rw [← ll]; omega), ← ll, e0]; rfl, upd_same, (r1.tups tups).append ⟨rfl, fun j v ev => ?_⟩⟩
          cases j with
          | zero => exact ⟨n0 :: r0, rfl, t, (Option.some.inj (show some (V.ref t) = some v from ev)).symm, tups _ _ et⟩
          | succ j => simp at ev
end
local macro_rules | `(tactic| walk_at "ssz") => `(tactic| first | decide | exact str_small (by assumption) | (have : (1000000 : Nat) ≤ sizeLine := (by decide); omega))
local macro_rules | `(tactic| walk_at "st1") => `(tactic| first
  | with_reducible refine' r_nt ?_ | with_reducible refine' r_nf ?_
  | ((with_reducible refine r_lenS ?e1 ?_); (case e1 => walk_at "ssz"))
  | with_reducible refine r_inS ?_
  | with_reducible refine r_ninS ?_
  | ((with_reducible refine r_addS ?e1 ?_); (case e1 => walk_at "ssz"))
  | ((with_reducible refine' r_ixS ?e1 ?e2 ?_); (case e1 => walk_at "ssz"); (case e2 => first | assumption | rfl))
  | with_reducible refine r_istr ?_
  | with_reducible refine r_is ?_
  | with_reducible refine r_un ?_
  | with_reducible refine r_u ?_)
local macro_rules | `(tactic| walk_at "st1") => `(tactic| first
  | with_reducible refine r_tru ?_
  | ((with_reducible refine' r_truT ?e1 ?_); (case e1 => walk_at "sq"))
  | with_reducible refine r_isN ?_
  | with_reducible refine r_tyS ?_
  | with_reducible refine r_m1 ?_
  | with_reducible refine r_sx ?_
  | ((with_reducible refine r_strC ?e1 ?_); (case e1 => omega)))
local macro_rules | `(tactic| walk_at "st1") => `(tactic| first
  | with_reducible refine r_fld ?_
  | with_reducible refine r_sfld ?_
  | ((with_reducible refine' r_fldr ?e1 ?e2 ?e3 ?e4 ?_); (case e1 => walk_at "hl"); (case e2 => assumption); (case e3 => assumption); (case e4 => assumption)))
local macro_rules | `(tactic| walk_at "st1") => `(tactic| first
  | with_reducible refine r_par ?_
  | with_reducible refine r_parx ?_
  | ((with_reducible refine' r_gtup ?e1 ?e2 ?_); (case e1 => walk_at "sq"); (case e2 => rfl))
  | with_reducible refine r_gcons ?_
  | with_reducible refine r_gnil ?_
  | with_reducible refine r_ient ?_
  | ((with_reducible refine' r_ent ?e1 ?_); (case e1 => walk_at "sq")))
local macro_rules | `(tactic| walk_at "st1") => `(tactic| first
  | ((with_reducible refine' r_izl ?e1 ?e2 ?_); (case e1 => walk_at "sq"); (case e2 => walk_at "sq"))
  | with_reducible refine r_dcT ?_)
/-! ### what a paper's rows tell, one behind the other -/
abbrev PTok := (Int × Int) ⊕ List Int
def tokC : PTok → List Nat
  | .inl p => pairC p
  | .inr r => rowC r
def toks (sh : Sheet) : List PTok := sh.flatMap fun x => Sum.inl x.1 :: x.2.map Sum.inr
theorem lines_toks (sh : Sheet) : linesS sh = (toks sh).map tokC := by
  unfold linesS toks
  rw [List.map_flatMap]
  congr 1
  funext x
  rw [List.map_cons, List.map_map]; rfl
def stepT (d : Sheet) : PTok → Sheet
  | .inl p => d ++ [(p, [])]
  | .inr r => match d.getLast? with
    | none => d
    | some x => d.dropLast ++ [(x.1, x.2 ++ [r])]
theorem step_row (d : Sheet) (x : (Int × Int) × List (List Int)) (r : List Int) : stepT (d ++ [x]) (.inr r) = d ++ [(x.1, x.2 ++ [r])] := by
  unfold stepT
  rw [List.getLast?_concat, List.dropLast_concat]
def OkT (d : Sheet) : PTok → Prop
  | .inl p => (Sm p.1 ∧ Sm p.2) ∧ ∀ x, d.getLast? = some x → ltP2 x.1 p
  | .inr r => (r ≠ [] ∧ r.length ≤ 6 ∧ ∀ n ∈ r, Sm n) ∧ ∃ d0 x, d = d0 ++ [x] ∧ x.2.length ≤ 100
inductive Run : Sheet → List PTok → Sheet → Prop
  | nil {d : Sheet} : Run d [] d
  | cons {d d' : Sheet} {t : PTok} {ts : List PTok} : OkT d t → Run (stepT d t) ts d' → Run d (t :: ts) d'
theorem Run.app {d d1 d2 : Sheet} {ts us : List PTok} (h : Run d ts d1) (k : Run d1 us d2) : Run d (ts ++ us) d2 := by
  induction h with
  | nil => exact k
  | cons o _ ih => exact .cons o (ih k)
theorem Run.fold {d d' : Sheet} {ts : List PTok} (h : Run d ts d') : ts.foldl stepT d = d' := by
  induction h with
  | nil => rfl
  | cons _ _ ih => exact ih
theorem Run.at {d d' : Sheet} {ts : List PTok} (h : Run d ts d') : ∀ (i : Nat) (t : PTok), ts[i]? = some t → OkT ((ts.take i).foldl stepT d) t := by
  induction h with
  | nil => intro i t e; simp at e
  | cons o _ ih =>
    intro i t e
    cases i with
    | zero => obtain rfl := Option.some.inj e; exact o
    | succ i => exact ih i t (by simpa using e)
theorem run_rows : ∀ (rs : List (List Int)) (d : Sheet) (p : Int × Int) (done : List (List Int)), (∀ r ∈ rs, (r ≠ [] ∧ r.length ≤ 6) ∧ ∀ n ∈ r, Sm n) → done.length + rs.length ≤ 100 → Run (d ++ [(p, done)]) (rs.map Sum.inr) (d ++ [(p, done ++ rs)])
  | [], d, p, done, _, _ => by rw [List.append_nil]; exact .nil
  | r :: rs, d, p, done, h, l => by
    have hr := h r List.mem_cons_self
    rw [List.length_cons] at l
    have ih := run_rows rs d p (done ++ [r]) (fun q m => h q (List.mem_cons_of_mem _ m)) (by rw [List.length_append]; show done.length + 1 + rs.length ≤ 100; omega)
    rw [List.append_assoc] at ih
    refine .cons ⟨⟨hr.1.1, hr.1.2, hr.2⟩, d, (p, done), rfl, by show done.length ≤ 100; omega⟩ ?_
    rw [step_row]
    exact ih
theorem run_sheet : ∀ (sh d : Sheet), (∀ x ∈ sh, (Sm x.1.1 ∧ Sm x.1.2) ∧ x.2.length ≤ 4 ∧ ∀ r ∈ x.2, (r ≠ [] ∧ r.length ≤ 6) ∧ ∀ n ∈ r, Sm n) → sh.Pairwise (fun x y => ltP2 x.1 y.1) → (∀ y, d.getLast? = some y → ∀ x, sh.head? = some x → ltP2 y.1 x.1) → Run d (toks sh) (d ++ sh)
  | [], d, _, _, _ => by rw [List.append_nil]; exact .nil
  | x :: sh, d, h, pw, hd => by
    have hx := h x List.mem_cons_self
    have pw2 := List.pairwise_cons.mp pw
    have e : toks (x :: sh) = (Sum.inl x.1 :: x.2.map Sum.inr) ++ toks sh := List.flatMap_cons
    rw [e]
    have r1 : Run d (Sum.inl x.1 :: x.2.map Sum.inr) (d ++ [x]) := .cons ⟨hx.1, fun y ey => hd y ey x rfl⟩ (by
      have := run_rows x.2 d x.1 [] hx.2.2 (by show 0 + x.2.length ≤ 100; omega)
      exact this)
    have r2 := run_sheet sh (d ++ [x]) (fun y m => h y (List.mem_cons_of_mem _ m)) pw2.2 fun y ey z ez => by
      rw [List.getLast?_concat] at ey
      obtain rfl := Option.some.inj ey
      exact pw2.1 z (by cases sh with
        | nil => cases ez
        | cons a sh => obtain rfl := Option.some.inj ez; exact List.mem_cons_self)
    rw [List.append_assoc] at r2
    exact r1.app r2
theorem fold_len9 : ∀ (ts : List PTok) (d : Sheet), (ts.foldl stepT d).length ≤ d.length + ts.length
  | [], d => Nat.le_refl _
  | t :: ts, d => by
    have ih := fold_len9 ts (stepT d t)
    have l : (stepT d t).length ≤ d.length + 1 := by
      cases t with
      | inl p => show (d ++ [(p, [])]).length ≤ _; rw [List.length_append]; exact Nat.le_refl _
      | inr r =>
        unfold stepT
        cases e : d.getLast? with
        | none => exact Nat.le_succ _
        | some x =>
          show (d.dropLast ++ [(x.1, x.2 ++ [r])]).length ≤ _
          rw [List.length_append, List.length_dropLast]
          show d.length - 1 + 1 ≤ _
          omega
    rw [List.foldl_cons, List.length_cons]
    omega
theorem toks_len : ∀ {sh : Sheet}, (∀ x ∈ sh, x.2.length ≤ 4) → (toks sh).length ≤ 5 * sh.length
  | [], _ => Nat.zero_le _
  | x :: sh, h => by
    have e : toks (x :: sh) = (Sum.inl x.1 :: x.2.map Sum.inr) ++ toks sh := List.flatMap_cons
    have := h x List.mem_cons_self
    have ih := toks_len fun y m => h y (List.mem_cons_of_mem _ m)
    rw [e, List.length_append, List.length_cons, List.length_map, List.length_cons]
    omega
theorem linesC_len {n : Nat} : ∀ {L : List (List Nat)}, (∀ p ∈ L, p.length ≤ n) → (linesC L).length ≤ L.length * (n + 1)
  | [], _ => Nat.zero_le _
  | p :: L, h => by
    have e : linesC (p :: L) = (p ++ [10]) ++ linesC L := List.flatMap_cons
    have := h p List.mem_cons_self
    have ih := linesC_len fun q m => h q (List.mem_cons_of_mem _ m)
    have e2 : (p :: L).length * (n + 1) = L.length * (n + 1) + (n + 1) := by rw [List.length_cons, Nat.add_mul, Nat.one_mul]
    rw [e, e2, List.length_append, List.length_append]
    show p.length + 1 + _ ≤ _
    omega
/-! ### sheets as they stand: dicts -/
def keyP (p : Int × Int) : List Key := [Sum.inl p.1, Sum.inl p.2]
theorem keyP_kV (p : Int × Int) : (keyP p).map kV = [V.int p.1, V.int p.2] := rfl
theorem keyP_inj {p q : Int × Int} (h : keyP p = keyP q) : p = q := by
  injection h with h1 h2
  injection h2 with h2 _
  exact Prod.ext (Sum.inl.inj h1) (Sum.inl.inj h2)
def ShV (H : Hp) (kvs : List (List Key × V)) (sh : Sheet) : Prop := kvs.length = sh.length ∧ ∀ (i : Nat) (kv : List Key × V), kvs[i]? = some kv → ∃ x, sh[i]? = some x ∧ kv.1 = keyP x.1 ∧ ∃ t, kv.2 = .ref t ∧ Lot H t x.2
def ShD (H : Hp) (d : Addr) (sh : Sheet) : Prop := ∃ kvs, H d = some (.dT kvs) ∧ ShV H kvs sh
theorem ShV.to {H H' : Hp} {kvs : List (List Key × V)} {sh : Sheet} (h : ShV H kvs sh) (k : ∀ t xs, H t = some (.tup xs) → H' t = some (.tup xs)) : ShV H' kvs sh :=
  ⟨h.1, fun i kv e => by
    obtain ⟨x, ex, ek, t, et, us, h1, r⟩ := h.2 i kv e
    exact ⟨x, ex, ek, t, et, us, k _ _ h1, r.tups k⟩⟩
theorem ShD.same {H H' : Hp} {d : Addr} {sh : Sheet} (h : ShD H d sh) (k : Same H H') : ShD H' d sh := h.imp fun _ z => ⟨k _ _ z.1, z.2.to fun t xs e => k _ _ e⟩
theorem ShV.keys {H : Hp} : ∀ {kvs : List (List Key × V)} {sh : Sheet}, ShV H kvs sh → kvs.map (fun kv => kv.1) = sh.map fun x => keyP x.1
  | [], [], _ => rfl
  | [], _ :: _, h => by have := h.1; simp at this
  | _ :: _, [], h => by have := h.1; simp at this
  | kv :: kvs, x :: sh, h => by
    obtain ⟨y, ey, ek, _⟩ := h.2 0 kv rfl
    obtain rfl := Option.some.inj ey
    rw [List.map_cons, List.map_cons, ek, ShV.keys (kvs := kvs) (sh := sh) ⟨by have := h.1; simpa using this, fun i v e => h.2 (i + 1) v (by simpa using e)⟩]
theorem valV_no {kvs : List (List Key × V)} {k : List Key} (h : k ∉ kvs.map fun kv => kv.1) : valV kvs k = none := by
  unfold valV
  rw [List.find?_eq_none.mpr fun kv m e => h (by rw [← of_decide_eq_true e]; exact List.mem_map.mpr ⟨kv, m, rfl⟩)]; rfl
theorem ShV.snoc {H : Hp} {kvs : List (List Key × V)} {sh : Sheet} {x : (Int × Int) × List (List Int)} {t : Addr} (h : ShV H kvs sh) (l : Lot H t x.2) : ShV H (kvs ++ [(keyP x.1, .ref t)]) (sh ++ [x]) :=
  ⟨by rw [List.length_append, List.length_append, h.1]; rfl, fun i kv e => by
    by_cases c : i < kvs.length
    · rw [List.getElem?_append_left c] at e
      rw [List.getElem?_append_left (by rw [← h.1]; exact c)]
      exact h.2 i kv e
    · rw [List.getElem?_append_right (by omega)] at e
      rw [List.getElem?_append_right (by rw [← h.1]; omega), ← h.1]
      cases hi : i - kvs.length with
      | zero =>
        rw [hi] at e
        obtain rfl := Option.some.inj (show some (keyP x.1, V.ref t) = some kv from e)
        exact ⟨x, rfl, rfl, t, rfl, l⟩
      | succ n => rw [hi] at e; simp at e⟩
def sp_read_paper (_ : PySem.W.Frag) : Sp := fun vs H Q _ => ∃ sh : Sheet, vs = [.str (Sx (linesC (linesS sh)))] ∧ GoodS sh ∧ sh.Pairwise (fun x y => ltP2 x.1 y.1) ∧ ∀ (d : Addr) (H' : Hp), Same H H' → H d = none → ShD H' d sh → Q (.ref d) H'
section
variable {P : Program} {w : World} {K : PySem.W.Frag} {mg : Str → Option Value} {base : Heap}
theorem ok_read_paper {c_PaperReader : Addr} (T : Tx K mg c_PaperReader) {f_text_rows : Addr} {fd_text_rows : FuncData} (C_text_rows : Cal P w K mg base "text_rows" 1 ["text"] (sp_text_rows K) s_text_rows f_text_rows fd_text_rows) {f_PaperReader___init__ : Addr} {fd_PaperReader___init__ : FuncData} (C_PaperReader___init__ : CalI P w K mg base c_PaperReader "__init__" 1 ["self"] (sp_PaperReader___init__ K c_PaperReader) s_PaperReader___init__ f_PaperReader___init__ fd_PaperReader___init__) {f_PaperReader_reads : Addr} {fd_PaperReader_reads : FuncData} (C_PaperReader_reads : CalM P w K mg base c_PaperReader "reads" 4 ["self", "row"] (sp_PaperReader_reads K c_PaperReader) s_PaperReader_reads f_PaperReader_reads fd_PaperReader_reads) {f : Addr} {fd : FuncData} (F : Here K mg "read_paper" s_read_paper ["text"] f fd) : Cal P w K mg base "read_paper" 5 ["text"] (sp_read_paper K) s_read_paper f fd := by
  refine F.cal sc_read_paper (fun vs H Q E h => ?_) (fun cdv A' outer s H vs Q E hr h => ?_)
  · obtain ⟨sh, rfl, _⟩ := h
    rfl
  · obtain ⟨sh, rfl, g, pw, q⟩ := h
    have run := run_sheet sh [] (fun x m => ⟨g.pr x m, g.rows x m, g.row x m⟩) pw fun y ey => by cases ey
    have lt : (toks sh).length ≤ 30 := Nat.le_trans (toks_len g.rows) (by have := g.len; omega)
    have lp : ∀ p ∈ linesS sh, p.length ≤ 36 := fun p m => by
      obtain ⟨x, hx, m⟩ := List.mem_flatMap.mp m
      rcases List.mem_cons.mp m with e | m
      · rw [e]; exact Nat.le_trans (pair_len (g.pr x hx)) (by decide)
      · obtain ⟨r, hr, rfl⟩ := List.mem_map.mp m
        have := g.row x hx r hr
        exact row_len this.1.2 this.2
    have ll : (linesS sh).length ≤ 30 := by rw [lines_toks, List.length_map]; exact lt
    have lc : (linesC (linesS sh)).length ≤ 5000 := Nat.le_trans (linesC_len lp) (by omega)
    refine ⟨_, (pss_cons (ps_asg (pe_call C_text_rows.ok (hr.mono (by decide)) (by rfl) C_text_rows.at_ C_text_rows.kp C_text_rows.b .nil pass0 (pa_cons (pv 0) pa_nil)) (castPG (K := K) (n := 2) (pg_tup rfl (pgs_cons (pg_name (i := 1) sc_read_paper.nd rfl (by first | exact .inl rfl | exact .inr rfl)) (pgs_cons (pg_name (i := 2) sc_read_paper.nd rfl (by first | exact .inl rfl | exact .inr rfl)) pgs_nil)))))
      (pss_cons (ps_set (i := 3) sc_read_paper.nd rfl (by first | exact .inl rfl | exact .inr rfl) (pe_make0 C_PaperReader___init__.mkk C_PaperReader___init__.ok (hr.mono (by decide)) (by rfl) T.g_PaperReader C_PaperReader___init__.b .nil pass0))
      (pss_cons (ps_for PassesOwn.never rfl (castPI (K := K) (wi := fun K => iEnum K _) (pi_enum (by rfl) T.m_enumerate (pa_cons (pv 1) pa_nil))) (castPG (K := K) (n := 2) (pg_tup rfl (pgs_cons (pg_name (i := 4) sc_read_paper.nd rfl (by first | exact .inl rfl | exact .inr rfl)) (pgs_cons (pg_name (i := 5) sc_read_paper.nd rfl (by first | exact .inl rfl | exact .inr rfl)) pgs_nil)))) (pss_one (ps_if (pt_not (pt_val (pe_meth (pv 3) T.cl_PaperReader C_PaperReader_reads.me C_PaperReader_reads.ok (hr.mono (by decide)) C_PaperReader_reads.b .nil pass0 (pa_cons (pv 5) pa_nil)))) (pss_one ps_never) pss_nil)))
      (pss_cons (ps_if (pt_not (pt_val (pv 2))) (pss_one ps_never) pss_nil)
      (pss_one (ps_ret (pe_dcT (Nat.lt_of_le_of_lt (Nat.le_add_right _ 64) (hu_of64 hr)) rfl sc_read_paper.nd (castPI (K := K) (wi := fun K => iZipA K _) (pi_zipA (by rfl) T.m_zip (pa_cons (pe_fldK (K := K) (pv 3) rfl) (pa_cons (pe_fldK (K := K) (pv 3) rfl) pa_nil)))) (blkOk_by (own := [("pair", 6), ("told", 7)]) (N := ["text", "rows", "is_whole", "reader", "at", "row", "pair", "told"]) (sc := (defScope s_read_paper)) (by decide +kernel)) (fun _ _ _ _ _ => (castPG (K := K) (n := 2) (pg_tup rfl (pgs_cons (pg_name (i := 6) sc_read_paper.nd rfl (by first | exact .inl rfl | exact .inr rfl)) (pgs_cons (pg_name (i := 7) sc_read_paper.nd rfl (by first | exact .inl rfl | exact .inr rfl)) pgs_nil))))) (fun _ _ _ _ _ => pts_nil) (fun _ _ _ _ _ => (pv 6)) (fun _ _ _ _ _ => (pe_callTy (cr_tupOfK (K := K)) (by rfl) T.m_tuple (by decide +kernel) (pa_cons (pv 7) pa_nil)))))))))), ?_⟩
    walk_at "st"
    refine ⟨linesS sh, rfl, lines_no, lc, by omega, fun t l H1 s1 nl et el => ?_⟩
    show gTup K 2 (gCons (gName 1) (gCons (gName 2) gNil)) (.ref t) _ _ _
    walk_at "st"
    intro x dx hx hdx nxd
    refine ⟨x, dx, rfl, upd_same, fun A B H2 k2 hA hB R => ⟨rfl, ?_⟩⟩
    have s2 : Same H1 H2 := fun b o e => k2 b o (hl_set (ne_of_none e hx) (hl_set (ne_of_none e hdx) e)) (ne_of_none e hx)
    have nA : H1 A = none := by
      cases hh : H1 A with
      | none => rfl
      | some o => rw [hl_set (ne_of_none hh hx) (hl_set (ne_of_none hh hdx) hh)] at hA; cases hA
    have nB : H1 B = none := by
      cases hh : H1 B with
      | none => rfl
      | some o => rw [hl_set (ne_of_none hh hx) (hl_set (ne_of_none hh hdx) hh)] at hB; cases hB
    clear k2 hA hB nxd
    have eL : (linesS sh).map (fun p => V.str (Sx p)) = (toks sh).map fun k => V.str (Sx (tokC k)) := by rw [lines_toks, List.map_map]; rfl
    rw [eL] at el
    have el2 := s2 _ _ el
    walk_at "st"
    refine ⟨_, rfl, l, _, rfl, SqL.of el2, ?_⟩
    refine lp_by (walk_enum (K := K) (a := l) (xs := (toks sh).map fun k => V.str (Sx (tokC k)))) (fun i σ' H' => ∃ x4 x5 ls, σ' = [some (.str (Sx (linesC (linesS sh)))), some (.ref l), some (.bl true), some (.ref x), x4, x5, none, none] ∧ Same H1 H' ∧ RdS _ H' x A B ls (((toks sh).take i).foldl stepT []) ∧ ∀ b ∈ ls, H1 b = none)
      ⟨_, _, [], rfl, s2, R, fun b m => by cases m⟩ (fun i σ' H' _ z => by obtain ⟨_, _, _, _, z1, _⟩ := z; exact SqL.of (z1 _ _ el)) (fun i v σ' HX HX' hi z y => ?_) (fun σ' HX z => ?_)
    · obtain ⟨y4, y5, ls, rfl, sm, R1, nls⟩ := z
      obtain ⟨tt, x1, y1, rfl, nt, rfl, e1, e2⟩ := y
      rw [List.length_map] at hi
      have e2 : (List.map (fun k => V.str (Sx (tokC k))) (toks sh))[i]? = some y1 := e2
      rw [List.getElem?_map, List.getElem?_eq_getElem hi] at e2
      obtain rfl := Option.some.inj e1
      obtain rfl : V.str (Sx (tokC (toks sh)[i])) = y1 := Option.some.inj e2
      have R2 := R1.same (Same.upd_new (x := .tup [.int (i : Nat), .str (Sx (tokC (toks sh)[i]))]) nt)
      have sm2 := sm.trans (Same.upd_new (x := .tup [.int (i : Nat), .str (Sx (tokC (toks sh)[i]))]) nt)
      have ett : upd HX tt (.tup [.int (i : Nat), .str (Sx (tokC (toks sh)[i]))]) tt = some (.tup [.int (i : Nat), .str (Sx (tokC (toks sh)[i]))]) := upd_same
      generalize upd HX tt (.tup [.int (i : Nat), .str (Sx (tokC (toks sh)[i]))]) = HY at *
      have okt := run.at i _ (List.getElem?_eq_getElem hi)
      have fs : ((toks sh).take (i + 1)).foldl stepT [] = stepT (((toks sh).take i).foldl stepT []) (toks sh)[i] := by
        rw [List.take_succ, List.getElem?_eq_getElem hi, List.foldl_append]; rfl
      have ld : (((toks sh).take i).foldl stepT []).length ≤ 100 := by
        have h1 := fold_len9 ((toks sh).take i) []
        have h2 := List.length_take_le' i (toks sh)
        show _ ≤ _
        have h3 : ([] : Sheet).length = 0 := rfl
        omega
      generalize (toks sh)[i] = tk at *
      generalize ((toks sh).take i).foldl stepT [] = dd at *
      refine ⟨tt, [.int (i : Nat), .str (Sx (tokC tk))], rfl, .inl (.inl ett), rfl, _, _, rfl, _, _, rfl, rfl, ?_⟩
      walk_at "st"
      walk_at "if"
      obtain ⟨dx2, hp⟩ := R2.ob
      refine ⟨_, rfl, x, dx2, _, rfl, hp, rdF_no A B (by decide +kernel) (by decide +kernel), ?_⟩
      walk_at "st"
      have own : ∀ b o, H1 b = some o → b ∉ A :: B :: ls := fun b o e m => by
        rcases List.mem_cons.mp m with z | m
        · rw [z, nA] at e; cases e
        · rcases List.mem_cons.mp m with z | m
          · rw [z, nB] at e; cases e
          · rw [nls b m] at e; cases e
      refine ⟨x, A, B, ls, dd, tokC tk, rfl, R2, ld, ?_⟩
      cases tk with
      | inl p =>
        obtain ⟨sm3, hl3⟩ := okt
        refine .inl ⟨p, rfl, sm3, hl3, fun l3 H3 n3 k3 R3 => ?_⟩
        walk_at "st"
        refine ⟨_, _, ls ++ [l3], rfl, fun b o e => k3 b o (sm2 _ _ e) (own b o e), by rw [fs]; exact R3, fun b m => ?_⟩
        rcases List.mem_append.mp m with m | m
        · exact nls b m
        · rw [List.mem_singleton.mp m]
          cases hh : H1 l3 with
          | none => rfl
          | some o => rw [sm2 _ _ hh] at n3; cases n3
      | inr r =>
        obtain ⟨⟨h1, h2, h3⟩, d0, xx, ed, lx⟩ := okt
        refine .inr ⟨r, d0, xx, rfl, h1, h2, h3, ed, lx, fun H3 k3 R3 => ?_⟩
        walk_at "st"
        refine ⟨_, _, ls, rfl, fun b o e => k3 b o (sm2 _ _ e) (own b o e), ?_, nls⟩
        rw [fs, ed, step_row]
        exact R3
    · obtain ⟨y4, y5, ls, rfl, sm, R1, nls⟩ := z
      rw [List.length_map, List.take_length, run.fold, List.nil_append] at R1
      walk_at "st"
      walk_at "if"
      obtain ⟨⟨dx2, hp⟩, nd, ⟨ua, hA, pa⟩, hB, len, row⟩ := R1
      have cl := T.cl_PaperReader
      have n1 := T.na_pairs_told
      have n2 := T.na_rows_told
      have l1 := rdF_p A B
      have l2 := rdF_r A B
      walk_at "st"
      intro D hD
      have lua : ua.length = sh.length := by rw [pa.1, List.length_map]
      have emin : min ua.length (ls.map V.ref).length = sh.length := by rw [List.length_map, lua, len, Nat.min_self]
      refine dcT_by (walk_zipL (K := K) (a := A) (b := B) (xs := ua) (ys := ls.map V.ref) rfl) (fun i H' => Same HX H' ∧ ∃ kvs, H' D = some (.dT kvs) ∧ ShV H' kvs (sh.take i)) ⟨Same.upd_new hD, [], upd_same, rfl, fun i kv e => by simp at e⟩ (fun i H' _ z => ⟨SqL.of (z.1 _ _ hA), SqL.of (z.1 _ _ hB)⟩) (fun i v H5 H6 hi z y => ?_) (fun H5 z => ?_)
      · obtain ⟨sm5, kvs, eD, sv⟩ := z
        obtain ⟨tt, x1, y1, rfl, nt, rfl, e1, e2⟩ := y
        rw [emin] at hi
        obtain ⟨pp, ep, ta, rfl, hta⟩ := pa.2 i x1 e1
        have e2 : (ls.map V.ref)[i]? = some y1 := e2
        rw [List.getElem?_map] at e2
        cases el3 : ls[i]? with
        | none => rw [el3] at e2; cases e2
        | some lk =>
          rw [el3] at e2
          obtain rfl : V.ref lk = y1 := Option.some.inj e2
          obtain ⟨xx, us, exx, hlk, rw1⟩ := row i lk el3
          have epp : xx.1 = pp := by
            rw [List.getElem?_map, exx] at ep
            exact Option.some.inj ep
          subst epp
          have s6 : Same H5 (upd H5 tt (.tup [.ref ta, .ref lk])) := Same.upd_new nt
          have eD6 := s6 _ _ eD
          have sv6 := sv.to fun t xs e => s6 _ _ e
          have hlk6 := s6 _ _ (sm5 _ _ hlk)
          have hta6 := s6 _ _ (sm5 _ _ hta)
          have r6 := (rw1.same sm5).same s6
          have sm6 := sm5.trans s6
          have ett : upd H5 tt (.tup [.ref ta, .ref lk]) tt = some (.tup [.ref ta, .ref lk]) := upd_same
          generalize upd H5 tt (.tup [.ref ta, .ref lk]) = H7 at *
          refine ⟨tt, [.ref ta, .ref lk], rfl, .inl (.inl ett), rfl, _, _, rfl, _, _, rfl, rfl, ?_⟩
          refine ⟨rfl, ?_⟩
          walk_at "st"
          intro tp htp
          have s8 : Same H7 (upd H7 tp (.tup us)) := Same.upd_new htp
          have etp : upd H7 tp (.tup us) tp = some (.tup us) := upd_same
          generalize upd H7 tp (.tup us) = H8 at *
          have lk : kvs.length ≤ 6 := by
            rw [sv.1]
            exact Nat.le_trans (List.length_take_le' ..) g.len
          have tk : sh.take (i + 1) = sh.take i ++ [xx] := by rw [List.take_succ, exx]; rfl
          have nk : keyP xx.1 ∉ kvs.map fun kv => kv.1 := fun m => by
            rw [sv.keys] at m
            obtain ⟨z, hz, ez⟩ := List.mem_map.mp m
            have ndk := g.nd
            have e3 : sh = sh.take (i + 1) ++ sh.drop (i + 1) := (List.take_append_drop ..).symm
            rw [e3, tk, List.map_append, List.map_append] at ndk
            have n1 := (List.nodup_append.mp (List.nodup_append.mp ndk).1).2.2 z.1 (List.mem_map.mpr ⟨z, hz, rfl⟩) xx.1 (by simp)
            exact n1 (keyP_inj ez)
          have tups : ∀ t xs, H8 t = some (.tup xs) → upd H8 D (.dT (putK kvs (keyP xx.1) (.ref tp))) t = some (.tup xs) := fun t xs e => hl_set (fun z => by rw [z, s8 _ _ eD6] at e; cases e) e
          refine ⟨kvs, keyP xx.1, ta, rfl, s8 _ _ hta6, s8 _ _ eD6, Nat.lt_of_le_of_lt lk (by decide), fun b o e => hl_set (ne_of_none e hD) (s8 _ _ (sm6 _ _ e)), _, upd_same, ?_⟩
          rw [putK_new _ (valV_no nk), tk]
          rw [← putK_new _ (valV_no nk)]
          have sv8 := (sv6.to fun t xs e => s8 _ _ e).snoc (x := xx) (t := tp) ⟨us, etp, r6.same s8⟩
          rw [← putK_new _ (valV_no nk)] at sv8
          exact sv8.to tups
      · obtain ⟨sm5, kvs, eD, sv⟩ := z
        rw [emin, List.take_length] at sv
        have S0 := s1.trans (sm.trans sm5)
        refine q D H5 S0 ?_ ⟨kvs, eD, sv⟩
        cases hh : H D with
        | none => rfl
        | some o => rw [(s1.trans sm) _ _ hh] at hD; cases hD
end
/-! ### == and != of tuples of rows; comprehensions within comprehensions -/
theorem lookup_relabel2 {env : Env} : ∀ {names : List (Str × NameKind)} {x : Str}, (names.lookup x = some .cell ∨ names.lookup x = some .free) →
    ((names.map fun (n, k) => if (k == NameKind.free && env.scope.kind == .function && env.kindOf n == some .cell) then (n, NameKind.cell) else (n, k)).lookup x = some .cell ∨
    (names.map fun (n, k) => if (k == NameKind.free && env.scope.kind == .function && env.kindOf n == some .cell) then (n, NameKind.cell) else (n, k)).lookup x = some .free)
  | [], _, h => by simp at h
  | (n, k) :: r, x, h => by
    have ih := @lookup_relabel2 env r x
    by_cases hc : (k == NameKind.free && env.scope.kind == .function && env.kindOf n == some .cell) = true
    · rw [List.map_cons]
      simp only [hc, ↓reduceIte]
      cases hx : x == n with
      | true => exact .inl (by simp only [List.lookup_cons, hx])
      | false =>
        simp only [List.lookup_cons, hx] at h ⊢
        exact ih h
    · rw [List.map_cons]
      simp only [hc, ↓reduceIte, Bool.false_eq_true]
      cases hx : x == n with
      | true =>
        simp only [List.lookup_cons, hx] at h ⊢
        exact h
      | false =>
        simp only [List.lookup_cons, hx] at h ⊢
        exact ih h
theorem blkOk_in {N : List Str} {sc scope : Scope} {env : Env} {own : List (Str × Nat)} (h : blkC N sc scope own = true) : BlkOk N (relabel sc env) scope own := by
  have b := blkOk_by h
  exact ⟨b.kind, b.uniq, b.ix, fun y m e => lookup_relabel2 (b.free y m e), b.own⟩
local macro_rules | `(tactic| walk_at "ssz") => `(tactic| first | decide | exact str_small (by assumption) | (have : (1000000 : Nat) ≤ sizeLine := (by decide); omega))
local macro_rules | `(tactic| walk_at "st1") => `(tactic| first
  | with_reducible refine' r_nt ?_ | with_reducible refine' r_nf ?_
  | ((with_reducible refine r_lenS ?e1 ?_); (case e1 => walk_at "ssz"))
  | with_reducible refine r_inS ?_
  | with_reducible refine r_ninS ?_
  | ((with_reducible refine r_addS ?e1 ?_); (case e1 => walk_at "ssz"))
  | ((with_reducible refine' r_ixS ?e1 ?e2 ?_); (case e1 => walk_at "ssz"); (case e2 => first | assumption | rfl))
  | with_reducible refine r_istr ?_
  | with_reducible refine r_is ?_
  | with_reducible refine r_un ?_
  | with_reducible refine r_u ?_)
local macro_rules | `(tactic| walk_at "st1") => `(tactic| first
  | with_reducible refine r_tru ?_
  | ((with_reducible refine' r_truT ?e1 ?_); (case e1 => walk_at "sq"))
  | with_reducible refine r_isN ?_
  | with_reducible refine r_tyS ?_
  | with_reducible refine r_m1 ?_
  | with_reducible refine r_sx ?_
  | ((with_reducible refine r_strC ?e1 ?_); (case e1 => omega)))
local macro_rules | `(tactic| walk_at "st1") => `(tactic| first
  | with_reducible refine r_par ?_
  | with_reducible refine r_parx ?_
  | ((with_reducible refine' r_gtup ?e1 ?e2 ?_); (case e1 => walk_at "sq"); (case e2 => rfl))
  | with_reducible refine r_gcons ?_
  | with_reducible refine r_gnil ?_
  | with_reducible refine r_ient ?_
  | ((with_reducible refine' r_ent ?e1 ?_); (case e1 => walk_at "sq")))
/-! ### sorted keys -/
theorem isKeys_at {H : Hp} {kvs : List (List Key × V)} {bs : List Addr} (h : IsKeys H kvs bs) : bs.length = kvs.length ∧ ∀ (i : Nat) (b : Addr), bs[i]? = some b → ∃ kv, kvs[i]? = some kv ∧ H b = some (.tup (kv.1.map kV)) := by
  induction h with
  | nil => exact ⟨rfl, fun i b e => by simp at e⟩
  | cons q _ ih => exact ⟨by rw [List.length_cons, List.length_cons, ih.1], fun i b e => by
      cases i with
      | zero => obtain rfl := Option.some.inj e; exact ⟨_, rfl, q⟩
      | succ i => exact ih.2 i b (by simpa using e)⟩
theorem keys_pairs {H : Hp} {kvs : List (List Key × V)} {bs : List Addr} {sh : Sheet} (h : IsKeys H kvs bs) (s : ShV H kvs sh) : (bs.map fun b => pairAt H (.ref b)) = sh.map (fun x => x.1) ∧ ∀ b ∈ bs, ∃ p : Int × Int, H b = some (.tup [.int p.1, .int p.2]) := by
  obtain ⟨l, k⟩ := isKeys_at h
  have at_ : ∀ (i : Nat) (b : Addr), bs[i]? = some b → ∃ x, sh[i]? = some x ∧ H b = some (.tup [.int x.1.1, .int x.1.2]) := fun i b e => by
    obtain ⟨kv, ek, hb⟩ := k i b e
    obtain ⟨x, ex, e1, _⟩ := s.2 i kv ek
    rw [e1] at hb
    exact ⟨x, ex, hb⟩
  refine ⟨?_, fun b m => ?_⟩
  · apply List.ext_getElem?
    intro i
    rw [List.getElem?_map, List.getElem?_map]
    cases e : bs[i]? with
    | none =>
      rw [List.getElem?_eq_none_iff] at e
      rw [List.getElem?_eq_none_iff.mpr (by rw [← s.1, ← l]; exact e)]; rfl
    | some b =>
      obtain ⟨x, ex, hb⟩ := at_ i b e
      rw [ex]
      show some (pairAt H (.ref b)) = some x.1
      rw [pairAt_is hb]
  · obtain ⟨i, e⟩ := List.getElem?_of_mem m
    obtain ⟨x, _, hb⟩ := at_ i b e
    exact ⟨x.1, hb⟩
theorem sort_ord {H : Hp} {kvs : List (List Key × V)} {bs : List Addr} {sh : Sheet} {ys : List V} (h : IsKeys H kvs bs) (s : ShV H kvs sh) (so : SrtO.Srtd (ltP (pairAt H)) ys) (st : SrtO.Stb (ltP (pairAt H)) ys (bs.map V.ref)) : PrsAt H ys (ordS sh) := by
  obtain ⟨e1, e2⟩ := keys_pairs h s
  have pm : (ys.map (pairAt H)).Perm (ordS sh) := by
    have := (st.perm.map (pairAt H))
    rw [List.map_map] at this
    exact (this.trans (by rw [show (pairAt H ∘ V.ref) = fun b => pairAt H (.ref b) from rfl, e1])).trans (ord_perm sh).symm
  have eo : ys.map (pairAt H) = ordS sh := by
    refine List.Perm.eq_of_pairwise (le := fun p q => leP p q = true) (fun a b _ _ h1 h2 => ?_) ?_ (ord_sorted sh) pm
    · rw [leP_iff] at h1 h2
      exact Prod.ext (by omega) (by omega)
    · refine List.pairwise_map.mpr (List.Pairwise.imp (fun {a b} hab => ?_) so)
      have := SrtO.lexB_no.mp hab
      rw [leP_iff]
      omega
  refine ⟨by rw [← eo, List.length_map], fun i v e => ?_⟩
  obtain ⟨b, hb, rfl⟩ := List.mem_map.mp (st.perm.mem_iff.mp (List.mem_of_getElem? e))
  obtain ⟨p, hp⟩ := e2 b hb
  refine ⟨p, ?_, b, rfl, hp⟩
  rw [← eo, List.getElem?_map, e]
  show some (pairAt H (.ref b)) = some p
  rw [pairAt_is hp]
theorem r_sortSh {H : Hp} {Q : VK} {d : Addr} {sh : Sheet} (h : ShD H d sh) (q : ∀ ys p, PrsAt H ys (ordS sh) → H p = none → Q (.ref p) (upd H p (.lst ys))) : rSortDT [.ref d] H Q := by
  obtain ⟨kvs, hd, sv⟩ := h
  refine ⟨d, kvs, rfl, .inl hd, fun kv m => ?_, fun bs ys p ik so st hp => q ys p (sort_ord ik sv so st) hp⟩
  obtain ⟨i, e⟩ := List.getElem?_of_mem m
  obtain ⟨x, _, e1, _⟩ := sv.2 i kv e
  exact ⟨_, _, e1⟩
theorem valV_in2 : ∀ {kvs : List (List Key × V)}, (kvs.map fun kv => kv.1).Nodup → ∀ {p : List Key × V}, p ∈ kvs → valV kvs p.1 = some p.2
  | [], _, _, m => by cases m
  | kv :: kvs, nd, p, m => by
    rw [List.map_cons, List.nodup_cons] at nd
    rcases List.mem_cons.mp m with e | m
    · subst e; exact valV_pos rfl
    · rw [valV_neg (fun e => nd.1 (by rw [show kv.1 = p.1 from e]; exact List.mem_map.mpr ⟨p, m, rfl⟩))]
      exact valV_in2 nd.2 m
/-- what a sheet holds at a pair -/
theorem sh_get {H : Hp} {kvs : List (List Key × V)} {sh : Sheet} (s : ShV H kvs sh) (nd : (sh.map fun x => x.1).Nodup) {x : (Int × Int) × List (List Int)} (m : x ∈ sh) : ∃ t, valV kvs (keyP x.1) = some (.ref t) ∧ Lot H t x.2 := by
  obtain ⟨i, hi, ei⟩ := List.getElem_of_mem m
  have hk : i < kvs.length := by rw [s.1]; exact hi
  obtain ⟨y, ey, e1, t, e2, l⟩ := s.2 i _ (List.getElem?_eq_getElem hk)
  rw [List.getElem?_eq_getElem hi, ei] at ey
  obtain rfl := Option.some.inj ey
  refine ⟨t, ?_, l⟩
  have ndk : (kvs.map fun kv => kv.1).Nodup := by
    rw [s.keys]
    have e : sh.map (fun x => keyP x.1) = (sh.map fun x => x.1).map keyP := by rw [List.map_map]; rfl
    rw [e]
    exact List.pairwise_map.mpr (List.Pairwise.imp (fun {a b} ne e => ne (keyP_inj e)) nd)
  have ev := valV_in2 ndk (List.getElem_mem hk)
  rw [e1, e2] at ev
  exact ev
theorem sum_le9 {α : Type} {f : α → Nat} {n : Nat} : ∀ {l : List α}, (∀ x ∈ l, f x ≤ n) → (l.map f).sum ≤ l.length * n
  | [], _ => Nat.zero_le _
  | x :: l, h => by
    have h1 := h x List.mem_cons_self
    have h2 := sum_le9 (l := l) fun y m => h y (List.mem_cons_of_mem _ m)
    have e : (x :: l).length * n = l.length * n + n := by rw [List.length_cons, Nat.add_mul, Nat.one_mul]
    rw [List.map_cons, List.sum_cons, e]
    omega
theorem join_size {L : List (List Nat)} {n m : Nat} (h : ∀ p ∈ L, p.length ≤ n) (l : L.length ≤ m) (k : Nat) (z : m * n + m * k ≤ 16777216) : ((L.map SX.S).map fun x => x.length).sum + (L.map SX.S).length * k ≤ 16777216 := by
  have h1 := sum_le9 (f := fun x : Str => x.length) (n := n) (l := L.map SX.S) fun x mx => by
    obtain ⟨p, hp, rfl⟩ := List.mem_map.mp mx
    show (Sx p).length ≤ n
    rw [Sx_len]; exact h p hp
  rw [List.length_map] at h1 ⊢
  have h2 := Nat.mul_le_mul_right n l
  have h3 := Nat.mul_le_mul_right k l
  omega
theorem r_jn {acc : Str} {σ : L2.St} {H : Hp} {R : Str → Hp → Prop} (h : R acc H) : tJs [] acc σ H R := h
theorem join_nil : ∀ L : List (List Nat), TL.joinL [] L = L.flatten
  | [] => rfl
  | [p] => by show p = _; rw [List.flatten_cons, List.flatten_nil, List.append_nil]
  | p :: q :: r => by
    show p ++ ([] ++ TL.joinL [] (q :: r)) = _
    rw [join_nil (q :: r), List.nil_append]
    rfl
def sp_paper_text (_ : PySem.W.Frag) : Sp := fun vs H Q _ => ∃ (d : Addr) (sh : Sheet), vs = [.ref d] ∧ ShD H d sh ∧ GoodS sh ∧ ∀ H', Same H H' → Q (.str (Sx (paperC sh))) H'
section
variable {P : Program} {w : World} {K : PySem.W.Frag} {mg : Str → Option Value} {base : Heap}
theorem ok_paper_text {c_PaperReader : Addr} (T : Tx K mg c_PaperReader)  {f : Addr} {fd : FuncData} (F : Here K mg "paper_text" s_paper_text ["paper"] f fd) : Cal P w K mg base "paper_text" 1 ["paper"] (sp_paper_text K) s_paper_text f fd := by
  refine F.cal sc_paper_text (fun vs H Q E h => ?_) (fun cdv A' outer s H vs Q E hr h => ?_)
  · obtain ⟨d, sh, rfl, _⟩ := h
    rfl
  · obtain ⟨d, sh, rfl, hd, g, q⟩ := h
    refine ⟨_, (pss_cons (ps_set (i := 1) sc_paper_text.nd rfl (by first | exact .inl rfl | exact .inr rfl) (pe_lst pa_nil))
      (pss_cons (ps_for PassesOwn.never rfl (pi_listK (K := K) (pe_callB (cr_sortDT rfl) (by rfl) T.m_sorted (by decide +kernel) (pa_cons (pv 0) pa_nil))) (castPG (K := K) (n := 2) (pg_tup rfl (pgs_cons (pg_name (i := 2) sc_paper_text.nd rfl (by first | exact .inl rfl | exact .inr rfl)) (pgs_cons (pg_name (i := 3) sc_paper_text.nd rfl (by first | exact .inl rfl | exact .inr rfl)) pgs_nil)))) (pss_cons (ps_expr (castBM (K := K) (pe_bm PySem.F.plainAttrs_list PySem.F.slot_list_append PySem.F.type_list_append mt_append (pv 1) (pa_cons (pe_joined (.cons pe_str (.cons (pe_fmt (pv 2)) (.cons pe_str (.cons (pe_fmt (pv 3)) .nil))))) pa_nil))))
      (pss_one (ps_expr (castBM (K := K) (pe_bm PySem.F.plainAttrs_list PySem.F.slot_list_extend PySem.F.type_list_extend mt_extend (pv 1) (pa_cons (pe_lc rfl sc_paper_text.nd (pi_tupK (K := K) (pe_dget (hu_of hr) (pv 0) (pe_tup (pa_cons (pv 2) (pa_cons (pv 3) pa_nil))) (fun _ _ => rfl))) (blkOk_by (own := [("row", 4)]) (N := ["paper", "rows", "number", "other", "row", "n"]) (sc := (defScope s_paper_text)) (by decide +kernel)) (fun _ _ _ _ _ => (pg_name (i := 4) sc_paper_text.nd rfl (by first | exact .inl rfl | exact .inr rfl))) (fun _ _ _ _ _ => pts_nil) (fun _ _ _ _ _ => (castM1 (K := K) (pe_join pe_str (pe_lc rfl sc_paper_text.nd (pi_tupK (K := K) (pv 4)) (blkOk_in (own := [("n", 5)]) (N := ["paper", "rows", "number", "other", "row", "n"]) (by decide +kernel)) (fun _ _ _ _ _ => (pg_name (i := 5) sc_paper_text.nd rfl (by first | exact .inl rfl | exact .inr rfl))) (fun _ _ _ _ _ => pts_nil) (fun _ _ _ _ _ => (pe_callTy cr_strOf (by rfl) T.m_str (by decide +kernel) (pa_cons (pv 5) pa_nil)))))))) pa_nil)))))))
      (pss_one (ps_ret (castM1 (K := K) (pe_join pe_str (pe_lc rfl sc_paper_text.nd (pi_listK (K := K) (pv 1)) (blkOk_by (own := [("row", 4)]) (N := ["paper", "rows", "number", "other", "row", "n"]) (sc := (defScope s_paper_text)) (by decide +kernel)) (fun _ _ _ _ _ => (pg_name (i := 4) sc_paper_text.nd rfl (by first | exact .inl rfl | exact .inr rfl))) (fun _ _ _ _ _ => pts_nil) (fun _ _ _ _ _ => (pe_op op_addS (pv 4) pe_str))))))))), ?_⟩
    walk_at "st"
    intro l0 hl0
    have s1 : Same H (upd H l0 (.lst [])) := Same.upd_new hl0
    have el0 : upd H l0 (.lst []) l0 = some (.lst []) := upd_same
    generalize upd H l0 (.lst []) = H1 at *
    walk_at "st"
    refine r_sortSh (hd.same s1) fun ys p py hp => ?_
    have s2 : Same H1 (upd H1 p (.lst ys)) := Same.upd_new hp
    have ep : upd H1 p (.lst ys) p = some (.lst ys) := upd_same
    have el1 := s2 _ _ el0
    have S2 := s1.trans s2
    replace py := py.same fun t xs e => s2 _ _ e
    generalize upd H1 p (.lst ys) = H2 at *
    have npl : p ≠ l0 := fun e => by rw [e, el0] at hp; cases hp
    have ly : ys.length = (ordS sh).length := py.1
    walk_at "st"
    refine lp_by (walk_list (a := p) (xs := ys)) (fun i σ' H' => ∃ x2 x3 x4 x5, σ' = [some (.ref d), some (.ref l0), x2, x3, x4, x5] ∧ Same H H' ∧ H' p = some (.lst ys) ∧ PrsAt H' ys (ordS sh) ∧ H' l0 = some (.lst ((linesS ((srtS sh).take i)).map fun q => V.str (Sx q))))
      ⟨_, _, _, _, rfl, S2, ep, py, el1⟩ (fun i σ' H' _ z => by obtain ⟨_, _, _, _, _, _, z1, _⟩ := z; exact SqL.of z1) (fun i v σ' HX HX' hi z y => ?_) (fun σ' HX z => ?_)
    · obtain ⟨y2, y3, y4, y5, rfl, sm, hp', py', hl'⟩ := z
      obtain ⟨rfl, ex⟩ := y
      obtain ⟨k, ek, t, rfl, ht⟩ := py'.2 i v ex
      have exx : (srtS sh)[i]? = some (k, rowsAt sh k) := by unfold srtS; rw [List.getElem?_map, ek]; rfl
      have gs := g.srt
      have mx := List.mem_of_getElem? exx
      have hk := gs.pr _ mx
      have hrow := gs.row _ mx
      have hrows := gs.rows _ mx
      have mk : ∃ y ∈ sh, y.1 = k := by
        obtain ⟨y, hy, e⟩ := List.mem_map.mp ((ord_perm sh).mem_iff.mp (List.mem_of_getElem? ek))
        exact ⟨y, hy, e⟩
      obtain ⟨y0, hy0, ey0⟩ := mk
      have er : rowsAt sh k = y0.2 := by rw [← ey0]; exact rowsAt_mem g.nd hy0
      have hk1 : 0 ≤ k.1 ∧ k.1 ≤ 1000000 := ⟨hk.1.1, by have := hk.1.2; show k.1 ≤ 1000000; have e : (k, rowsAt sh k).1.1 = k.1 := rfl; omega⟩
      have hk2 : 0 ≤ k.2 ∧ k.2 ≤ 1000000 := ⟨hk.2.1, by have := hk.2.2; show k.2 ≤ 1000000; have e : (k, rowsAt sh k).1.2 = k.2 := rfl; omega⟩
      have n1 : (numC k.1).length ≤ 5 := numC5 hk.1
      have n2 : (numC k.2).length ≤ 5 := numC5 hk.2
      have sl : (1000000 : Nat) ≤ sizeLine := by decide
      have lin : (linesS ((srtS sh).take i)).length ≤ 30 := by
        rw [lines_toks, List.length_map]
        refine Nat.le_trans (toks_len fun z m => gs.rows z (List.mem_of_mem_take m)) ?_
        have h1 := List.length_take_le' i (srtS sh)
        have h2 := gs.len
        omega
      have z1 : ((linesS ((srtS sh).take i)).map fun q => V.str (Sx q)).length < sizeLine := by rw [List.length_map]; omega
      walk_at "st"
      refine r_tjs ⟨Str.ofString "pair ", rfl, by decide +kernel, ?_⟩
      rw [show Str.empty ++ Str.ofString "pair " = Sx [112, 97, 105, 114, 32] from rfl]
      refine r_tjs (r_fmtVI (k := k.1) rfl hk1 ⟨_, rfl, by rw [SX.S_cat, Sx_len, List.length_append]; show 5 + _ ≤ _; omega, ?_⟩)
      rw [SX.S_cat]
      refine r_tjs ⟨Str.ofString " ", rfl, by rw [show Str.ofString " " = Sx [32] from rfl, SX.S_cat, Sx_len, List.length_append, List.length_append]; show 5 + _ + 1 ≤ _; omega, ?_⟩
      rw [show Str.ofString " " = Sx [32] from rfl, SX.S_cat]
      refine r_tjs (r_fmtVI (k := k.2) rfl hk2 ⟨_, rfl, by rw [SX.S_cat, Sx_len, List.length_append, List.length_append, List.length_append]; show 5 + _ + 1 + _ ≤ _; omega, ?_⟩)
      rw [SX.S_cat]
      have epc : ([112, 97, 105, 114, 32] ++ numC k.1) ++ [32] ++ numC k.2 = pairC k := by
        rw [List.append_assoc, List.append_assoc]; rfl
      rw [epc]
      refine r_jn ?_
      show tNil _ _ _
      walk_at "st"
      obtain ⟨kvs, hdk, sv⟩ := id hd
      obtain ⟨tr, ev, us, hus, rus⟩ := sh_get sv g.nd hy0
      rw [ey0] at ev
      have keepA : ∀ c o, H c = some o → upd HX' l0 (.lst (((linesS ((srtS sh).take i)).map fun q => V.str (Sx q)) ++ [V.str (SX.S (pairC k))])) c = some o := fun c o e => hl_set (ne_of_none e hl0) (sm _ _ e)
      have epA : upd HX' l0 (.lst (((linesS ((srtS sh).take i)).map fun q => V.str (Sx q)) ++ [V.str (SX.S (pairC k))])) p = some (.lst ys) := hl_set npl hp'
      have pyA := py'.same (H' := upd HX' l0 (.lst (((linesS ((srtS sh).take i)).map fun q => V.str (Sx q)) ++ [V.str (SX.S (pairC k))]))) fun t xs e => hl_set (fun z => by rw [z, hl'] at e; cases e) e
      have elA : upd HX' l0 (.lst (((linesS ((srtS sh).take i)).map fun q => V.str (Sx q)) ++ [V.str (SX.S (pairC k))])) l0 = some (.lst (((linesS ((srtS sh).take i)).map fun q => V.str (Sx q)) ++ [V.str (Sx (pairC k))])) := upd_same
      generalize upd HX' l0 (.lst (((linesS ((srtS sh).take i)).map fun q => V.str (Sx q)) ++ [V.str (SX.S (pairC k))])) = HA at *
      refine ⟨_, rfl, ?_⟩
      walk_at "st"
      intro kt hkt
      have sB : Same HA (upd HA kt (.tup [.int k.1, .int k.2])) := Same.upd_new hkt
      have ekt : upd HA kt (.tup [.int k.1, .int k.2]) kt = some (.tup ((keyP k).map kV)) := upd_same
      generalize upd HA kt (.tup [.int k.1, .int k.2]) = HB at *
      have husB := sB _ _ (keepA _ _ hus)
      have rusB := (rus.tups (H' := HB) fun t xs e => sB _ _ (keepA _ _ e))
      refine ⟨d, .ref tr, rfl, by rw [← ev]; exact DGet.t (k := keyP k) (sB _ _ (keepA _ _ hdk)) ekt, ?_⟩
      walk_at "st"
      intro D hD
      have lus : us.length ≤ 4 := by rw [rus.1, ← er]; exact hrows
      refine lc_map (walk_tup (a := tr) (xs := us)) (by omega) hD (fun j y _ => ∃ r, y0.2[j]? = some r ∧ y = .str (Sx (rowC r))) (fun _ _ _ _ h _ => h) (fun _ _ _ _ _ h _ => h) (fun H' k => SqT.of (k _ _ husB)) (fun i H1 x H2 y => by rw [y.1]; exact Same.refl _)
        (fun j x H3 H4 Y No hj s3 y hY => ?_) (fun zs H3 el3 s3 eD hzs => ?_)
      · obtain ⟨rfl, ex⟩ := y
        obtain ⟨r, er2, pr⟩ := rusB.2 j x ex
        obtain ⟨c, rfl, hc⟩ := pr.same s3
        have hr := hrow r (by show r ∈ rowsAt sh k; rw [er]; exact List.mem_of_getElem? er2)
        refine ⟨rfl, ?_⟩
        walk_at "st"
        intro D2 hD2
        refine lc_map (walk_tup (a := c) (xs := r.map V.int)) (by rw [List.length_map]; omega) hD2 (fun j y _ => ∃ n, r[j]? = some n ∧ y = .str (Sx (numC n))) (fun _ _ _ _ h _ => h) (fun _ _ _ _ _ h _ => h) (fun H' k => SqT.of (k _ _ hc)) (fun i H1 x H2 y => by rw [y.1]; exact Same.refl _)
          (fun j x H5 H6 Y No hj s5 y hY => ?_) (fun ws H5 el5 s5 eD5 hws => ?_)
        · obtain ⟨rfl, ex⟩ := y
          obtain ⟨n, en, rfl⟩ := getElem?_map_int ex
          have hn := hr.2 n (List.mem_of_getElem? en)
          have hn0 : 0 ≤ n ∧ n ≤ 1000000 := ⟨hn.1, by have := hn.2; omega⟩
          refine ⟨rfl, ?_⟩
          walk_at "st"
          exact hY _ _ (Same.refl _) ⟨n, en, rfl⟩
        · have ews : ws = ((r.map numC).map SX.S).map V.str := by
            rw [List.map_map, List.map_map]
            apply List.ext_getElem?
            intro j
            cases e : ws[j]? with
            | none =>
              rw [List.getElem?_eq_none_iff] at e
              rw [List.getElem?_eq_none_iff.mpr (by rw [List.length_map]; rw [el5, List.length_map] at e; exact e)]
            | some y =>
              obtain ⟨n, en, rfl⟩ := hws j y e
              rw [List.getElem?_map, en]; rfl
          subst ews
          refine r_joinS (SqL.of eD5) ?_ ?_
          · exact join_size (n := 5) (m := 6) (fun p hp => by
              obtain ⟨n, hn, rfl⟩ := List.mem_map.mp hp
              exact numC5 (hr.2 n hn)) (by rw [List.length_map]; exact hr.1.2) _ (by decide)
          · rw [show Sx [32] = SX.S [32] from rfl, SX.join_S]
            exact hY _ _ s5 ⟨r, er2, rfl⟩
      have ezs : zs = y0.2.map fun r => V.str (Sx (rowC r)) := by
        apply List.ext_getElem?
        intro j
        cases e : zs[j]? with
        | none =>
          rw [List.getElem?_eq_none_iff] at e
          rw [List.getElem?_eq_none_iff.mpr (by rw [List.length_map, ← rus.1]; rw [el3] at e; exact e)]
        | some y =>
          obtain ⟨r, e4, rfl⟩ := hzs j y e
          rw [List.getElem?_map, e4]; rfl
      subst ezs
      have sC := sB.trans s3
      walk_at "st"
      have l2 : y0.2.length ≤ 4 := by rw [← er]; exact hrows
      refine ⟨l0, D, _, _, rfl, rfl, sC _ _ elA, eD, by rw [List.length_append, List.length_map, List.length_map]; show _ + 1 + _ ≤ _; omega, ?_⟩
      have tk : (srtS sh).take (i + 1) = (srtS sh).take i ++ [(k, y0.2)] := by rw [List.take_succ, exx, er]; rfl
      have el : (linesS ((srtS sh).take (i + 1))).map (fun q => V.str (Sx q)) = (((linesS ((srtS sh).take i)).map fun q => V.str (Sx q)) ++ [V.str (Sx (pairC k))]) ++ y0.2.map fun r => V.str (Sx (rowC r)) := by
        rw [tk]
        unfold linesS
        rw [List.flatMap_append, List.map_append, List.append_assoc]
        congr 1
        show List.map _ (List.flatMap _ [(k, y0.2)]) = _
        rw [List.flatMap_cons, List.flatMap_nil, List.append_nil, List.map_cons, List.map_map]; rfl
      refine ⟨_, _, _, _, rfl, fun b o e => hl_set (ne_of_none e hl0) (sC _ _ (keepA _ _ e)), hl_set npl (sC _ _ epA), pyA.same fun t xs e => hl_set (fun z => by rw [z, elA] at e; cases e) (sC _ _ e), ?_⟩
      rw [upd_same, el]
    · obtain ⟨y2, y3, y4, y5, rfl, sm, hp', py', hl'⟩ := z
      have e1 : (srtS sh).take ys.length = srtS sh := by
        rw [ly, ← srt_keys, List.length_map, List.take_length]
      rw [e1] at hl'
      have gs := g.srt
      have lin : (linesS (srtS sh)).length ≤ 30 := by
        rw [lines_toks, List.length_map]
        exact Nat.le_trans (toks_len gs.rows) (by have := gs.len; omega)
      have lp : ∀ p ∈ linesS (srtS sh), p.length ≤ 36 := fun p m => by
        obtain ⟨x, hx, m⟩ := List.mem_flatMap.mp m
        rcases List.mem_cons.mp m with e | m
        · rw [e]; exact Nat.le_trans (pair_len (gs.pr x hx)) (by decide)
        · obtain ⟨r, hr, rfl⟩ := List.mem_map.mp m
          have := gs.row x hx r hr
          exact row_len this.1.2 this.2
      walk_at "st"
      intro D hD
      refine lc_map (walk_list (a := l0) (xs := (linesS (srtS sh)).map fun q => V.str (Sx q))) (by rw [List.length_map]; omega) hD (fun j y _ => ∃ p, (linesS (srtS sh))[j]? = some p ∧ y = .str (Sx (p ++ [10]))) (fun _ _ _ _ h _ => h) (fun _ _ _ _ _ h _ => h) (fun H' k => SqL.of (k _ _ hl')) (fun i H1 x H2 y => by rw [y.1]; exact Same.refl _)
        (fun j x H3 H4 Y No hj s3 y hY => ?_) (fun zs H3 el3 s3 eD hzs => ?_)
      · obtain ⟨rfl, ex⟩ := y
        rw [List.getElem?_map] at ex
        cases ep2 : (linesS (srtS sh))[j]? with
        | none => rw [ep2] at ex; cases ex
        | some p2 =>
          rw [ep2] at ex
          obtain rfl : V.str (Sx p2) = x := Option.some.inj ex
          have lp2 := lp p2 (List.mem_of_getElem? ep2)
          have lz : (Sx p2).length ≤ 36 := by rw [Sx_len]; exact lp2
          have lnl : (Str.ofString "\n").length = 1 := rfl
          refine ⟨rfl, ?_⟩
          walk_at "st"
          have ea : Sx p2 ++ Str.ofString "\n" = Sx (p2 ++ [10]) := SX.S_cat p2 [10]
          rw [ea]
          exact hY _ _ (Same.refl _) ⟨p2, ep2, rfl⟩
      have ezs : zs = (((linesS (srtS sh)).map (· ++ [10])).map SX.S).map V.str := by
        rw [List.map_map, List.map_map]
        apply List.ext_getElem?
        intro j
        cases e : zs[j]? with
        | none =>
          rw [List.getElem?_eq_none_iff] at e
          rw [List.getElem?_eq_none_iff.mpr (by rw [List.length_map]; rw [el3, List.length_map] at e; exact e)]
        | some y =>
          obtain ⟨p2, e4, rfl⟩ := hzs j y e
          rw [List.getElem?_map, e4]; rfl
      subst ezs
      walk_at "st"
      refine r_joinS (SqL.of eD) (join_size (n := 37) (m := 30) (fun p hp => by
        obtain ⟨q2, hq2, rfl⟩ := List.mem_map.mp hp
        rw [List.length_append]
        have := lp q2 hq2
        show _ + 1 ≤ 37
        omega) (by rw [List.length_map]; exact lin) _ (by decide)) ?_
      rw [show Str.ofString "" = SX.S [] from rfl, SX.join_S, join_nil]
      have e9 : ((linesS (srtS sh)).map (· ++ [10])).flatten = paperC sh := by
        unfold paperC linesC
        rw [List.flatMap_def]
      rw [e9]
      exact q _ (sm.trans s3)
end
local macro_rules | `(tactic| walk_at "ssz") => `(tactic| first | decide | exact str_small (by assumption) | (have : (1000000 : Nat) ≤ sizeLine := (by decide); omega))
local macro_rules | `(tactic| walk_at "st1") => `(tactic| first
  | with_reducible refine' r_nt ?_ | with_reducible refine' r_nf ?_
  | ((with_reducible refine r_lenS ?e1 ?_); (case e1 => walk_at "ssz"))
  | with_reducible refine r_inS ?_
  | with_reducible refine r_ninS ?_
  | ((with_reducible refine r_addS ?e1 ?_); (case e1 => walk_at "ssz"))
  | ((with_reducible refine' r_ixS ?e1 ?e2 ?_); (case e1 => walk_at "ssz"); (case e2 => first | assumption | rfl))
  | with_reducible refine r_istr ?_
  | with_reducible refine r_is ?_
  | with_reducible refine r_un ?_
  | with_reducible refine r_u ?_)
local macro_rules | `(tactic| walk_at "st1") => `(tactic| first
  | with_reducible refine r_tru ?_
  | ((with_reducible refine' r_truT ?e1 ?_); (case e1 => walk_at "sq"))
  | with_reducible refine r_isN ?_
  | with_reducible refine r_tyS ?_
  | with_reducible refine r_m1 ?_
  | with_reducible refine r_sx ?_
  | ((with_reducible refine r_strC ?e1 ?_); (case e1 => omega)))
local macro_rules | `(tactic| walk_at "st1") => `(tactic| first
  | with_reducible refine r_par ?_
  | with_reducible refine r_parx ?_
  | ((with_reducible refine' r_gtup ?e1 ?e2 ?_); (case e1 => walk_at "sq"); (case e2 => rfl))
  | with_reducible refine r_gcons ?_
  | with_reducible refine r_gnil ?_
  | with_reducible refine r_ient ?_
  | ((with_reducible refine' r_ent ?e1 ?_); (case e1 => walk_at "sq")))
def sp_law_written_out (_ : PySem.W.Frag) : Sp := fun vs H Q _ => ∃ (d : Addr) (sh : Sheet), vs = [.ref d] ∧ ShD H d sh ∧ GoodS sh ∧ ∀ H', Same H H' → Q (.str (Sx (paperC sh))) H'
theorem linesC_app (L M : List (List Nat)) : linesC (L ++ M) = linesC L ++ linesC M := List.flatMap_append
theorem r_addX {H : Hp} {Q : VK} {a b : List Nat} (l : a.length + b.length ≤ 1000000) (q : Q (.str (Sx (a ++ b))) H) : rAddS (.str (Sx a)) (.str (Sx b)) H Q :=
  r_addS (by rw [Sx_len, Sx_len]; exact Nat.le_trans l (by decide)) (by rw [show Sx a ++ Sx b = Sx (a ++ b) from SX.S_cat a b]; exact q)
theorem linesC_one (p : List Nat) : linesC [p] = p ++ [10] := by
  show (p ++ [10]) ++ [] = _
  rw [List.append_nil]
section
variable {P : Program} {w : World} {K : PySem.W.Frag} {mg : Str → Option Value} {base : Heap}
theorem ok_law_written_out {c_PaperReader : Addr} (T : Tx K mg c_PaperReader)  {f : Addr} {fd : FuncData} (F : Here K mg "_law_written_out" s_law_written_out ["sheet"] f fd) : Cal P w K mg base "_law_written_out" 1 ["sheet"] (sp_law_written_out K) s_law_written_out f fd := by
  refine F.cal sc_law_written_out (fun vs H Q E h => ?_) (fun cdv A' outer s H vs Q E hr h => ?_)
  · obtain ⟨d, sh, rfl, _⟩ := h
    rfl
  · obtain ⟨d, sh, rfl, hd, g, q⟩ := h
    have gs := g.srt
    have sl : (1000000 : Nat) ≤ sizeLine := by decide
    have lpm : ∀ n : Nat, ∀ p ∈ linesS ((srtS sh).take n), p.length ≤ 36 := fun n p m => by
      obtain ⟨x, hx, m⟩ := List.mem_flatMap.mp m
      have hx := List.mem_of_mem_take hx
      rcases List.mem_cons.mp m with e | m
      · rw [e]; exact Nat.le_trans (pair_len (gs.pr x hx)) (by decide)
      · obtain ⟨r, hr, rfl⟩ := List.mem_map.mp m
        have := gs.row x hx r hr
        exact row_len this.1.2 this.2
    have lim : ∀ n : Nat, (linesC (linesS ((srtS sh).take n))).length ≤ 2000 := fun n => by
      refine Nat.le_trans (linesC_len (lpm n)) ?_
      have h0 : (linesS ((srtS sh).take n)).length ≤ 30 := by
        rw [lines_toks, List.length_map]
        refine Nat.le_trans (toks_len fun z m => gs.rows z (List.mem_of_mem_take m)) ?_
        have h1 := List.length_take_le' n (srtS sh)
        have h2 := gs.len
        omega
      have := Nat.mul_le_mul_right 37 h0
      omega
    refine ⟨_, (pss_cons (ps_set (i := 1) sc_law_written_out.nd rfl (by first | exact .inl rfl | exact .inr rfl) pe_str)
      (pss_cons (ps_for PassesOwn.never rfl (pi_listK (K := K) (pe_callB (cr_sortDT rfl) (by rfl) T.m_sorted (by decide +kernel) (pa_cons (pv 0) pa_nil))) (castPG (K := K) (n := 2) (pg_tup rfl (pgs_cons (pg_name (i := 2) sc_law_written_out.nd rfl (by first | exact .inl rfl | exact .inr rfl)) (pgs_cons (pg_name (i := 3) sc_law_written_out.nd rfl (by first | exact .inl rfl | exact .inr rfl)) pgs_nil)))) (pss_cons (ps_set (i := 1) sc_law_written_out.nd rfl (by first | exact .inl rfl | exact .inr rfl) (pe_op op_addS (pe_op op_addS (pe_op op_addS (pe_op op_addS (pe_op op_addS (pv 1) pe_str) (pe_callTy cr_strOf (by rfl) T.m_str (by decide +kernel) (pa_cons (pv 2) pa_nil))) pe_str) (pe_callTy cr_strOf (by rfl) T.m_str (by decide +kernel) (pa_cons (pv 3) pa_nil))) pe_str))
      (pss_one (ps_for PassesOwn.never rfl (pi_tupK (K := K) (pe_dget (hu_of hr) (pv 0) (pe_tup (pa_cons (pv 2) (pa_cons (pv 3) pa_nil))) (fun _ _ => rfl))) (pg_name (i := 4) sc_law_written_out.nd rfl (by first | exact .inl rfl | exact .inr rfl)) (pss_one (ps_set (i := 1) sc_law_written_out.nd rfl (by first | exact .inl rfl | exact .inr rfl) (pe_op op_addS (pe_op op_addS (pv 1) (castM1 (K := K) (pe_join pe_str (pe_lc rfl sc_law_written_out.nd (pi_tupK (K := K) (pv 4)) (blkOk_by (own := [("number", 5)]) (N := ["sheet", "made", "one", "other", "row", "number"]) (sc := (defScope s_law_written_out)) (by decide +kernel)) (fun _ _ _ _ _ => (pg_name (i := 5) sc_law_written_out.nd rfl (by first | exact .inl rfl | exact .inr rfl))) (fun _ _ _ _ _ => pts_nil) (fun _ _ _ _ _ => (pe_callTy cr_strOf (by rfl) T.m_str (by decide +kernel) (pa_cons (pv 5) pa_nil))))))) pe_str)))))))
      (pss_one (ps_ret (pv 1))))), ?_⟩
    walk_at "st"
    refine r_sortSh hd fun ys p py hp => ?_
    have s2 : Same H (upd H p (.lst ys)) := Same.upd_new hp
    have ep : upd H p (.lst ys) p = some (.lst ys) := upd_same
    replace py := py.same fun t xs e => s2 _ _ e
    generalize upd H p (.lst ys) = H2 at *
    have ly : ys.length = (ordS sh).length := py.1
    walk_at "st"
    refine lp_by (walk_list (a := p) (xs := ys)) (fun i σ' H' => ∃ x2 x3 x4 x5, σ' = [some (.ref d), some (.str (Sx (linesC (linesS ((srtS sh).take i))))), x2, x3, x4, x5] ∧ Same H2 H')
      ⟨_, _, _, _, rfl, Same.refl _⟩ (fun i σ' H' _ z => by obtain ⟨_, _, _, _, _, z1⟩ := z; exact SqL.of (z1 _ _ ep)) (fun i v σ' HX HX' hi z y => ?_) (fun σ' HX z => ?_)
    · obtain ⟨y2, y3, y4, y5, rfl, sm⟩ := z
      obtain ⟨rfl, ex⟩ := y
      obtain ⟨k, ek, t, rfl, ht⟩ := (py.same fun t xs e => sm _ _ e).2 i v ex
      have exx : (srtS sh)[i]? = some (k, rowsAt sh k) := by unfold srtS; rw [List.getElem?_map, ek]; rfl
      have mx := List.mem_of_getElem? exx
      have hk := gs.pr _ mx
      have hrow := gs.row _ mx
      have hrows := gs.rows _ mx
      obtain ⟨y0, hy0, ey0⟩ : ∃ y ∈ sh, y.1 = k := by
        obtain ⟨y, hy, e⟩ := List.mem_map.mp ((ord_perm sh).mem_iff.mp (List.mem_of_getElem? ek))
        exact ⟨y, hy, e⟩
      have er : rowsAt sh k = y0.2 := by rw [← ey0]; exact rowsAt_mem g.nd hy0
      have hk1 : 0 ≤ k.1 ∧ k.1 ≤ 1000000 := ⟨hk.1.1, by have := hk.1.2; show k.1 ≤ 1000000; have e : (k, rowsAt sh k).1.1 = k.1 := rfl; omega⟩
      have hk2 : 0 ≤ k.2 ∧ k.2 ≤ 1000000 := ⟨hk.2.1, by have := hk.2.2; show k.2 ≤ 1000000; have e : (k, rowsAt sh k).1.2 = k.2 := rfl; omega⟩
      have n1 : (numC k.1).length ≤ 5 := numC5 hk.1
      have n2 : (numC k.2).length ≤ 5 := numC5 hk.2
      have lmi := lim i
      have tk : (srtS sh).take (i + 1) = (srtS sh).take i ++ [(k, y0.2)] := by rw [List.take_succ, exx, er]; rfl
      have elin : linesS ((srtS sh).take (i + 1)) = linesS ((srtS sh).take i) ++ (pairC k :: y0.2.map rowC) := by
        rw [tk]
        unfold linesS
        rw [List.flatMap_append]
        congr 1
        show List.flatMap _ [(k, y0.2)] = _
        rw [List.flatMap_cons, List.flatMap_nil, List.append_nil]
      obtain ⟨kvs, hdk, sv⟩ := id hd
      obtain ⟨tr, ev, us, hus, rus⟩ := sh_get sv g.nd hy0
      rw [ey0] at ev
      generalize hM : linesC (linesS ((srtS sh).take i)) = M at *
      have zM : (Sx M).length ≤ 2000 := by rw [Sx_len]; exact lmi
      walk_at "st"
      refine r_addX (b := [112, 97, 105, 114, 32]) (by show M.length + 5 ≤ _; omega) ?_
      walk_at "st"
      refine r_addX (by rw [List.length_append]; show M.length + 5 + _ ≤ _; omega) ?_
      walk_at "st"
      refine r_addX (b := [32]) (by rw [List.length_append, List.length_append]; show M.length + 5 + _ + 1 ≤ _; omega) ?_
      walk_at "st"
      refine r_addX (by rw [List.length_append, List.length_append, List.length_append]; show M.length + 5 + _ + 1 + _ ≤ _; omega) ?_
      walk_at "st"
      refine r_addX (b := [10]) (by rw [List.length_append, List.length_append, List.length_append, List.length_append]; show M.length + 5 + _ + 1 + _ + 1 ≤ _; omega) ?_
      have epc : M ++ [112, 97, 105, 114, 32] ++ numC k.1 ++ [32] ++ numC k.2 ++ [10] = M ++ (pairC k ++ [10]) := by
        have e : pairC k = [112, 97, 105, 114] ++ ([32] ++ (numC k.1 ++ ([32] ++ numC k.2))) := rfl
        rw [e]
        simp [List.append_assoc]
      rw [epc]
      walk_at "st"
      refine ⟨_, rfl, ?_⟩
      walk_at "st"
      intro kt hkt
      have sB : Same HX' (upd HX' kt (.tup [.int k.1, .int k.2])) := Same.upd_new hkt
      have ekt : upd HX' kt (.tup [.int k.1, .int k.2]) kt = some (.tup ((keyP k).map kV)) := upd_same
      generalize upd HX' kt (.tup [.int k.1, .int k.2]) = HB at *
      have S3 := (s2.trans sm).trans sB
      have husB := S3 _ _ hus
      have rusB := rus.same S3
      have lpk := pair_len hk
      have lpk : (pairC k).length ≤ 18 := lpk
      refine ⟨d, .ref tr, rfl, by rw [← ev]; exact DGet.t (k := keyP k) (S3 _ _ hdk) ekt, ?_⟩
      walk_at "st"
      refine lp_by (walk_tup (a := tr) (xs := us)) (fun j σ' H' => ∃ x4 x5, σ' = [some (.ref d), some (.str (Sx (M ++ (pairC k ++ [10]) ++ linesC ((y0.2.take j).map rowC)))), some (.int k.1), some (.int k.2), x4, x5] ∧ Same HB H')
        ⟨_, _, by rw [List.take_zero]; show _ = [some (V.ref d), some (V.str (Sx (M ++ (pairC k ++ [10]) ++ []))), _, _, _, _]; rw [List.append_nil]; rfl, Same.refl _⟩ (fun j σ' H' _ z => SqT.of (z.choose_spec.choose_spec.2 _ _ husB)) (fun j v σ' HZ HZ' hj z y => ?_) (fun σ' HZ z => ?_)
      · obtain ⟨z4, z5, rfl, sz⟩ := z
        obtain ⟨rfl, ex⟩ := y
        obtain ⟨r, er2, pr⟩ := rusB.2 j v ex
        obtain ⟨c, rfl, hc⟩ := pr.same sz
        have hr := hrow r (by show r ∈ rowsAt sh k; rw [er]; exact List.mem_of_getElem? er2)
        have ly0 : y0.2.length ≤ 4 := by rw [← er]; exact hrows
        have lN : (linesC ((y0.2.take j).map rowC)).length ≤ 148 := by
          refine Nat.le_trans (linesC_len (n := 36) fun p m => ?_) ?_
          · obtain ⟨r2, hr2, rfl⟩ := List.mem_map.mp m
            have h2 := hrow r2 (by show r2 ∈ rowsAt sh k; rw [er]; exact List.mem_of_mem_take hr2)
            exact row_len h2.1.2 h2.2
          · rw [List.length_map]
            have := List.length_take_le' j y0.2
            omega
        have trj : y0.2.take (j + 1) = y0.2.take j ++ [r] := by rw [List.take_succ, er2]; rfl
        rw [trj, List.map_append, linesC_app]
        generalize hN : linesC ((y0.2.take j).map rowC) = N at *
        have lr := row_len hr.1.2 hr.2
        walk_at "st"
        intro D2 hD2
        refine lc_map (walk_tup (a := c) (xs := r.map V.int)) (by rw [List.length_map]; omega) hD2 (fun j y _ => ∃ n, r[j]? = some n ∧ y = .str (Sx (numC n))) (fun _ _ _ _ h _ => h) (fun _ _ _ _ _ h _ => h) (fun H' k => SqT.of (k _ _ hc)) (fun i H1 x H2 y => by rw [y.1]; exact Same.refl _)
          (fun j x H5 H6 Y No hj s5 y hY => ?_) (fun ws H5 el5 s5 eD5 hws => ?_)
        · obtain ⟨rfl, ex⟩ := y
          obtain ⟨n, en, rfl⟩ := getElem?_map_int ex
          have hn := hr.2 n (List.mem_of_getElem? en)
          have hn0 : 0 ≤ n ∧ n ≤ 1000000 := ⟨hn.1, by have := hn.2; omega⟩
          refine ⟨rfl, ?_⟩
          walk_at "st"
          exact hY _ _ (Same.refl _) ⟨n, en, rfl⟩
        · have ews : ws = ((r.map numC).map SX.S).map V.str := by
            rw [List.map_map, List.map_map]
            apply List.ext_getElem?
            intro j
            cases e : ws[j]? with
            | none =>
              rw [List.getElem?_eq_none_iff] at e
              rw [List.getElem?_eq_none_iff.mpr (by rw [List.length_map]; rw [el5, List.length_map] at e; exact e)]
            | some y =>
              obtain ⟨n, en, rfl⟩ := hws j y e
              rw [List.getElem?_map, en]; rfl
          subst ews
          refine r_joinS (SqL.of eD5) (join_size (n := 5) (m := 6) (fun p hp => by
            obtain ⟨n, hn, rfl⟩ := List.mem_map.mp hp
            exact numC5 (hr.2 n hn)) (by rw [List.length_map]; exact hr.1.2) _ (by decide)) ?_
          rw [show Str.ofString " " = SX.S [32] from rfl, SX.join_S]
          refine r_addX (a := M ++ (pairC k ++ [10]) ++ N) (b := rowC r) (by rw [List.length_append, List.length_append, List.length_append]; show M.length + (_ + 1) + _ + _ ≤ _; omega) ?_
          walk_at "st"
          refine r_addX (b := [10]) (by rw [List.length_append, List.length_append, List.length_append, List.length_append]; show M.length + (_ + 1) + _ + _ + 1 ≤ _; omega) ?_
          walk_at "st"
          have e8 : M ++ (pairC k ++ [10]) ++ N ++ rowC r ++ [10] = M ++ (pairC k ++ [10]) ++ (N ++ linesC ([r].map rowC)) := by
            rw [List.map_cons, List.map_nil, linesC_one]
            simp [List.append_assoc]
          rw [← e8]
          exact ⟨_, _, rfl, sz.trans s5⟩
      · obtain ⟨z4, z5, rfl, sz⟩ := z
        have lu : us.length = y0.2.length := rus.1
        rw [lu, List.take_length]
        walk_at "st"
        have e7 : linesC (linesS ((srtS sh).take (i + 1))) = M ++ (pairC k ++ [10]) ++ linesC (y0.2.map rowC) := by
          rw [elin, linesC_app, hM]
          have : linesC (pairC k :: y0.2.map rowC) = (pairC k ++ [10]) ++ linesC (y0.2.map rowC) := List.flatMap_cons
          rw [this]
          simp [List.append_assoc]
        rw [e7]
        exact ⟨_, _, _, _, rfl, (sm.trans sB).trans sz⟩
    · obtain ⟨y2, y3, y4, y5, rfl, sm⟩ := z
      have e1 : (srtS sh).take ys.length = srtS sh := by
        rw [ly, ← srt_keys, List.length_map, List.take_length]
      rw [e1]
      walk_at "st"
      exact q _ (s2.trans sm)
end
local macro_rules | `(tactic| walk_at "st1") => `(tactic| first
  | with_reducible refine r_par ?_
  | with_reducible refine r_parx ?_
  | ((with_reducible refine' r_gtup ?e1 ?e2 ?_); (case e1 => walk_at "sq"); (case e2 => rfl))
  | with_reducible refine r_gcons ?_
  | with_reducible refine r_gnil ?_
  | with_reducible refine r_ient ?_
  | ((with_reducible refine' r_ent ?e1 ?_); (case e1 => walk_at "sq")))
local macro_rules | `(tactic| walk_at "st1") => `(tactic| first
  | with_reducible refine' r_nt ?_
  | with_reducible refine' r_nf ?_
  | with_reducible refine r_un ?_
  | with_reducible refine r_u ?_)
def putS (sh : Sheet) (p : Int × Int) (rows : List (List Int)) : Sheet := if p ∈ sh.map (fun x => x.1) then sh.map fun x => if x.1 = p then (x.1, rows) else x else sh ++ [(p, rows)]
theorem putS_keys (sh : Sheet) (p : Int × Int) (rows : List (List Int)) : (putS sh p rows).map (fun x => x.1) = if p ∈ sh.map (fun x => x.1) then sh.map (fun x => x.1) else sh.map (fun x => x.1) ++ [p] := by
  unfold putS
  by_cases h : p ∈ sh.map fun x => x.1
  · rw [if_pos h, if_pos h, List.map_map]
    exact List.map_congr_left fun x _ => by
      show (if x.1 = p then (x.1, rows) else x).1 = x.1
      split <;> rfl
  · rw [if_neg h, if_neg h, List.map_append]; rfl
theorem putS_mem {sh : Sheet} {p : Int × Int} {rows : List (List Int)} {y : (Int × Int) × List (List Int)} (m : y ∈ putS sh p rows) : y ∈ sh ∨ y = (p, rows) := by
  unfold putS at m
  split at m
  · obtain ⟨x, hx, e⟩ := List.mem_map.mp m
    by_cases c : x.1 = p
    · rw [if_pos c] at e
      exact .inr (by rw [← e, c])
    · rw [if_neg c] at e
      exact .inl (e ▸ hx)
  · rcases List.mem_append.mp m with m | m
    · exact .inl m
    · exact .inr (List.mem_singleton.mp m)
theorem putS_len (sh : Sheet) (p : Int × Int) (rows : List (List Int)) : (putS sh p rows).length ≤ sh.length + 1 := by
  unfold putS
  split
  · rw [List.length_map]; omega
  · rw [List.length_append]; exact Nat.le_refl _
theorem ShV.put {H : Hp} {kvs : List (List Key × V)} {sh : Sheet} {p : Int × Int} {rows : List (List Int)} {t : Addr} (h : ShV H kvs sh) (l : Lot H t rows) : ShV H (putK kvs (keyP p) (.ref t)) (putS sh p rows) := by
  have hk := h.keys
  have iff1 : keyP p ∈ kvs.map (fun kv => kv.1) ↔ p ∈ sh.map fun x => x.1 := by
    rw [hk]
    constructor
    · intro m
      obtain ⟨x, hx, e⟩ := List.mem_map.mp m
      exact List.mem_map.mpr ⟨x, hx, keyP_inj e⟩
    · intro m
      obtain ⟨x, hx, e⟩ := List.mem_map.mp m
      exact List.mem_map.mpr ⟨x, hx, by rw [e]⟩
  by_cases c : p ∈ sh.map fun x => x.1
  · have an : (kvs.any fun kv => decide (kv.1 = keyP p)) = true := by
      obtain ⟨kv, hkv, e⟩ := List.mem_map.mp (iff1.mpr c)
      exact List.any_eq_true.mpr ⟨kv, hkv, decide_eq_true e⟩
    unfold putK putS
    rw [if_pos an, if_pos c]
    refine ⟨by rw [List.length_map, List.length_map]; exact h.1, fun i kv e => ?_⟩
    rw [List.getElem?_map] at e
    cases ek : kvs[i]? with
    | none => rw [ek] at e; cases e
    | some kv0 =>
      rw [ek] at e
      have e := Option.some.inj e
      obtain ⟨x, ex, e1, t1, e2, l1⟩ := h.2 i kv0 ek
      rw [List.getElem?_map, ex]
      by_cases d : x.1 = p
      · have d2 : kv0.1 = keyP p := by rw [e1, d]
        have e : (if kv0.1 = keyP p then (kv0.1, V.ref t) else kv0) = kv := e
        rw [if_pos d2] at e
        subst e
        exact ⟨(x.1, rows), by show some (if x.1 = p then (x.1, rows) else x) = _; rw [if_pos d], e1, t, rfl, l⟩
      · have d2 : ¬ kv0.1 = keyP p := fun z => d (keyP_inj (e1.symm.trans z))
        have e : (if kv0.1 = keyP p then (kv0.1, V.ref t) else kv0) = kv := e
        rw [if_neg d2] at e
        subst e
        exact ⟨x, by show some (if x.1 = p then (x.1, rows) else x) = _; rw [if_neg d], e1, t1, e2, l1⟩
  · rw [putK_new _ (valV_no fun m => c (iff1.mp m))]
    unfold putS
    rw [if_neg c]
    exact h.snoc (x := (p, rows)) l
structure GoodN (n : Nat) (sh : Sheet) : Prop where
  nd : (sh.map fun x => x.1).Nodup
  len : sh.length ≤ n
  pr : ∀ x ∈ sh, Sm x.1.1 ∧ Sm x.1.2
  rows : ∀ x ∈ sh, x.2.length ≤ 4
  row : ∀ x ∈ sh, ∀ r ∈ x.2, (r ≠ [] ∧ r.length ≤ 6) ∧ ∀ n ∈ r, Sm n
theorem GoodN.zero : GoodN 0 [] := ⟨List.nodup_nil, Nat.le_refl _, fun x m => (by cases m), fun x m => (by cases m), fun x m => (by cases m)⟩
theorem Rws.snocU {H : Hp} {us : List V} {rows : List (List Int)} {D q : Addr} {r : List Int} {ys : List V} (h : Rws H us rows) (eD : H D = some (.lst us)) (eq : H q = some (.tup (r.map V.int))) : Rws (L2.upd H D (.lst ys)) (us ++ [.ref q]) (rows ++ [r]) := by
  refine ⟨by rw [List.length_append, List.length_append, h.1]; rfl, fun i v e => ?_⟩
  by_cases c : i < us.length
  · rw [List.getElem?_append_left c] at e
    obtain ⟨x, ex, cx, rfl, hx⟩ := h.2 i v e
    exact ⟨x, by rw [List.getElem?_append_left (by rw [← h.1]; exact c)]; exact ex, cx, rfl, hl_set (fun z => by rw [z, eD] at hx; cases hx) hx⟩
  · rw [List.getElem?_append_right (by omega)] at e
    have e0 : i - us.length = 0 := by
      cases h0 : i - us.length with
      | zero => rfl
      | succ n => rw [h0] at e; simp at e
    rw [e0] at e
    cases e
    exact ⟨r, by rw [List.getElem?_append_right (by rw [← h.1]; omega), ← h.1, e0]; rfl, q, rfl, hl_set (fun z => by rw [z, eD] at eq; cases eq) eq⟩
def sp_law_paper (_ : PySem.W.Frag) : Sp := fun vs H Q _ => ∃ (s c : Addr), vs = [.ref s] ∧ St s c H ∧ ∀ (d : Addr) (sh : Sheet) (H' : Hp), Kp [s, c] H H' → St s c H' → H d = none → ShD H' d sh → GoodS sh → Q (.ref d) H'
theorem GoodN.put {n : Nat} {sh : Sheet} {p : Int × Int} {rows : List (List Int)} (g : GoodN n sh) (hp : Sm p.1 ∧ Sm p.2) (hl : rows.length ≤ 4) (hr : ∀ r ∈ rows, (r ≠ [] ∧ r.length ≤ 6) ∧ ∀ n ∈ r, Sm n) : GoodN (n + 1) (putS sh p rows) := by
  refine ⟨?_, Nat.le_trans (putS_len ..) (Nat.succ_le_succ g.len), fun x m => ?_, fun x m => ?_, fun x m => ?_⟩
  · rw [putS_keys]
    split
    · exact g.nd
    · rename_i h
      exact List.nodup_append.mpr ⟨g.nd, List.pairwise_singleton _ _, fun a ha b hb e => h (by rw [List.mem_singleton.mp hb] at e; exact e ▸ ha)⟩
  · rcases putS_mem m with m | rfl
    · exact g.pr x m
    · exact hp
  · rcases putS_mem m with m | rfl
    · exact g.rows x m
    · exact hl
  · rcases putS_mem m with m | rfl
    · exact g.row x m
    · exact hr
section
variable {P : Program} {w : World} {K : PySem.W.Frag} {mg : Str → Option Value} {base : Heap}
theorem ok_law_paper {c_PaperReader : Addr} (T : Tx K mg c_PaperReader) {f_law_draw : Addr} {fd_law_draw : FuncData} (C_law_draw : Cal P w K mg base "_law_draw" 1 ["state", "many"] (sp_law_draw K) s_law_draw f_law_draw fd_law_draw) {f_law_number : Addr} {fd_law_number : FuncData} (C_law_number : Cal P w K mg base "_law_number" 2 ["state"] (sp_law_number K) s_law_number f_law_number fd_law_number) {f : Addr} {fd : FuncData} (F : Here K mg "_law_paper" s_law_paper ["state"] f fd) : Cal P w K mg base "_law_paper" 3 ["state"] (sp_law_paper K) s_law_paper f fd := by
  refine F.cal sc_law_paper (fun vs H Q E h => ?_) (fun cdv A' outer s H vs Q E hr h => ?_)
  · obtain ⟨s, c, rfl, _⟩ := h
    rfl
  · obtain ⟨s, c, rfl, st, q⟩ := h
    refine ⟨_, (pss_cons (ps_set (i := 1) sc_law_paper.nd rfl (by first | exact .inl rfl | exact .inr rfl) pe_dnewT)
      (pss_cons (ps_for PassesOwn.never rfl (pi_range1 (by rfl) T.m_range (pa_cons (pe_call C_law_draw.ok (hr.mono (by decide)) (by rfl) C_law_draw.at_ C_law_draw.kp C_law_draw.b .nil pass0 (pa_cons (pv 0) (pa_cons pe_int pa_nil))) pa_nil)) (pg_name (i := 2) sc_law_paper.nd rfl (by first | exact .inl rfl | exact .inr rfl)) (pss_cons (ps_set (i := 3) sc_law_paper.nd rfl (by first | exact .inl rfl | exact .inr rfl) (pe_lst pa_nil))
      (pss_cons (ps_for PassesOwn.never rfl (pi_range1 (by rfl) T.m_range (pa_cons (pe_call C_law_draw.ok (hr.mono (by decide)) (by rfl) C_law_draw.at_ C_law_draw.kp C_law_draw.b .nil pass0 (pa_cons (pv 0) (pa_cons pe_int pa_nil))) pa_nil)) (pg_name (i := 4) sc_law_paper.nd rfl (by first | exact .inl rfl | exact .inr rfl)) (pss_one (ps_expr (castBM (K := K) (pe_bm PySem.F.plainAttrs_list PySem.F.slot_list_append PySem.F.type_list_append mt_append (pv 3) (pa_cons (pe_callTy (cr_tupOfK (K := K)) (by rfl) T.m_tuple (by decide +kernel) (pa_cons (pe_lc rfl sc_law_paper.nd (pi_range1 (by rfl) T.m_range (pa_cons (pe_op op_add pe_int (pe_call C_law_draw.ok (hr.mono (by decide)) (by rfl) C_law_draw.at_ C_law_draw.kp C_law_draw.b .nil pass0 (pa_cons (pv 0) (pa_cons pe_int pa_nil)))) pa_nil)) (blkOk_by (own := [("at", 5)]) (N := ["state", "made", "k", "rows", "line", "at"]) (sc := (defScope s_law_paper)) (by decide +kernel)) (fun _ _ _ _ _ => (pg_name (i := 5) sc_law_paper.nd rfl (by first | exact .inl rfl | exact .inr rfl))) (fun _ _ _ _ _ => pts_nil) (fun _ _ _ _ _ => (pe_call C_law_number.ok (hr.mono (by decide)) (by rfl) C_law_number.at_ C_law_number.kp C_law_number.b .nil pass0 (pa_cons (pv 0) pa_nil)))) pa_nil)) pa_nil))))))
      (pss_one (ps_asg (pe_callTy (cr_tupOfK (K := K)) (by rfl) T.m_tuple (by decide +kernel) (pa_cons (pv 3) pa_nil)) (pg_sub (pv 1) (pe_tup (pa_cons (pe_call C_law_number.ok (hr.mono (by decide)) (by rfl) C_law_number.at_ C_law_number.kp C_law_number.b .nil pass0 (pa_cons (pv 0) pa_nil)) (pa_cons (pe_call C_law_number.ok (hr.mono (by decide)) (by rfl) C_law_number.at_ C_law_number.kp C_law_number.b .nil pass0 (pa_cons (pv 0) pa_nil)) pa_nil))) (set_dict (hu_of hr))))))))
      (pss_one (ps_ret (pv 1))))), ?_⟩
    walk_at "st"
    intro d hd
    have st1 := st.new (x := .dT []) hd
    have k1 : Kp [s, c] H (upd H d (.dT [])) := Kp.new hd
    have ed : upd H d (.dT []) d = some (.dT []) := upd_same
    have od := st.out hd
    generalize upd H d (.dT []) = H1 at *
    walk_at "st"
    refine ⟨s, c, 7, rfl, st1, by omega, fun m H2 k2 st2 hm => ?_⟩
    walk_at "st"
    have hmm : m.toNat ≤ 6 := by omega
    refine lp_by (walk_range (lo := 0) (n := m.toNat)) (fun i σ' H' => ∃ x2 x3 x4 x5 kvs sh, σ' = [some (.ref s), some (.ref d), x2, x3, x4, x5] ∧ Kp [s, c] H H' ∧ St s c H' ∧ H' d = some (.dT kvs) ∧ ShV H' kvs sh ∧ GoodN i sh)
      ⟨_, _, _, _, [], [], rfl, k1.trans k2, st2, k2 _ _ ed od, ⟨rfl, fun i kv e => (by simp at e)⟩, .zero⟩ (fun _ _ _ _ _ => trivial) (fun i x σ' HX HX' hi z y => ?_) (fun σ' HX z => ?_)
    · obtain ⟨y2, y3, y4, y5, kvs, sh, rfl, kX, stX, edX, sv, g⟩ := z
      obtain ⟨rfl, rfl⟩ := y
      walk_at "st"
      intro l hl
      have ol := stX.out hl
      have st3 := stX.new (x := .lst []) hl
      have k3 : Kp [s, c] HX' (upd HX' l (.lst [])) := Kp.new hl
      have el : upd HX' l (.lst []) l = some (.lst []) := upd_same
      generalize upd HX' l (.lst []) = H3 at *
      walk_at "st"
      refine ⟨s, c, 5, rfl, st3, by omega, fun m2 H4 k4 st4 hm2 => ?_⟩
      walk_at "st"
      have hm22 : m2.toNat ≤ 4 := by omega
      refine lp_by (walk_range (lo := 0) (n := m2.toNat)) (fun j σ'' H' => ∃ x4 x5 us rows, σ'' = [some (.ref s), some (.ref d), some (.int (0 + (i : Int))), some (.ref l), x4, x5] ∧ Kp [s, c] HX' H' ∧ St s c H' ∧ H' l = some (.lst us) ∧ Rws H' us rows ∧ rows.length ≤ j ∧ ∀ r ∈ rows, (r ≠ [] ∧ r.length ≤ 6) ∧ ∀ n ∈ r, Sm n)
        ⟨_, _, [], [], rfl, k3.trans k4, st4, k4 _ _ el ol, ⟨rfl, fun i v e => by simp at e⟩, Nat.le_refl _, fun r m => by cases m⟩ (fun _ _ _ _ _ => trivial) (fun j x σ'' HY HY' hj z y => ?_) (fun σ'' HY z => ?_)
      · obtain ⟨z4, z5, us, rows, rfl, kY, stY, elY, rw1, lr, gr⟩ := z
        obtain ⟨rfl, rfl⟩ := y
        walk_at "st"
        refine ⟨s, c, 6, rfl, stY, by omega, fun m3 H6 k6 st6 hm3 => ?_⟩
        walk_at "st"
        intro D hD
        refine lc_by (walk_range (lo := 0) (n := (1 + m3).toNat)) (fun q H' => Kp [s, c] H6 H' ∧ St s c H' ∧ ∃ ns : List Int, H' D = some (.lst (ns.map .int)) ∧ ns.length = q ∧ ∀ n ∈ ns, Sm n) ⟨Kp.new hD, st6.new hD, [], upd_same, rfl, fun n m => by cases m⟩ (fun _ _ _ _ => trivial) (fun q x HZ HZ' hq g' y => ?_) (fun HZ g' => ?_)
        · obtain ⟨kZ, stZ, ns, eD, ln, hn⟩ := g'
          obtain ⟨rfl, rfl⟩ := y
          have oD := st6.out hD
          refine ⟨rfl, ?_⟩
          walk_at "st"
          refine ⟨s, c, rfl, stZ, fun n H8 k8 st8 hnn => ?_⟩
          have eD8 := k8 _ _ eD oD
          refine ⟨_, eD8, by rw [List.length_map, ln]; exact Nat.lt_of_lt_of_le hq (Nat.le_trans (show (1 + m3).toNat ≤ 1000 by omega) (by decide)), (kZ.trans k8).own hD, st8.set oD, ns ++ [n], by rw [upd_same, List.map_append]; rfl, by rw [List.length_append, ln]; rfl, fun x m => ?_⟩
          rcases List.mem_append.mp m with m | m
          · exact hn x m
          · rw [List.mem_singleton.mp m]; exact hnn
        · obtain ⟨kZ, stZ, ns, eD, ln, hn⟩ := g'
          have ln2 : ns.length = (1 + m3).toNat := ln
          have k7 := k6.trans kZ
          have elZ := k7 _ _ elY ol
          have rwZ := (rw1.kpSt k6 stY).kpSt kZ st6
          have zs : us.length < sizeLine := by rw [rw1.1]; exact Nat.lt_of_le_of_lt (show rows.length ≤ 10 by omega) (by decide)
          walk_at "st"
          intro t ht
          have stT := stZ.new (x := .tup (ns.map V.int)) ht
          have kT := k7.trans (Kp.new (S := [s, c]) (x := .tup (ns.map V.int)) ht)
          have elT := hl_new (u := .tup (ns.map V.int)) elZ ht
          have rwT := rwZ.same (Same.upd_new (x := .tup (ns.map V.int)) ht)
          have etT : upd HZ t (.tup (ns.map V.int)) t = some (.tup (ns.map V.int)) := upd_same
          generalize upd HZ t (.tup (ns.map V.int)) = HT at *
          walk_at "st"
          refine ⟨_, _, us ++ [.ref t], rows ++ [ns], rfl, (kY.trans kT).own hl, stT.set ol, upd_same, rwT.snocU elT etT, by rw [List.length_append]; exact Nat.succ_le_succ lr, fun r m => ?_⟩
          rcases List.mem_append.mp m with m | m
          · exact gr r m
          · rw [List.mem_singleton.mp m]
            exact ⟨⟨fun z => by rw [z] at ln2; simp at ln2; omega, by omega⟩, hn⟩
      · obtain ⟨z4, z5, us, rows, rfl, kY, stY, elY, rw1, lr, gr⟩ := z
        have lr4 : rows.length ≤ 4 := by omega
        walk_at "st"
        intro tp htp
        have st5 := stY.new (x := .tup us) htp
        have k5 := kY.trans (Kp.new (S := [s, c]) (x := .tup us) htp)
        have etp : upd HY tp (.tup us) tp = some (.tup us) := upd_same
        have rw5 := rw1.same (Same.upd_new (x := .tup us) htp)
        generalize upd HY tp (.tup us) = H5 at *
        walk_at "st"
        refine ⟨s, c, rfl, st5, fun n1 H6 k6 st6 h1 => ?_⟩
        walk_at "st"
        refine ⟨s, c, rfl, st6, fun n2 H7 k7 st7 h2 => ?_⟩
        walk_at "st"
        intro kt hkt
        have st8 := st7.new (x := .tup [.int n1, .int n2]) hkt
        have k57 := k6.trans k7
        have k58 := k57.trans (Kp.new (S := [s, c]) (x := .tup [.int n1, .int n2]) hkt)
        have k8 := k5.trans k58
        have ekt : upd H7 kt (.tup [.int n1, .int n2]) kt = some (.tup ((keyP (n1, n2)).map kV)) := upd_same
        generalize upd H7 kt (.tup [.int n1, .int n2]) = H8 at *
        have etp8 := k58 _ _ etp (st5.tupOut etp)
        have rw8 := rw5.kpSt k58 st5
        have ed8 := k8 _ _ edX od
        have sv8 := sv.to (H' := H8) fun t xs e => k8 _ _ e (stX.tupOut e)
        have lk : kvs.length ≤ 1000 := by rw [sv.1]; have := g.len; have := hi; omega
        have sv9 := sv8.put (p := (n1, n2)) (rows := rows) (t := tp) ⟨us, etp8, rw8⟩
        refine ⟨d, _, rfl, DPut.t (k := keyP (n1, n2)) ed8 ekt (Nat.lt_of_le_of_lt lk (by decide)), ?_⟩
        refine ⟨_, _, _, _, _, putS sh (n1, n2) rows, rfl, (kX.trans k8).own hd, st8.set od, upd_same, sv9.to fun t xs e => hl_set (fun z => by rw [z, ed8] at e; cases e) e, g.put ⟨h1, h2⟩ lr4 gr⟩
    · obtain ⟨y2, y3, y4, y5, kvs, sh, rfl, kX, stX, edX, sv, g⟩ := z
      walk_at "st"
      exact q d sh _ kX stX hd ⟨kvs, edX, sv⟩ ⟨g.nd, Nat.le_trans g.len hmm, g.pr, g.rows, g.row⟩
end
/-! ### sheets as data: compared, shown -/
structure Nic (m W : Nat) (d : PyData) : Prop where
  lay : d.canLay0 = true
  dp : d.depth ≤ m
  wt : d.weight ≤ W
  sh : d.showable = true
  ls : d.leavesShort 13 = true
theorem canLay_all {ds : List PyData} (h : ∀ d ∈ ds, d.canLay0 = true) : PyData.canLayAll0 ds = true := by
  induction ds with
  | nil => rw [PyData.canLayAll0]
  | cons d ds ih => rw [PyData.canLayAll0, h d List.mem_cons_self, ih fun e m => h e (List.mem_cons_of_mem _ m)]; rfl
theorem depth_all {ds : List PyData} {n : Nat} (h : ∀ d ∈ ds, d.depth ≤ n) : PyData.depthAll ds ≤ n := by
  induction ds with
  | nil => rw [PyData.depthAll]; exact Nat.zero_le _
  | cons d ds ih => rw [PyData.depthAll]; exact Nat.max_le.mpr ⟨h d List.mem_cons_self, ih fun e m => h e (List.mem_cons_of_mem _ m)⟩
theorem weight_all {ds : List PyData} {n : Nat} (h : ∀ d ∈ ds, d.weight ≤ n) : PyData.weightAll ds ≤ (n + 1) * ds.length := by
  induction ds with
  | nil => rw [PyData.weightAll]; exact Nat.zero_le _
  | cons d ds ih =>
    rw [PyData.weightAll, List.length_cons, Nat.mul_add]
    have := h d List.mem_cons_self
    have := ih fun e m => h e (List.mem_cons_of_mem _ m)
    omega
theorem show_all {ds : List PyData} (h : ∀ d ∈ ds, d.showable = true) : PyData.showableAll ds = true := by
  induction ds with
  | nil => rw [PyData.showableAll]
  | cons d ds ih => rw [PyData.showableAll, h d List.mem_cons_self, ih fun e m => h e (List.mem_cons_of_mem _ m)]; rfl
theorem short_all {ds : List PyData} (h : ∀ d ∈ ds, d.leavesShort 13 = true) : PyData.leavesShortAll 13 ds = true := by
  induction ds with
  | nil => rw [PyData.leavesShortAll]
  | cons d ds ih => rw [PyData.leavesShortAll, h d List.mem_cons_self, ih fun e m => h e (List.mem_cons_of_mem _ m)]; rfl
theorem Nic.tup {m W n : Nat} {ds : List PyData} (h : ∀ d ∈ ds, Nic m W d) (l : ds.length ≤ n) : Nic (m + 1) ((W + 1) * n) (.tuple ds) := by
  have wa := weight_all fun d k => (h d k).wt
  refine ⟨by rw [PyData.canLay0]; exact canLay_all fun d k => (h d k).lay, by rw [PyData.depth]; exact Nat.succ_le_succ (depth_all fun d k => (h d k).dp), ?_, by rw [PyData.showable]; exact show_all fun d k => (h d k).sh, by rw [PyData.leavesShort]; exact short_all fun d k => (h d k).ls⟩
  rw [PyData.weight]
  exact Nat.le_trans wa (Nat.mul_le_mul (Nat.le_refl _) l)
theorem Nic.lst {m W n : Nat} {ds : List PyData} (h : ∀ d ∈ ds, Nic m W d) (l : ds.length ≤ n) : Nic (m + 1) ((W + 1) * n) (.list ds) := by
  have wa := weight_all fun d k => (h d k).wt
  refine ⟨by rw [PyData.canLay0]; exact canLay_all fun d k => (h d k).lay, by rw [PyData.depth]; exact Nat.succ_le_succ (depth_all fun d k => (h d k).dp), ?_, by rw [PyData.showable]; exact show_all fun d k => (h d k).sh, by rw [PyData.leavesShort]; exact short_all fun d k => (h d k).ls⟩
  rw [PyData.weight]
  exact Nat.le_trans wa (Nat.mul_le_mul (Nat.le_refl _) l)
theorem Nic.int {i : Int} (h : Sm i) : Nic 0 17 (.int i) := by
  have hi : 0 ≤ i ∧ i ≤ 1000000 := ⟨h.1, by have := h.2; omega⟩
  refine ⟨by rw [PyData.canLay0], by rw [PyData.depth]; exact Nat.le_refl _, ?_, by rw [PyData.showable]; exact decide_eq_true (log_small hi.1 hi.2), ?_⟩
  · rw [PyData.weight]
    by_cases c : i = 0
    · subst c; decide
    · have c2 : (i == 0) = false := beq_eq_false_iff_ne.mpr c
      rw [c2]
      show i.natAbs.log2 + 1 ≤ 17
      have : i.natAbs.log2 < 17 := (Nat.log2_lt (by omega)).mpr (by
        have e : (2 : Nat) ^ 17 = 131072 := by decide
        have := h.1; have := h.2
        omega)
      omega
  · rw [PyData.leavesShort]
    refine decide_eq_true ?_
    have e : PyData.shown (.int i) = Sx (numC i) := (show PyData.shown (.int i) = (toString i : Str) from rfl).trans (numC_of h.1)
    rw [e, Sx_len]
    exact Nat.le_trans (numC5 h) (by decide)
theorem Nic.str {a : List Nat} {n : Nat} (h : ∀ c ∈ a, c < 1000) (l : a.length ≤ n) : Nic 0 n (.str (Sx a)) := by
  refine ⟨?_, by rw [PyData.depth]; exact Nat.le_refl _, ?_, by rw [PyData.showable], ?_⟩
  · rw [PyData.canLay0]
    unfold PyData.strOk
    rw [← Array.all_toList]
    exact List.all_eq_true.mpr fun c m => decide_eq_true (Nat.lt_of_lt_of_le (h c m) (by decide))
  · rw [PyData.weight]
    have e : (Sx a).cps.size = a.length := Sx_len a
    rw [e]; exact l
  · rw [PyData.leavesShort]
    exact List.all_eq_true.mpr fun c m => decide_eq_true (Nat.lt_of_lt_of_le (h c m) (by decide))
def rowD (r : List Int) : PyData := .tuple (r.map .int)
def rowsD (rows : List (List Int)) : PyData := .tuple (rows.map rowD)
def pairD (p : Int × Int) : PyData := .tuple [.int p.1, .int p.2]
theorem Nic.rows {rows : List (List Int)} (l : rows.length ≤ 4) (h : ∀ r ∈ rows, (r ≠ [] ∧ r.length ≤ 6) ∧ ∀ n ∈ r, Sm n) : Nic 2 436 (rowsD rows) := by
  refine Nic.tup (m := 1) (W := 108) (n := 4) (fun d m => ?_) (by rw [List.length_map]; exact l)
  obtain ⟨r, hr, rfl⟩ := List.mem_map.mp m
  refine Nic.tup (m := 0) (W := 17) (n := 6) (fun d m => ?_) (by rw [List.length_map]; exact (h r hr).1.2)
  obtain ⟨n, hn, rfl⟩ := List.mem_map.mp m
  exact Nic.int ((h r hr).2 n hn)
theorem Nic.pair {p : Int × Int} (h : Sm p.1 ∧ Sm p.2) : Nic 1 36 (pairD p) := by
  refine Nic.tup (m := 0) (W := 17) (n := 2) (fun d m => ?_) (by simp)
  simp only [List.mem_cons, List.not_mem_nil, or_false] at m
  rcases m with rfl | rfl
  · exact Nic.int h.1
  · exact Nic.int h.2
def shD (sh : Sheet) : PyData := .dict (sh.map fun x => (pairD x.1, rowsD x.2))
theorem shD_kv : ∀ {sh : Sheet}, (∀ x ∈ sh, Sm x.1.1 ∧ Sm x.1.2) → (∀ x ∈ sh, x.2.length ≤ 4) → (∀ x ∈ sh, ∀ r ∈ x.2, (r ≠ [] ∧ r.length ≤ 6) ∧ ∀ n ∈ r, Sm n) →
    PyData.showableKv (sh.map fun x => (pairD x.1, rowsD x.2)) = true ∧ PyData.leavesShortKv 13 (sh.map fun x => (pairD x.1, rowsD x.2)) = true ∧ PyData.weightKv (sh.map fun x => (pairD x.1, rowsD x.2)) ≤ 500 * sh.length ∧ PyData.depthKv (sh.map fun x => (pairD x.1, rowsD x.2)) ≤ 2
  | [], _, _, _ => by
    refine ⟨by rw [List.map_nil, PyData.showableKv], by rw [List.map_nil, PyData.leavesShortKv], by rw [List.map_nil, PyData.weightKv]; exact Nat.zero_le _, by rw [List.map_nil, PyData.depthKv]; exact Nat.zero_le _⟩
  | x :: sh, h1, h2, h3 => by
    obtain ⟨a, b, c, d⟩ := shD_kv (sh := sh) (fun y m => h1 y (List.mem_cons_of_mem _ m)) (fun y m => h2 y (List.mem_cons_of_mem _ m)) fun y m => h3 y (List.mem_cons_of_mem _ m)
    have n1 := Nic.pair (h1 x List.mem_cons_self)
    have n2 := Nic.rows (h2 x List.mem_cons_self) (h3 x List.mem_cons_self)
    refine ⟨by rw [List.map_cons, PyData.showableKv, n1.sh, n2.sh, a]; rfl, by rw [List.map_cons, PyData.leavesShortKv, n1.ls, n2.ls, b]; rfl, ?_, ?_⟩
    · rw [List.map_cons, PyData.weightKv, List.length_cons]
      have := n1.wt
      have := n2.wt
      omega
    · rw [List.map_cons, PyData.depthKv]
      have := n1.dp
      have := n2.dp
      omega
theorem DpAll.rws9 {K : PySem.W.Frag} {H : Hp} : ∀ {us : List V} {rows : List (List Int)}, Rws H us rows → DpAll K H us (rows.map rowD)
  | [], [], _ => .nil
  | [], _ :: _, h => by have := h.1; simp at this
  | _ :: _, [], h => by have := h.1; simp at this
  | u :: us, r :: rows, h => by
    obtain ⟨q, eq, c, rfl, hc⟩ := h.2 0 u rfl
    obtain rfl := Option.some.inj eq
    have intsD : ∀ ns : List Int, DpAll K H (ns.map V.int) (ns.map PyData.int) := fun ns => by
      induction ns with
      | nil => exact .nil
      | cons n ns ih => exact .cons (.int n) ih
    exact .cons (.tup (SqT.of hc) (intsD r)) (DpAll.rws9 ⟨by have := h.1; simpa using this, fun i v e => h.2 (i + 1) v (by simpa using e)⟩)
theorem Dp.lot9 {K : PySem.W.Frag} {H : Hp} {t : Addr} {rows : List (List Int)} (h : Lot H t rows) : Dp K H (.ref t) (rowsD rows) := by
  obtain ⟨us, h1, r⟩ := h
  exact .tup (SqT.of h1) (DpAll.rws9 r)
theorem boxless_ints : ∀ ns : List Int, boxlessAll (ns.map PyData.int) = true
  | [] => by rw [List.map_nil, boxlessAll]
  | n :: ns => by rw [List.map_cons, boxlessAll, boxless_ints ns, boxless]; rfl
theorem boxless_rows : ∀ rows : List (List Int), boxlessAll (rows.map rowD) = true
  | [] => by rw [List.map_nil, boxlessAll]
  | r :: rows => by
    rw [List.map_cons, boxlessAll, boxless_rows rows]
    unfold rowD
    rw [boxless, boxless_ints]; rfl
theorem sh_data {K : PySem.W.Frag} {H : Hp} : ∀ {kvs : List (List Key × V)} {sh : Sheet}, ShV H kvs sh → DpAll K H (kvs.map fun kv => kv.2) (sh.map fun x => rowsD x.2) ∧ dtD kvs (sh.map fun x => rowsD x.2) = shD sh ∧ boxlessAll (sh.map fun x => rowsD x.2) = true
  | [], [], _ => ⟨.nil, rfl, by rw [List.map_nil, boxlessAll]⟩
  | [], _ :: _, h => by have := h.1; simp at this
  | _ :: _, [], h => by have := h.1; simp at this
  | kv :: kvs, x :: sh, h => by
    obtain ⟨y, ey, ek, t, et, l⟩ := h.2 0 kv rfl
    obtain rfl := Option.some.inj ey
    obtain ⟨a, b, c⟩ := sh_data (K := K) (kvs := kvs) (sh := sh) ⟨by have := h.1; simpa using this, fun i v e => h.2 (i + 1) v (by simpa using e)⟩
    refine ⟨.cons (by show Dp K H kv.2 (rowsD x.2); rw [et]; exact Dp.lot9 l) a, ?_, ?_⟩
    · unfold dtD shD at b ⊢
      injection b with b
      rw [List.map_cons, List.zipWith_cons_cons, b, List.map_cons, ek]; rfl
    · rw [List.map_cons, boxlessAll, c]
      unfold rowsD
      rw [boxless, boxless_rows]; rfl
section
variable {K : PySem.W.Frag} {H : Hp} {Q : VK}
theorem r_reprSh {d : Addr} {sh : Sheet} (h : ShD H d sh) (g : GoodS sh) (q : Q (.str (shD sh).shown) H) : rReprDT K [.ref d] H Q := by
  obtain ⟨kvs, hd, sv⟩ := h
  obtain ⟨a, b, c⟩ := sh_data (K := K) sv
  obtain ⟨e1, e2, e3, e4⟩ := shD_kv g.pr g.rows g.row
  refine ⟨d, kvs, _, rfl, .inl hd, a, c, ?_, ?_, ?_, by rw [b]; exact q⟩
  · rw [b]; unfold shD; rw [PyData.showable]; exact e1
  · rw [b]; unfold shD; rw [PyData.depth]; omega
  · rw [b]
    refine PyData.shown_fits (B := 13) (by decide) (by decide) (by unfold shD; rw [PyData.leavesShort]; exact e2) ?_
    unfold shD
    rw [PyData.weight]
    have := g.len
    have e : (2 : Nat) ^ 20 = 1048576 := by decide
    omega
theorem Nic.show9 {m W : Nat} {d : PyData} (n : Nic m W d) (hm : m ≤ 40) (hw : W ≤ 2 ^ 20) : d.showable = true ∧ d.hasDict = false ∧ d.depth ≤ 40 ∧ d.shown.length ≤ sizeLine :=
  ⟨n.sh, PyData.hasDict_of_canLay d n.lay, Nat.le_trans n.dp hm, PyData.shown_fits (B := 13) (by decide) (by decide) n.ls (Nat.le_trans n.wt hw)⟩
theorem r_reprT2 {x : Addr} {a : List Nat} (h : H x = some (.lst [.str (Sx a), .str (Sx a)])) (hc : ∀ c ∈ a, c < 1000) (l : a.length ≤ 2000) (q : Q (.str (PyData.list [.str (Sx a), .str (Sx a)]).shown) H) : rRepr K [.ref x] H Q := by
  have n : Nic 1 4002 (.list [.str (Sx a), .str (Sx a)]) := Nic.lst (m := 0) (W := 2000) (n := 2) (fun d m => by
    simp only [List.mem_cons, List.not_mem_nil, or_false] at m
    rcases m with rfl | rfl <;> exact Nic.str hc l) (by simp)
  have s := n.show9 (by decide) (by decide)
  exact ⟨x, _, rfl, .lst (SqL.of h) (.cons (.str _) (.cons (.str _) .nil)), s.1, s.2.1, s.2.2.1, s.2.2.2, q⟩
def LotsAt (H : Hp) (us : List V) (ls : List (List (List Int))) : Prop := us.length = ls.length ∧ ∀ (i : Nat) (v : V), us[i]? = some v → ∃ rows, ls[i]? = some rows ∧ ∃ t, v = .ref t ∧ Lot H t rows
theorem DpAll.lots9 : ∀ {us : List V} {ls : List (List (List Int))}, LotsAt H us ls → DpAll K H us (ls.map rowsD)
  | [], [], _ => .nil
  | [], _ :: _, h => by have := h.1; simp at this
  | _ :: _, [], h => by have := h.1; simp at this
  | u :: us, r :: ls, h => by
    obtain ⟨q, eq, t, rfl, l⟩ := h.2 0 u rfl
    obtain rfl := Option.some.inj eq
    exact .cons (Dp.lot9 l) (DpAll.lots9 ⟨by have := h.1; simpa using this, fun i v e => h.2 (i + 1) v (by simpa using e)⟩)
theorem r_reprLs {x : Addr} {us : List V} {ls : List (List (List Int))} (h : H x = some (.lst us)) (hl : LotsAt H us ls) (n : ls.length ≤ 6) (g : ∀ rows ∈ ls, rows.length ≤ 4 ∧ ∀ r ∈ rows, (r ≠ [] ∧ r.length ≤ 6) ∧ ∀ n ∈ r, Sm n) (q : Q (.str (PyData.list (ls.map rowsD)).shown) H) : rRepr K [.ref x] H Q := by
  have nn : Nic 3 2622 (.list (ls.map rowsD)) := Nic.lst (m := 2) (W := 436) (n := 6) (fun d m => by
    obtain ⟨rows, hr, rfl⟩ := List.mem_map.mp m
    exact Nic.rows (g rows hr).1 (g rows hr).2) (by rw [List.length_map]; exact n)
  have s := nn.show9 (by decide) (by decide)
  exact ⟨x, _, rfl, .lst (SqL.of h) (DpAll.lots9 hl), s.1, s.2.1, s.2.2.1, s.2.2.2, q⟩
theorem r_neSh {m d : Addr} {shm sh : Sheet} (hm : ShD H m shm) (hd : ShD H d sh) (gm : GoodS shm) (g : GoodS sh) (p : shm.Perm sh) (q : Q (.bl false) H) : rNeDT K (.ref m) (.ref d) H Q := by
  obtain ⟨ka, hA, sa⟩ := hm
  obtain ⟨kb, hB, sb⟩ := hd
  refine ⟨m, d, ka, kb, rfl, rfl, hA, hB, by rw [sa.1, sb.1, p.length_eq], fun kv mk => ?_, q⟩
  obtain ⟨i, e⟩ := List.getElem?_of_mem mk
  obtain ⟨x, ex, e1, t, e2, l⟩ := sa.2 i kv e
  have mx := List.mem_of_getElem? ex
  obtain ⟨t2, ev, l2⟩ := sh_get sb g.nd (p.mem_iff.mp mx)
  have n := Nic.rows (gm.rows x mx) (gm.row x mx)
  exact ⟨.ref t2, rowsD x.2, by rw [e1]; exact ev, by rw [e2]; exact Dp.lot9 l, Dp.lot9 l2, n.lay, Nat.le_trans n.dp (by decide)⟩
end
theorem ord_srt {sh : Sheet} (nd : (sh.map fun x => x.1).Nodup) : ordS (srtS sh) = ordS sh := by
  refine List.Perm.eq_of_pairwise (le := fun p q => leP p q = true) (fun a b _ _ h1 h2 => ?_) (ord_sorted _) (ord_sorted sh) ?_
  · rw [leP_iff] at h1 h2
    exact Prod.ext (by omega) (by omega)
  · exact (ord_perm (srtS sh)).trans (((srt_perm nd).map _).trans (ord_perm sh).symm)
theorem rowsAt_srt {sh : Sheet} (g : GoodS sh) {p : Int × Int} (m : p ∈ ordS sh) : rowsAt (srtS sh) p = rowsAt sh p := by
  have mm : (p, rowsAt sh p) ∈ srtS sh := List.mem_map.mpr ⟨p, m, rfl⟩
  exact rowsAt_mem g.srt.nd mm
theorem srt_lt {sh : Sheet} (nd : (sh.map fun x => x.1).Nodup) : (srtS sh).Pairwise fun x y => ltP2 x.1 y.1 := by
  refine List.Pairwise.imp (fun {x y} h => ?_) (srt_rise nd)
  have h : ¬ leP y.1 x.1 = true := by rw [h]; decide
  rw [leP_iff] at h
  unfold ltP2
  omega
theorem lines_chars {L : List (List Nat)} (h : ∀ p ∈ L, ∀ c ∈ p, c < 1000) : ∀ c ∈ linesC L, c < 1000 := fun c m => by
  obtain ⟨p, hp, m⟩ := List.mem_flatMap.mp m
  rcases List.mem_append.mp m with m | m
  · exact h p hp c m
  · rw [List.mem_singleton.mp m]; decide
theorem num_chars (n : Int) : ∀ c ∈ numC n, c < 1000 := fun c m => by
  have := List.all_eq_true.mp (numC_digits n) c m
  unfold digC at this
  rw [Bool.and_eq_true, decide_eq_true_eq, decide_eq_true_eq] at this
  omega
theorem paper_chars (sh : Sheet) : ∀ c ∈ paperC sh, c < 1000 := lines_chars fun p m c hc => by
  obtain ⟨x, _, m⟩ := List.mem_flatMap.mp m
  rcases List.mem_cons.mp m with e | m
  · rw [e] at hc
    rcases mem_join hc with e | ⟨q, hq, h⟩
    · rw [e]; decide
    · simp only [List.mem_cons, List.not_mem_nil, or_false] at hq
      rcases hq with rfl | rfl | rfl
      · simp at h; omega
      · exact num_chars _ c h
      · exact num_chars _ c h
  · obtain ⟨r, _, rfl⟩ := List.mem_map.mp m
    rcases mem_join hc with e | ⟨q, hq, h⟩
    · rw [e]; decide
    · obtain ⟨n, _, rfl⟩ := List.mem_map.mp hq
      exact num_chars _ c h
theorem paper_len {sh : Sheet} (g : GoodS sh) : (paperC sh).length ≤ 2000 := by
  have gs := g.srt
  have lp : ∀ p ∈ linesS (srtS sh), p.length ≤ 36 := fun p m => by
    obtain ⟨x, hx, m⟩ := List.mem_flatMap.mp m
    rcases List.mem_cons.mp m with e | m
    · rw [e]; exact Nat.le_trans (pair_len (gs.pr x hx)) (by decide)
    · obtain ⟨r, hr, rfl⟩ := List.mem_map.mp m
      have := gs.row x hx r hr
      exact row_len this.1.2 this.2
  refine Nat.le_trans (linesC_len lp) ?_
  have h0 : (linesS (srtS sh)).length ≤ 30 := by
    rw [lines_toks, List.length_map]
    exact Nat.le_trans (toks_len gs.rows) (by have := gs.len; omega)
  have := Nat.mul_le_mul_right 37 h0
  omega
local macro_rules | `(tactic| walk_at "ssz") => `(tactic| first | decide | exact str_small (by assumption) | (have : (1000000 : Nat) ≤ sizeLine := (by decide); omega))
local macro_rules | `(tactic| walk_at "st1") => `(tactic| first
  | with_reducible refine' r_nt ?_ | with_reducible refine' r_nf ?_
  | ((with_reducible refine r_lenS ?e1 ?_); (case e1 => walk_at "ssz"))
  | with_reducible refine r_inS ?_
  | with_reducible refine r_ninS ?_
  | ((with_reducible refine r_addS ?e1 ?_); (case e1 => walk_at "ssz"))
  | ((with_reducible refine' r_ixS ?e1 ?e2 ?_); (case e1 => walk_at "ssz"); (case e2 => first | assumption | rfl))
  | with_reducible refine r_istr ?_
  | with_reducible refine r_is ?_
  | with_reducible refine r_un ?_
  | with_reducible refine r_u ?_)
local macro_rules | `(tactic| walk_at "st1") => `(tactic| first
  | with_reducible refine r_tru ?_
  | ((with_reducible refine' r_truT ?e1 ?_); (case e1 => walk_at "sq"))
  | with_reducible refine r_isN ?_
  | with_reducible refine r_tyS ?_
  | with_reducible refine r_m1 ?_
  | with_reducible refine r_sx ?_
  | ((with_reducible refine r_strC ?e1 ?_); (case e1 => omega)))
local macro_rules | `(tactic| walk_at "st1") => `(tactic| first
  | with_reducible refine r_par ?_
  | with_reducible refine r_parx ?_
  | ((with_reducible refine' r_gtup ?e1 ?e2 ?_); (case e1 => walk_at "sq"); (case e2 => rfl))
  | with_reducible refine r_gcons ?_
  | with_reducible refine r_gnil ?_
  | with_reducible refine r_ient ?_
  | ((with_reducible refine' r_ent ?e1 ?_); (case e1 => walk_at "sq")))
local macro_rules | `(tactic| walk_at "st1") => `(tactic| first
  | with_reducible refine' r_nt ?_
  | with_reducible refine' r_nf ?_
  | with_reducible refine r_un ?_
  | with_reducible refine r_u ?_)
local macro_rules | `(tactic| walk_at "ty") => `(tactic| (refine' TyX.base (.dT ?h1); (case h1 => walk_at "hl")))
def sp_law (K : PySem.W.Frag) : Sp := fun vs H Q _ => ∃ (a : Addr) (ns : List Int), vs = [.ref a] ∧ SqL K H a (ns.map .int) ∧ ns.length ≤ 63 ∧ ∀ H', Q (.bl true) H'
def LRow (sh : Sheet) (i : Nat) (v : V) (H : Hp) : Prop := ∃ p, (ordS sh)[i]? = some p ∧ ∃ t, v = .ref t ∧ Lot H t (rowsAt sh p)
theorem LRow.same {sh : Sheet} {i : Nat} {v : V} {H H' : Hp} (h : LRow sh i v H) (k : Same H H') : LRow sh i v H' := by
  obtain ⟨p, ep, t, rfl, l⟩ := h
  exact ⟨p, ep, t, rfl, l.same k⟩
theorem LRow.upd {sh : Sheet} {i : Nat} {v : V} {H : Hp} {D : Addr} {xs ys : List V} (h : LRow sh i v H) (e : H D = some (.lst xs)) : LRow sh i v (L2.upd H D (.lst ys)) := by
  obtain ⟨p, ep, t, rfl, us, ht, r⟩ := h
  exact ⟨p, ep, t, rfl, us, hl_set (fun z => by rw [z, e] at ht; cases ht) ht, r.upd e⟩
theorem lots_of {sh : Sheet} {H : Hp} {us : List V} (l : us.length = (ordS sh).length) (h : ∀ i y, us[i]? = some y → LRow sh i y H) : LotsAt H us ((ordS sh).map (rowsAt sh)) :=
  ⟨by rw [l, List.length_map], fun i v e => by
    obtain ⟨p, ep, t, et, lt⟩ := h i v e
    exact ⟨rowsAt sh p, by rw [List.getElem?_map, ep]; rfl, t, et, lt⟩⟩
theorem ord_in {sh : Sheet} {i : Nat} {p : Int × Int} (e : (ordS sh)[i]? = some p) : (p, rowsAt sh p) ∈ srtS sh := List.mem_map.mpr ⟨p, List.mem_of_getElem? e, rfl⟩
theorem rows_good {sh : Sheet} (g : GoodS sh) : ∀ rows ∈ (ordS sh).map (rowsAt sh), rows.length ≤ 4 ∧ ∀ r ∈ rows, (r ≠ [] ∧ r.length ≤ 6) ∧ ∀ n ∈ r, Sm n := fun rows m => by
  obtain ⟨p, hp, rfl⟩ := List.mem_map.mp m
  have mm : (p, rowsAt sh p) ∈ srtS sh := List.mem_map.mpr ⟨p, hp, rfl⟩
  exact ⟨g.srt.rows _ mm, g.srt.row _ mm⟩
theorem St.dictOut {s c a : Addr} {H : Hp} {kvs : List (List Key × V)} (h : St s c H) (e : H a = some (.dT kvs)) : a ∉ [s, c] := by
  obtain ⟨_, cs, j, r, h⟩ := h
  intro z
  rcases List.mem_cons.mp z with e1 | z
  · rw [e1, h.hs] at e; cases e
  · rw [List.mem_singleton.mp z, h.hc] at e; cases e
theorem ShD.updD {H : Hp} {d m : Addr} {sh : Sheet} {kvs kws : List (List Key × V)} (h : ShD H d sh) (e : H m = some (.dT kvs)) (n : m ≠ d) : ShD (L2.upd H m (.dT kws)) d sh := by
  obtain ⟨kd, hd, sv⟩ := h
  exact ⟨kd, hl_set n.symm hd, sv.to fun t xs et => hl_set (fun z => by rw [z, e] at et; cases et) et⟩
section
variable {P : Program} {w : World} {K : PySem.W.Frag} {mg : Str → Option Value} {base : Heap}
set_option maxHeartbeats 0 in
theorem ok_law {c_PaperReader : Addr} (T : Tx K mg c_PaperReader) {f_law_state : Addr} {fd_law_state : FuncData} (C_law_state : Cal P w K mg base "_law_state" 1 ["script"] (sp_law_state K) s_law_state f_law_state fd_law_state) {f_law_paper : Addr} {fd_law_paper : FuncData} (C_law_paper : Cal P w K mg base "_law_paper" 3 ["state"] (sp_law_paper K) s_law_paper f_law_paper fd_law_paper) {f_law_written_out : Addr} {fd_law_written_out : FuncData} (C_law_written_out : Cal P w K mg base "_law_written_out" 1 ["sheet"] (sp_law_written_out K) s_law_written_out f_law_written_out fd_law_written_out) {f_read_paper : Addr} {fd_read_paper : FuncData} (C_read_paper : Cal P w K mg base "read_paper" 5 ["text"] (sp_read_paper K) s_read_paper f_read_paper fd_read_paper) {f_paper_text : Addr} {fd_paper_text : FuncData} (C_paper_text : Cal P w K mg base "paper_text" 1 ["paper"] (sp_paper_text K) s_paper_text f_paper_text fd_paper_text) {f : Addr} {fd : FuncData} (F : Here K mg "law" s_law ["script"] f fd) : FnG P w K mg base 6 f fd ["script"] (sp_law K) := by
  refine fnG_of F.fn sc_law (fun vs H Q E h => ?_) (fun cdv A outer s H vs Q E hga hr h => ?_)
  · obtain ⟨a, ns, rfl, _⟩ := h
    rfl
  · obtain ⟨a, ns, rfl, hS, hlen, q⟩ := h
    refine ⟨_, (pss_cons (ps_set (i := 1) sc_law.nd rfl (by first | exact .inl rfl | exact .inr rfl) (pe_call C_law_state.ok (hr.mono (by decide)) (by rfl) C_law_state.at_ C_law_state.kp C_law_state.b .nil pass0 (pa_cons (pv 0) pa_nil)))
      (pss_cons (ps_for PassesOwn.never rfl (pi_range1 (by rfl) T.m_range (pa_cons pe_int pa_nil)) (pg_name (i := 2) sc_law.nd rfl (by first | exact .inl rfl | exact .inr rfl)) (pss_cons (ps_set (i := 3) sc_law.nd rfl (by first | exact .inl rfl | exact .inr rfl) (pe_call C_law_paper.ok (hr.mono (by decide)) (by rfl) C_law_paper.at_ C_law_paper.kp C_law_paper.b .nil pass0 (pa_cons (pv 1) pa_nil)))
      (pss_cons (ps_par (i := 4) (j := 5) rfl sc_law.nd rfl rfl (by decide) rfl rfl (pa_cons (pe_callB (cr_reprDTK (K := K) hga (hu_of64 hr)) (by rfl) T.m_repr (by decide +kernel) (pa_cons (pv 3) pa_nil)) (pa_cons (pe_call C_law_written_out.ok (hr.mono (by decide)) (by rfl) C_law_written_out.at_ C_law_written_out.kp C_law_written_out.b .nil pass0 (pa_cons (pv 3) pa_nil)) pa_nil)) (by rfl))
      (pss_cons (ps_if (PW.pt (pw_or (pt_cmpR op_ne (pe_callB (cr_reprK (K := K) hga (hu_of64 hr)) (by rfl) T.m_repr (by decide +kernel) (pa_cons (pe_lst (pa_cons (pe_call C_paper_text.ok (hr.mono (by decide)) (by rfl) C_paper_text.at_ C_paper_text.kp C_paper_text.b .nil pass0 (pa_cons (pv 3) pa_nil)) (pa_cons (pe_callK0 C_paper_text.ok (hr.mono (by decide)) (by rfl) C_paper_text.at_ C_paper_text.kp (kb_perm (us0 := 0) (ws0 := 1) (is := [0]) (by simp) (fun us ws h1 h2 => kb_paper_text_0 C_paper_text.fn us ws h1 h2)) pass0 (pk_cons (pv 3) pk_nil)) pa_nil))) pa_nil)) (pe_callB (cr_reprK (K := K) hga (hu_of64 hr)) (by rfl) T.m_repr (by decide +kernel) (pa_cons (pe_lst (pa_cons (pv 5) (pa_cons (pv 5) pa_nil))) pa_nil)) (nomark _)) (pw_or1 (pt_cmpR op_ne (pe_callB (cr_reprDTK (K := K) hga (hu_of64 hr)) (by rfl) T.m_repr (by decide +kernel) (pa_cons (pv 3) pa_nil)) (pv 4) (nomark _))))) (pss_one (ps_ret pe_bl)) pss_nil)
      (pss_one (ps_for PassesOwn.never rfl (pi_range1 (by rfl) T.m_range (pa_cons pe_int pa_nil)) (pg_name (i := 6) sc_law.nd rfl (by first | exact .inl rfl | exact .inr rfl)) (pss_one (ps_for PassesOwn.never rfl (pi_listK (K := K) (pe_lst (pa_cons (pe_call C_read_paper.ok (hr.mono (by decide)) (by rfl) C_read_paper.at_ C_read_paper.kp C_read_paper.b .nil pass0 (pa_cons (pv 5) pa_nil)) (pa_cons (pe_callK0 C_read_paper.ok (hr.mono (by decide)) (by rfl) C_read_paper.at_ C_read_paper.kp (kb_perm (us0 := 0) (ws0 := 1) (is := [0]) (by simp) (fun us ws h1 h2 => kb_read_paper_0 C_read_paper.fn us ws h1 h2)) pass0 (pk_cons (pv 5) pk_nil)) pa_nil)))) (pg_name (i := 7) sc_law.nd rfl (by first | exact .inl rfl | exact .inr rfl)) (pss_cons (ps_if (PW.pt (pw_or (pt_not (pt_val (pe_callB (cr_isiK (K := K)) (by rfl) T.m_isinstance (by decide +kernel) (pa_cons (pv 7) (pa_cons (pe_bltn (v := .ty "dict") (by rfl) T.m_dict (by decide +kernel) rfl) pa_nil))))) (pw_or1 (pt_cmpR (op_neDTK (K := K) (hu_of64 hr)) (pv 7) (pv 3) (nomark _))))) (pss_one (ps_ret pe_bl)) pss_nil)
      (pss_cons (ps_if (pt_cmpR op_ne (pe_callB (cr_reprK (K := K) hga (hu_of64 hr)) (by rfl) T.m_repr (by decide +kernel) (pa_cons (pe_lc rfl sc_law.nd (pi_listK (K := K) (pe_callB (cr_sortDT rfl) (by rfl) T.m_sorted (by decide +kernel) (pa_cons (pv 7) pa_nil))) (blkOk_by (own := [("pair", 8)]) (N := ["script", "state", "turn", "sheet", "kept", "wanted", "time", "made", "pair"]) (sc := (defScope s_law)) (by decide +kernel)) (fun _ _ _ _ _ => (pg_name (i := 8) sc_law.nd rfl (by first | exact .inl rfl | exact .inr rfl))) (fun _ _ _ _ _ => pts_nil) (fun _ _ _ _ _ => (pe_dget (hu_of hr) (pv 7) (pv 8) (fun _ _ => rfl)))) pa_nil)) (pe_callB (cr_reprK (K := K) hga (hu_of64 hr)) (by rfl) T.m_repr (by decide +kernel) (pa_cons (pe_lc rfl sc_law.nd (pi_listK (K := K) (pe_callB (cr_sortDT rfl) (by rfl) T.m_sorted (by decide +kernel) (pa_cons (pv 3) pa_nil))) (blkOk_by (own := [("pair", 8)]) (N := ["script", "state", "turn", "sheet", "kept", "wanted", "time", "made", "pair"]) (sc := (defScope s_law)) (by decide +kernel)) (fun _ _ _ _ _ => (pg_name (i := 8) sc_law.nd rfl (by first | exact .inl rfl | exact .inr rfl))) (fun _ _ _ _ _ => pts_nil) (fun _ _ _ _ _ => (pe_dget (hu_of hr) (pv 3) (pv 8) (fun _ _ => rfl)))) pa_nil)) (nomark _)) (pss_one (ps_ret pe_bl)) pss_nil)
      (pss_cons (ps_asg pe_non (pg_sub (pv 7) (pe_tup (pa_cons pe_int (pa_cons pe_int pa_nil))) (set_dict (hu_of hr))))
      (pss_one (ps_expr (castBM0 (K := K) (pe_bm0 PySem.F.plainAttrs_dict PySem.F.slot_dict_clear PySem.F.type_dict_clear mtd_clearT (pv 7))))))))))))))))
      (pss_one (ps_ret pe_bl)))), ?_⟩
    walk_at "st"
    refine ⟨a, ns, rfl, hS, hlen, fun s c H1 s1 st1 => ?_⟩
    walk_at "st"
    refine lp_by (walk_range (lo := 0) (n := Int.toNat 4)) (fun i σ' H' => ∃ x2 x3 x4 x5 x6 x7 x8, σ' = [some (.ref a), some (.ref s), x2, x3, x4, x5, x6, x7, x8] ∧ St s c H') ⟨_, _, _, _, _, _, _, rfl, st1⟩ (fun _ _ _ _ _ => trivial) (fun i x σ' H2 H2' hi p y => ?_) (fun σ' H2 p => ?_)
    · obtain ⟨x2, x3, x4, x5, x6, x7, x8, rfl, st2⟩ := p
      obtain ⟨rfl, rfl⟩ := y
      walk_at "st"
      refine ⟨s, c, rfl, st2, fun d sh H3 k3 st3 nd3 hd g => ?_⟩
      clear k3 st2 nd3
      have pc := paper_chars sh
      have pl := paper_len g
      walk_at "st"
      refine r_reprSh hd g ?_
      walk_at "st"
      refine ⟨d, sh, rfl, hd, g, fun H4 s4 => ?_⟩
      walk_at "st"
      walk_at "if"
      refine ⟨d, sh, rfl, hd.same s4, g, fun H5 s5 => ?_⟩
      walk_at "st"
      refine ⟨d, sh, rfl, (hd.same s4).same s5, g, fun H6 s6 => ?_⟩
      have S6 := (s4.trans s5).trans s6
      walk_at "st"
      intro l1 hl1
      have S7 := S6.trans (Same.upd_new (x := .lst [.str (Sx (paperC sh)), .str (Sx (paperC sh))]) hl1)
      have e1 : upd H6 l1 (.lst [.str (Sx (paperC sh)), .str (Sx (paperC sh))]) l1 = some (.lst [.str (Sx (paperC sh)), .str (Sx (paperC sh))]) := upd_same
      generalize upd H6 l1 (.lst [.str (Sx (paperC sh)), .str (Sx (paperC sh))]) = H7 at *
      walk_at "st"
      refine r_reprT2 e1 pc pl ?_
      walk_at "st"
      intro l2 hl2
      have S8 := S7.trans (Same.upd_new (x := .lst [.str (Sx (paperC sh)), .str (Sx (paperC sh))]) hl2)
      have e2 : upd H7 l2 (.lst [.str (Sx (paperC sh)), .str (Sx (paperC sh))]) l2 = some (.lst [.str (Sx (paperC sh)), .str (Sx (paperC sh))]) := upd_same
      generalize upd H7 l2 (.lst [.str (Sx (paperC sh)), .str (Sx (paperC sh))]) = H8 at *
      walk_at "st"
      refine r_reprT2 e2 pc pl ?_
      walk_at "st"
      rw [if_neg (by simp)]
      walk_at "st"
      have hd8 := hd.same S8
      have st8 := st3.same S8
      clear S6 S7 s4 s5 s6 e1 e2 hd st3
      refine r_reprSh hd8 g ?_
      walk_at "st"
      rw [if_neg (by simp)]
      walk_at "st"
      refine lp_by (walk_range (lo := 0) (n := Int.toNat 2)) (fun j σ' H' => ∃ x6 x7 x8, σ' = [some (.ref a), some (.ref s), some (.int (0 + (i : Int))), some (.ref d), some (.str (shD sh).shown), some (.str (Sx (paperC sh))), x6, x7, x8] ∧ St s c H' ∧ ShD H' d sh)
        ⟨_, _, _, rfl, st8, hd8⟩ (fun _ _ _ _ _ => trivial) (fun j x σ' HX HX' hj z y => ?_) (fun σ' HX z => ?_)
      · obtain ⟨y6, y7, y8, rfl, stX, hdX⟩ := z
        obtain ⟨rfl, rfl⟩ := y
        have gs := g.srt
        have rise := srt_lt g.nd
        walk_at "st"
        refine ⟨srtS sh, rfl, gs, rise, fun d1 HA sA nd1 hd1 => ?_⟩
        walk_at "st"
        refine ⟨srtS sh, rfl, gs, rise, fun d2 HB sB nd2 hd2 => ?_⟩
        have SB := sA.trans sB
        walk_at "st"
        intro l3 hl3
        have el3 : upd HB l3 (.lst [.ref d1, .ref d2]) l3 = some (.lst [.ref d1, .ref d2]) := upd_same
        have s3 : Same HB (upd HB l3 (.lst [.ref d1, .ref d2])) := Same.upd_new hl3
        generalize upd HB l3 (.lst [.ref d1, .ref d2]) = HC at *
        have SC := SB.trans s3
        have hdC := hdX.same SC
        have stC := stX.same SC
        have h1C := (hd1.same sB).same s3
        have h2C := hd2.same s3
        have n1d : d1 ≠ d := fun e => by obtain ⟨k, z, _⟩ := hdX; rw [e, z] at nd1; cases nd1
        have n2d : d2 ≠ d := fun e => by obtain ⟨k, z, _⟩ := hdX.same sA; rw [e, z] at nd2; cases nd2
        have n21 : d2 ≠ d1 := fun e => by obtain ⟨k, z, _⟩ := hd1; rw [e, z] at nd2; cases nd2
        have n31 : l3 ≠ d1 := fun e => by obtain ⟨k, z, _⟩ := hd1.same sB; rw [e, z] at hl3; cases hl3
        have n32 : l3 ≠ d2 := fun e => by obtain ⟨k, z, _⟩ := hd2; rw [e, z] at hl3; cases hl3
        clear hd1 hd2 nd1 nd2 hl3 s3 sA sB SB SC hdX stX
        walk_at "st"
        refine lp_by (walk_list (a := l3) (xs := [.ref d1, .ref d2])) (fun q σ' H' => ∃ x7 x8, σ' = [some (.ref a), some (.ref s), some (.int (0 + (i : Int))), some (.ref d), some (.str (shD sh).shown), some (.str (Sx (paperC sh))), some (.int (0 + (j : Int))), x7, x8] ∧ St s c H' ∧ ShD H' d sh ∧ H' l3 = some (.lst [.ref d1, .ref d2]) ∧ (q = 0 → ShD H' d1 (srtS sh)) ∧ (q ≤ 1 → ShD H' d2 (srtS sh)))
          ⟨_, _, rfl, stC, hdC, el3, fun _ => h1C, fun _ => h2C⟩ (fun _ _ _ _ z => by obtain ⟨_, _, _, _, _, z1, _⟩ := z; exact SqL.of z1) (fun q9 x σ' HD HD' hq z y => ?_) (fun σ' HD z => ?_)
        · obtain ⟨z7, z8, rfl, stD, hdD, elD, w1, w2⟩ := z
          obtain ⟨rfl, ex⟩ := y
          obtain ⟨m, rfl, hm, nmd, nml, keep⟩ : ∃ m, x = .ref m ∧ ShD HD' m (srtS sh) ∧ m ≠ d ∧ l3 ≠ m ∧ (q9 + 1 ≤ 1 → ShD HD' d2 (srtS sh) ∧ m ≠ d2) := by
            match q9, hq, ex, w1, w2 with
            | 0, _, ex, w1, w2 => exact ⟨d1, (Option.some.inj ex).symm, w1 rfl, n1d, n31, fun _ => ⟨w2 (by omega), n21.symm⟩⟩
            | 1, _, ex, w1, w2 => exact ⟨d2, (Option.some.inj ex).symm, w2 (by omega), n2d, n32, fun k => by omega⟩
            | n + 2, hq, _, _, _ => exact absurd hq (by simp)
          have gs' := gs
          obtain ⟨km, hkm, svm⟩ := id hm
          obtain ⟨kd, hkd, svd⟩ := id hdD
          have lkm : km.length ≤ 6 := by rw [svm.1]; exact gs.len
          walk_at "st"
          walk_at "if"
          refine r_neSh hm hdD gs g (srt_perm g.nd) ⟨false, rfl, ?_⟩
          rw [if_neg (by decide)]
          walk_at "st"
          walk_at "if"
          refine r_sortSh hm fun ys p py hp => ?_
          have sE : Same HD' (upd HD' p (.lst ys)) := Same.upd_new hp
          have ep : upd HD' p (.lst ys) p = some (.lst ys) := upd_same
          replace py := py.same fun t xs e => sE _ _ e
          generalize upd HD' p (.lst ys) = HE at *
          have ly : ys.length ≤ 6 := by
            rw [py.1, ← srt_keys, List.length_map]
            exact gs.srt.len
          walk_at "st"
          intro D hD
          refine lc_map (walk_list (a := p) (xs := ys)) (by omega) hD (LRow (srtS sh)) (fun _ _ _ _ h k => h.same k) (fun _ _ _ _ _ h e => h.upd e) (fun H' k => SqL.of (k _ _ ep)) (fun i H1 x H2 y => by rw [y.1]; exact Same.refl _)
            (fun q x HF HF' Y No hq s4 y hY => ?_) (fun us HF el s4 eD hus => ?_)
          · obtain ⟨rfl, ex⟩ := y
            obtain ⟨pr, epr, tp, rfl, htp⟩ := py.2 q x ex
            obtain ⟨tr, ev, lt⟩ := sh_get svm gs.nd ((srt_perm gs.nd).mem_iff.mp (ord_in epr))
            refine ⟨rfl, ?_⟩
            walk_at "st"
            refine ⟨.ref m, rfl, .ref tp, rfl, m, .ref tr, rfl, by rw [← ev]; exact DGet.t (k := keyP pr) (s4 _ _ (sE _ _ hkm)) (s4 _ _ htp), ?_⟩
            exact hY _ _ (Same.refl _) ⟨pr, epr, tr, rfl, lt.same (sE.trans s4)⟩
          have s5 := sE.trans s4
          have lots1 := lots_of (sh := srtS sh) (by rw [el]; exact py.1) hus
          walk_at "st"
          refine r_reprLs eD lots1 ?_ ?_ ?_
          · rw [List.length_map, ← srt_keys, List.length_map]
            exact gs.srt.len
          · exact rows_good gs
          rw [ord_srt g.nd, List.map_congr_left fun p mp => rowsAt_srt g mp]
          walk_at "st"
          refine r_sortSh (hdD.same s5) fun ys' p' py' hp' => ?_
          have sG : Same HF (upd HF p' (.lst ys')) := Same.upd_new hp'
          have ep' : upd HF p' (.lst ys') p' = some (.lst ys') := upd_same
          replace py' := py'.same fun t xs e => sG _ _ e
          generalize upd HF p' (.lst ys') = HG at *
          have ly' : ys'.length ≤ 6 := by
            rw [py'.1, ← srt_keys, List.length_map]
            exact gs.len
          walk_at "st"
          intro D' hD'
          refine lc_map (walk_list (a := p') (xs := ys')) (by omega) hD' (LRow sh) (fun _ _ _ _ h k => h.same k) (fun _ _ _ _ _ h e => h.upd e) (fun H' k => SqL.of (k _ _ ep')) (fun i H1 x H2 y => by rw [y.1]; exact Same.refl _)
            (fun q x HI HI' Y No hq s6 y hY => ?_) (fun us' HI el' s6 eD' hus' => ?_)
          · obtain ⟨rfl, ex⟩ := y
            obtain ⟨pr, epr, tp, rfl, htp⟩ := py'.2 q x ex
            obtain ⟨tr, ev, lt⟩ := sh_get svd g.nd ((srt_perm g.nd).mem_iff.mp (ord_in epr))
            refine ⟨rfl, ?_⟩
            walk_at "st"
            refine ⟨.ref d, rfl, .ref tp, rfl, d, .ref tr, rfl, by rw [← ev]; exact DGet.t (k := keyP pr) (s6 _ _ (sG _ _ (s5 _ _ hkd))) (s6 _ _ htp), ?_⟩
            exact hY _ _ (Same.refl _) ⟨pr, epr, tr, rfl, lt.same ((s5.trans sG).trans s6)⟩
          have s7 := (s5.trans sG).trans s6
          have lots2 := lots_of (sh := sh) (by rw [el']; exact py'.1) hus'
          walk_at "st"
          refine r_reprLs eD' lots2 ?_ ?_ ?_
          · rw [List.length_map, ← srt_keys, List.length_map]
            exact gs.len
          · exact rows_good g
          walk_at "st"
          rw [if_neg (by simp)]
          have hkmI := s7 _ _ hkm
          have hkdI := s7 _ _ hkd
          have stI := stD.same s7
          have elI := s7 _ _ elD
          have hdI := hdD.same s7
          have kpI : q9 + 1 ≤ 1 → ShD HI d2 (srtS sh) ∧ m ≠ d2 := fun k => ⟨(keep k).1.same s7, (keep k).2⟩
          clear lots1 lots2 hus hus' eD eD' el el' py py' s4 s5 s6 sE sG svm svd hm hdD hkm hkd elD stD keep ep ep'
          walk_at "st"
          intro kt hkt
          have s8 : Same HI (upd HI kt (.tup [.int 1, .int 1])) := Same.upd_new hkt
          have ekt : upd HI kt (.tup [.int 1, .int 1]) kt = some (.tup ((keyP (1, 1)).map kV)) := upd_same
          generalize upd HI kt (.tup [.int 1, .int 1]) = HJ at *
          have hkmJ := s8 _ _ hkmI
          have om := (stI.same s8).dictOut hkmJ
          refine ⟨m, _, rfl, DPut.t (k := keyP (1, 1)) hkmJ ekt (Nat.lt_of_le_of_lt lkm (by decide)), ?_⟩
          walk_at "st"
          have ek2 : upd HJ m (.dT (putK km (keyP (1, 1)) .non)) m = some (.dT (putK km (keyP (1, 1)) .non)) := upd_same
          have stK := (stI.same s8).set (x := .dT (putK km (keyP (1, 1)) .non)) om
          have elK : upd HJ m (.dT (putK km (keyP (1, 1)) .non)) l3 = some (.lst [.ref d1, .ref d2]) := hl_set nml (s8 _ _ elI)
          have hdK := (hdI.same s8).updD (kws := putK km (keyP (1, 1)) .non) hkmJ nmd
          have kpK : q9 + 1 ≤ 1 → ShD (upd HJ m (.dT (putK km (keyP (1, 1)) .non))) d2 (srtS sh) ∧ m ≠ d2 := fun k => ⟨((kpI k).1.same s8).updD hkmJ (kpI k).2, (kpI k).2⟩
          generalize upd HJ m (.dT (putK km (keyP (1, 1)) .non)) = HL at *
          refine ⟨.ref m, rfl, .inr (.inr (.inl ⟨rfl, .inr ⟨_, ek2⟩⟩)), m, _, rfl, rfl, ek2, ?_⟩
          exact ⟨_, _, rfl, stK.set om, hdK.updD ek2 nmd, hl_set nml elK, fun k => by omega, fun k => (kpK k).1.updD ek2 (kpK k).2⟩
        · obtain ⟨z7, z8, rfl, stD, hdD, elD, w1, w2⟩ := z
          walk_at "st"
          exact ⟨_, _, _, rfl, stD, hdD⟩
      · obtain ⟨y6, y7, y8, rfl, stX, hdX⟩ := z
        walk_at "st"
        exact ⟨_, _, _, _, _, _, _, rfl, stX⟩
    · obtain ⟨x2, x3, x4, x5, x6, x7, x8, rfl, st2⟩ := p
      walk_at "st"
      exact q _
end
/-! ### what the top has written; the law -/
theorem all_mk {l : PySem.W.OpenLaw} {w : World} {K : PySem.W.Frag} {h : Heap} {mg : Str → Option Value} {fa : Addr} (X : K.In h) (G : h.Ns mainGlobals mg) (hfa : mg "law" = some (.ref fa))
    {c_PaperReader : Addr}
    {od1 an1 : Option Addr} {sl1 : Array (Option Value)} {oc1 kV1 dc1 pm1 cd1 ct1 : Value} {f1 : Addr}
    {od2 an2 : Option Addr} {sl2 : Array (Option Value)} {oc2 kV2 dc2 pm2 cd2 ct2 : Value} {f2 : Addr}
    {od3 an3 : Option Addr} {sl3 : Array (Option Value)} {oc3 kV3 dc3 pm3 cd3 ct3 : Value} {f3 : Addr}
    {od4 an4 : Option Addr} {sl4 : Array (Option Value)} {oc4 kV4 dc4 pm4 cd4 ct4 : Value} {f4 : Addr}
    {od5 an5 : Option Addr} {sl5 : Array (Option Value)} {oc5 kV5 dc5 pm5 cd5 ct5 : Value} {f5 : Addr}
    {od6 an6 : Option Addr} {sl6 : Array (Option Value)} {oc6 kV6 dc6 pm6 cd6 ct6 : Value} {f6 : Addr}
    {od7 an7 : Option Addr} {sl7 : Array (Option Value)} {oc7 kV7 dc7 pm7 cd7 ct7 : Value} {f7 : Addr}
    {od8 an8 : Option Addr} {sl8 : Array (Option Value)} {oc8 kV8 dc8 pm8 cd8 ct8 : Value} {f8 : Addr}
    {od9 an9 : Option Addr} {sl9 : Array (Option Value)} {oc9 kV9 dc9 pm9 cd9 ct9 : Value} {f9 : Addr}
    {od10 an10 : Option Addr} {sl10 : Array (Option Value)} {oc10 kV10 dc10 pm10 cd10 ct10 : Value} {f10 : Addr}
    {od11 an11 : Option Addr} {sl11 : Array (Option Value)} {oc11 kV11 dc11 pm11 cd11 ct11 : Value} {f11 : Addr}
    {od12 an12 : Option Addr} {sl12 : Array (Option Value)} {oc12 kV12 dc12 pm12 cd12 ct12 : Value} {f12 : Addr}
    {od13 an13 : Option Addr} {sl13 : Array (Option Value)} {oc13 kV13 dc13 pm13 cd13 ct13 : Value} {f13 : Addr}
    {od14 an14 : Option Addr} {sl14 : Array (Option Value)} {oc14 kV14 dc14 pm14 cd14 ct14 : Value} {f14 : Addr}
    {od15 an15 : Option Addr} {sl15 : Array (Option Value)} {oc15 kV15 dc15 pm15 cd15 ct15 : Value} {f15 : Addr}
    (a1 : PySem.W.nsIn K mainGlobals "has_only" = some (some (.ref f1))) (l1 : K.lookup f1 = some ⟨oc1, od1, .func (PySem.W.fnOf "has_only" "has_only" (defArgs s_has_only) (defBody s_has_only) (defScope s_has_only) .none kV1 dc1 pm1 an1 cd1 ct1), sl1⟩) (c1 : PySem.W.codeIn K cd1 "has_only" = true) (k1 : PySem.W.keepIn K (.ref f1) = true)
    (a2 : PySem.W.nsIn K mainGlobals "read_figures" = some (some (.ref f2))) (l2 : K.lookup f2 = some ⟨oc2, od2, .func (PySem.W.fnOf "read_figures" "read_figures" (defArgs s_read_figures) (defBody s_read_figures) (defScope s_read_figures) .none kV2 dc2 pm2 an2 cd2 ct2), sl2⟩) (c2 : PySem.W.codeIn K cd2 "read_figures" = true) (k2 : PySem.W.keepIn K (.ref f2) = true)
    (a3 : PySem.W.nsIn K mainGlobals "text_rows" = some (some (.ref f3))) (l3 : K.lookup f3 = some ⟨oc3, od3, .func (PySem.W.fnOf "text_rows" "text_rows" (defArgs s_text_rows) (defBody s_text_rows) (defScope s_text_rows) .none kV3 dc3 pm3 an3 cd3 ct3), sl3⟩) (c3 : PySem.W.codeIn K cd3 "text_rows" = true) (k3 : PySem.W.keepIn K (.ref f3) = true)
    (a4 : PySem.W.nsIn K mainGlobals "paper_text" = some (some (.ref f4))) (l4 : K.lookup f4 = some ⟨oc4, od4, .func (PySem.W.fnOf "paper_text" "paper_text" (defArgs s_paper_text) (defBody s_paper_text) (defScope s_paper_text) .none kV4 dc4 pm4 an4 cd4 ct4), sl4⟩) (c4 : PySem.W.codeIn K cd4 "paper_text" = true) (k4 : PySem.W.keepIn K (.ref f4) = true)
    (a5 : PySem.W.nsIn K mainGlobals "numbers_told" = some (some (.ref f5))) (l5 : K.lookup f5 = some ⟨oc5, od5, .func (PySem.W.fnOf "numbers_told" "numbers_told" (defArgs s_numbers_told) (defBody s_numbers_told) (defScope s_numbers_told) .none kV5 dc5 pm5 an5 cd5 ct5), sl5⟩) (c5 : PySem.W.codeIn K cd5 "numbers_told" = true) (k5 : PySem.W.keepIn K (.ref f5) = true)
    (a6 : PySem.W.findIn K (.ref c_PaperReader) "__init__" = some (some (.ref f6))) (i6 : PySem.W.isFn K (.ref f6) = true) (l6 : K.lookup f6 = some ⟨oc6, od6, .func (PySem.W.fnOf "__init__" "PaperReader.__init__" (defArgs s_PaperReader___init__) (defBody s_PaperReader___init__) (defScope s_PaperReader___init__) .none kV6 dc6 pm6 an6 cd6 ct6), sl6⟩) (c6 : PySem.W.codeIn K cd6 "PaperReader.__init__" = true) (k6 : PySem.W.keepIn K (.ref f6) = true)
    (a7 : PySem.W.findIn K (.ref c_PaperReader) "reads" = some (some (.ref f7))) (i7 : PySem.W.isFn K (.ref f7) = true) (l7 : K.lookup f7 = some ⟨oc7, od7, .func (PySem.W.fnOf "reads" "PaperReader.reads" (defArgs s_PaperReader_reads) (defBody s_PaperReader_reads) (defScope s_PaperReader_reads) .none kV7 dc7 pm7 an7 cd7 ct7), sl7⟩) (c7 : PySem.W.codeIn K cd7 "PaperReader.reads" = true) (k7 : PySem.W.keepIn K (.ref f7) = true)
    (a8 : PySem.W.findIn K (.ref c_PaperReader) "reads_pair" = some (some (.ref f8))) (i8 : PySem.W.isFn K (.ref f8) = true) (l8 : K.lookup f8 = some ⟨oc8, od8, .func (PySem.W.fnOf "reads_pair" "PaperReader.reads_pair" (defArgs s_PaperReader_reads_pair) (defBody s_PaperReader_reads_pair) (defScope s_PaperReader_reads_pair) .none kV8 dc8 pm8 an8 cd8 ct8), sl8⟩) (c8 : PySem.W.codeIn K cd8 "PaperReader.reads_pair" = true) (k8 : PySem.W.keepIn K (.ref f8) = true)
    (a9 : PySem.W.nsIn K mainGlobals "read_paper" = some (some (.ref f9))) (l9 : K.lookup f9 = some ⟨oc9, od9, .func (PySem.W.fnOf "read_paper" "read_paper" (defArgs s_read_paper) (defBody s_read_paper) (defScope s_read_paper) .none kV9 dc9 pm9 an9 cd9 ct9), sl9⟩) (c9 : PySem.W.codeIn K cd9 "read_paper" = true) (k9 : PySem.W.keepIn K (.ref f9) = true)
    (a10 : PySem.W.nsIn K mainGlobals "_law_state" = some (some (.ref f10))) (l10 : K.lookup f10 = some ⟨oc10, od10, .func (PySem.W.fnOf "_law_state" "_law_state" (defArgs s_law_state) (defBody s_law_state) (defScope s_law_state) .none kV10 dc10 pm10 an10 cd10 ct10), sl10⟩) (c10 : PySem.W.codeIn K cd10 "_law_state" = true) (k10 : PySem.W.keepIn K (.ref f10) = true)
    (a11 : PySem.W.nsIn K mainGlobals "_law_draw" = some (some (.ref f11))) (l11 : K.lookup f11 = some ⟨oc11, od11, .func (PySem.W.fnOf "_law_draw" "_law_draw" (defArgs s_law_draw) (defBody s_law_draw) (defScope s_law_draw) .none kV11 dc11 pm11 an11 cd11 ct11), sl11⟩) (c11 : PySem.W.codeIn K cd11 "_law_draw" = true) (k11 : PySem.W.keepIn K (.ref f11) = true)
    (a12 : PySem.W.nsIn K mainGlobals "_law_number" = some (some (.ref f12))) (l12 : K.lookup f12 = some ⟨oc12, od12, .func (PySem.W.fnOf "_law_number" "_law_number" (defArgs s_law_number) (defBody s_law_number) (defScope s_law_number) .none kV12 dc12 pm12 an12 cd12 ct12), sl12⟩) (c12 : PySem.W.codeIn K cd12 "_law_number" = true) (k12 : PySem.W.keepIn K (.ref f12) = true)
    (a13 : PySem.W.nsIn K mainGlobals "_law_paper" = some (some (.ref f13))) (l13 : K.lookup f13 = some ⟨oc13, od13, .func (PySem.W.fnOf "_law_paper" "_law_paper" (defArgs s_law_paper) (defBody s_law_paper) (defScope s_law_paper) .none kV13 dc13 pm13 an13 cd13 ct13), sl13⟩) (c13 : PySem.W.codeIn K cd13 "_law_paper" = true) (k13 : PySem.W.keepIn K (.ref f13) = true)
    (a14 : PySem.W.nsIn K mainGlobals "_law_written_out" = some (some (.ref f14))) (l14 : K.lookup f14 = some ⟨oc14, od14, .func (PySem.W.fnOf "_law_written_out" "_law_written_out" (defArgs s_law_written_out) (defBody s_law_written_out) (defScope s_law_written_out) .none kV14 dc14 pm14 an14 cd14 ct14), sl14⟩) (c14 : PySem.W.codeIn K cd14 "_law_written_out" = true) (k14 : PySem.W.keepIn K (.ref f14) = true)
    (a15 : PySem.W.nsIn K mainGlobals "law" = some (some (.ref f15))) (l15 : K.lookup f15 = some ⟨oc15, od15, .func (PySem.W.fnOf "law" "law" (defArgs s_law) (defBody s_law) (defScope s_law) .none kV15 dc15 pm15 an15 cd15 ct15), sl15⟩) (c15 : PySem.W.codeIn K cd15 "law" = true) (k15 : PySem.W.keepIn K (.ref f15) = true)
    (x_PaperReader : PySem.W.nsIn K mainGlobals "PaperReader" = some (some (.ref c_PaperReader))) (pg_PaperReader : PySem.W.plainGet K c_PaperReader Str.empty = true) (hd_PaperReader : PySem.W.hasDictIn K c_PaperReader = true) (po_PaperReader : PySem.W.plainOver K c_PaperReader = true) (sa_PaperReader : PySem.W.findIn K (.ref c_PaperReader) "__setattr__" = some (some (.builtin "object.__setattr__"))) (mk_PaperReader : PySem.W.makesIn K c_PaperReader = true) (kc_PaperReader : PySem.W.keepIn K (.ref c_PaperReader) = true) (na_pairs_told : PySem.W.findIn K (.ref c_PaperReader) "pairs_told" = some none) (na_rows_told : PySem.W.findIn K (.ref c_PaperReader) "rows_told" = some none)
    (z_abs : PySem.W.nsIn K mainGlobals "abs" = some none)
    (z_all : PySem.W.nsIn K mainGlobals "all" = some none)
    (z_dict : PySem.W.nsIn K mainGlobals "dict" = some none)
    (z_enumerate : PySem.W.nsIn K mainGlobals "enumerate" = some none)
    (z_int : PySem.W.nsIn K mainGlobals "int" = some none)
    (z_isinstance : PySem.W.nsIn K mainGlobals "isinstance" = some none)
    (z_len : PySem.W.nsIn K mainGlobals "len" = some none)
    (z_range : PySem.W.nsIn K mainGlobals "range" = some none)
    (z_repr : PySem.W.nsIn K mainGlobals "repr" = some none)
    (z_sorted : PySem.W.nsIn K mainGlobals "sorted" = some none)
    (z_str : PySem.W.nsIn K mainGlobals "str" = some none)
    (z_tuple : PySem.W.nsIn K mainGlobals "tuple" = some none)
    (z_zip : PySem.W.nsIn K mainGlobals "zip" = some none)
    {t_FIGURES : Tok} (y_FIGURES : PySem.W.nsIn K mainGlobals "FIGURES" = some (some (.str "0123456789" t_FIGURES)))
    {t_MOST_FIGURES : Tok} (y_MOST_FIGURES : PySem.W.nsIn K mainGlobals "MOST_FIGURES" = some (some (.int 5 t_MOST_FIGURES))) :
    ∃ fd : FuncData, (∀ (s : Shared) (v : Value), BindsTo s fd ⟨[v], []⟩ [("script", v)]) ∧ ∀ base : Heap, K.In base → base.Ns mainGlobals mg → FnG l.prog w K mg base 6 fa fd ["script"] (sp_law K) := by
  have e := hfa.symm.trans (PySem.W.mg_of X G a15)
  cases e
  have G1 := fun_mk (st := s_has_only) l1 c1 k1
  have F1 : Here K mg "has_only" s_has_only ["text", "signs"] f1 _ := ⟨G1, PySem.W.mg_of X G a1, G1.binds (ps := ["text", "signs"]) fun _ _ _ _ _ _ us hl => match us, hl with | [_, _], _ => rfl⟩
  have G2 := fun_mk (st := s_read_figures) l2 c2 k2
  have F2 : Here K mg "read_figures" s_read_figures ["text", "most"] f2 _ := ⟨G2, PySem.W.mg_of X G a2, G2.binds (ps := ["text", "most"]) fun _ _ _ _ _ _ us hl => match us, hl with | [_, _], _ => rfl⟩
  have G3 := fun_mk (st := s_text_rows) l3 c3 k3
  have F3 : Here K mg "text_rows" s_text_rows ["text"] f3 _ := ⟨G3, PySem.W.mg_of X G a3, G3.binds (ps := ["text"]) fun _ _ _ _ _ _ us hl => match us, hl with | [_], _ => rfl⟩
  have G4 := fun_mk (st := s_paper_text) l4 c4 k4
  have F4 : Here K mg "paper_text" s_paper_text ["paper"] f4 _ := ⟨G4, PySem.W.mg_of X G a4, G4.binds (ps := ["paper"]) fun _ _ _ _ _ _ us hl => match us, hl with | [_], _ => rfl⟩
  have G5 := fun_mk (st := s_numbers_told) l5 c5 k5
  have F5 : Here K mg "numbers_told" s_numbers_told ["words"] f5 _ := ⟨G5, PySem.W.mg_of X G a5, G5.binds (ps := ["words"]) fun _ _ _ _ _ _ us hl => match us, hl with | [_], _ => rfl⟩
  have G6 := fun_mk (st := s_PaperReader___init__) l6 c6 k6
  have F6 : HereI K c_PaperReader "__init__" "PaperReader.__init__" s_PaperReader___init__ ["self"] f6 _ := ⟨G6, ⟨mk_PaperReader, a6, i6, kc_PaperReader⟩, G6.binds (ps := ["self"]) fun _ _ _ _ _ _ us hl => match us, hl with | [_], _ => rfl⟩
  have G7 := fun_mk (st := s_PaperReader_reads) l7 c7 k7
  have F7 : HereM K c_PaperReader "reads" "PaperReader.reads" s_PaperReader_reads ["self", "row"] f7 _ := ⟨G7, ⟨a7, i7, k7⟩, G7.binds (ps := ["self", "row"]) fun _ _ _ _ _ _ us hl => match us, hl with | [_, _], _ => rfl⟩
  have G8 := fun_mk (st := s_PaperReader_reads_pair) l8 c8 k8
  have F8 : HereM K c_PaperReader "reads_pair" "PaperReader.reads_pair" s_PaperReader_reads_pair ["self", "pair"] f8 _ := ⟨G8, ⟨a8, i8, k8⟩, G8.binds (ps := ["self", "pair"]) fun _ _ _ _ _ _ us hl => match us, hl with | [_, _], _ => rfl⟩
  have G9 := fun_mk (st := s_read_paper) l9 c9 k9
  have F9 : Here K mg "read_paper" s_read_paper ["text"] f9 _ := ⟨G9, PySem.W.mg_of X G a9, G9.binds (ps := ["text"]) fun _ _ _ _ _ _ us hl => match us, hl with | [_], _ => rfl⟩
  have G10 := fun_mk (st := s_law_state) l10 c10 k10
  have F10 : Here K mg "_law_state" s_law_state ["script"] f10 _ := ⟨G10, PySem.W.mg_of X G a10, G10.binds (ps := ["script"]) fun _ _ _ _ _ _ us hl => match us, hl with | [_], _ => rfl⟩
  have G11 := fun_mk (st := s_law_draw) l11 c11 k11
  have F11 : Here K mg "_law_draw" s_law_draw ["state", "many"] f11 _ := ⟨G11, PySem.W.mg_of X G a11, G11.binds (ps := ["state", "many"]) fun _ _ _ _ _ _ us hl => match us, hl with | [_, _], _ => rfl⟩
  have G12 := fun_mk (st := s_law_number) l12 c12 k12
  have F12 : Here K mg "_law_number" s_law_number ["state"] f12 _ := ⟨G12, PySem.W.mg_of X G a12, G12.binds (ps := ["state"]) fun _ _ _ _ _ _ us hl => match us, hl with | [_], _ => rfl⟩
  have G13 := fun_mk (st := s_law_paper) l13 c13 k13
  have F13 : Here K mg "_law_paper" s_law_paper ["state"] f13 _ := ⟨G13, PySem.W.mg_of X G a13, G13.binds (ps := ["state"]) fun _ _ _ _ _ _ us hl => match us, hl with | [_], _ => rfl⟩
  have G14 := fun_mk (st := s_law_written_out) l14 c14 k14
  have F14 : Here K mg "_law_written_out" s_law_written_out ["sheet"] f14 _ := ⟨G14, PySem.W.mg_of X G a14, G14.binds (ps := ["sheet"]) fun _ _ _ _ _ _ us hl => match us, hl with | [_], _ => rfl⟩
  have G15 := fun_mk (st := s_law) l15 c15 k15
  have F15 : Here K mg "law" s_law ["script"] fa _ := ⟨G15, PySem.W.mg_of X G a15, G15.binds (ps := ["script"]) fun _ _ _ _ _ _ us hl => match us, hl with | [_], _ => rfl⟩
  have T : Tx K mg c_PaperReader := ⟨⟨_, PySem.W.mg_of X G y_FIGURES⟩, ⟨_, PySem.W.mg_of X G y_MOST_FIGURES⟩, PySem.W.mg_none_of X G z_abs, PySem.W.mg_none_of X G z_all, PySem.W.mg_none_of X G z_dict, PySem.W.mg_none_of X G z_enumerate, PySem.W.mg_none_of X G z_int, PySem.W.mg_none_of X G z_isinstance, PySem.W.mg_none_of X G z_len, PySem.W.mg_none_of X G z_range, PySem.W.mg_none_of X G z_repr, PySem.W.mg_none_of X G z_sorted, PySem.W.mg_none_of X G z_str, PySem.W.mg_none_of X G z_tuple, PySem.W.mg_none_of X G z_zip, PySem.W.mg_of X G x_PaperReader, ⟨pg_PaperReader, hd_PaperReader, po_PaperReader, sa_PaperReader⟩, na_pairs_told, na_rows_told⟩
  refine ⟨PySem.W.fnOf "law" "law" (defArgs s_law) (defBody s_law) (defScope s_law) .none kV15 dc15 pm15 an15 cd15 ct15, fun s v => .of_eq rfl, fun base _ _ => ?_⟩
  have C_law_state := ok_law_state (P := l.prog) (w := w) (base := base) T  F10
  have C_law_draw := ok_law_draw (P := l.prog) (w := w) (base := base) T  F11
  have C_law_number := ok_law_number (P := l.prog) (w := w) (base := base) T C_law_draw F12
  have C_law_paper := ok_law_paper (P := l.prog) (w := w) (base := base) T C_law_draw C_law_number F13
  have C_law_written_out := ok_law_written_out (P := l.prog) (w := w) (base := base) T  F14
  have C_text_rows := ok_text_rows (P := l.prog) (w := w) (base := base) T  F3
  have C_PaperReader___init__ := ok_PaperReader___init__ (P := l.prog) (w := w) (base := base) T  F6
  have C_has_only := ok_has_only (P := l.prog) (w := w) (base := base) T  F1
  have C_read_figures := ok_read_figures (P := l.prog) (w := w) (base := base) T C_has_only F2
  have C_numbers_told := ok_numbers_told (P := l.prog) (w := w) (base := base) T C_read_figures F5
  have C_PaperReader_reads_pair := ok_PaperReader_reads_pair (P := l.prog) (w := w) (base := base) T  F8
  have C_PaperReader_reads := ok_PaperReader_reads (P := l.prog) (w := w) (base := base) T C_numbers_told C_PaperReader_reads_pair F7
  have C_read_paper := ok_read_paper (P := l.prog) (w := w) (base := base) T C_text_rows C_PaperReader___init__ C_PaperReader_reads F9
  have C_paper_text := ok_paper_text (P := l.prog) (w := w) (base := base) T  F4
  have C_law := ok_law (P := l.prog) (w := w) (base := base) T C_law_state C_law_paper C_law_written_out C_read_paper C_paper_text F15
  exact C_law
end Z
open PySem PySem.W PyProof.Rows
set_option maxHeartbeats 0 in
theorem PySem.Challenge.cw_onetrace_k85_papers_written_and_read_holds : PySem.Challenge.rw_onetrace_k85_papers_written_and_read.Holds := by
  w_on; o_law; k_head; (case hw => w_witness2)
  k_fill
  refine Z.walkG_of (l := PySem.Challenge.rw_onetrace_k85_papers_written_and_read) (n := 63) (k := 6) (x := "script") (sp := fun w => Z.sp_law _) rfl (by decide) rfl ⟨rfl, by decide, by decide⟩ (fun w h Y => PySem.W.kIn_of Y) ?F (fun _ _ a ns hl _ hS => ⟨a, ns, rfl, hS, hl, fun _ => rfl⟩)
  case F =>
    intro w mg fa h KX G hmg
    refine' Z.all_mk KX G hmg ?a1 ?l1 ?c1 ?k1 ?a2 ?l2 ?c2 ?k2 ?a3 ?l3 ?c3 ?k3 ?a4 ?l4 ?c4 ?k4 ?a5 ?l5 ?c5 ?k5 ?a6 ?i6 ?l6 ?c6 ?k6 ?a7 ?i7 ?l7 ?c7 ?k7 ?a8 ?i8 ?l8 ?c8 ?k8 ?a9 ?l9 ?c9 ?k9 ?a10 ?l10 ?c10 ?k10 ?a11 ?l11 ?c11 ?k11 ?a12 ?l12 ?c12 ?k12 ?a13 ?l13 ?c13 ?k13 ?a14 ?l14 ?c14 ?k14 ?a15 ?l15 ?c15 ?k15 ?x_PaperReader ?pg_PaperReader ?hd_PaperReader ?po_PaperReader ?sa_PaperReader ?mk_PaperReader ?kc_PaperReader ?na_pairs_told ?na_rows_told ?z_abs ?z_all ?z_dict ?z_enumerate ?z_int ?z_isinstance ?z_len ?z_range ?z_repr ?z_sorted ?z_str ?z_tuple ?z_zip ?y_FIGURES ?y_MOST_FIGURES
    (case x_PaperReader => k_is)
    (case a1 => k_is)
    (case l1 => k_is)
    (case c1 => k_is)
    (case k1 => k_is)
    (case a2 => k_is)
    (case l2 => k_is)
    (case c2 => k_is)
    (case k2 => k_is)
    (case a3 => k_is)
    (case l3 => k_is)
    (case c3 => k_is)
    (case k3 => k_is)
    (case a4 => k_is)
    (case l4 => k_is)
    (case c4 => k_is)
    (case k4 => k_is)
    (case a5 => k_is)
    (case l5 => k_is)
    (case c5 => k_is)
    (case k5 => k_is)
    (case a6 => k_is)
    (case i6 => k_is)
    (case l6 => k_is)
    (case c6 => k_is)
    (case k6 => k_is)
    (case a7 => k_is)
    (case i7 => k_is)
    (case l7 => k_is)
    (case c7 => k_is)
    (case k7 => k_is)
    (case a8 => k_is)
    (case i8 => k_is)
    (case l8 => k_is)
    (case c8 => k_is)
    (case k8 => k_is)
    (case a9 => k_is)
    (case l9 => k_is)
    (case c9 => k_is)
    (case k9 => k_is)
    (case a10 => k_is)
    (case l10 => k_is)
    (case c10 => k_is)
    (case k10 => k_is)
    (case a11 => k_is)
    (case l11 => k_is)
    (case c11 => k_is)
    (case k11 => k_is)
    (case a12 => k_is)
    (case l12 => k_is)
    (case c12 => k_is)
    (case k12 => k_is)
    (case a13 => k_is)
    (case l13 => k_is)
    (case c13 => k_is)
    (case k13 => k_is)
    (case a14 => k_is)
    (case l14 => k_is)
    (case c14 => k_is)
    (case k14 => k_is)
    (case a15 => k_is)
    (case l15 => k_is)
    (case c15 => k_is)
    (case k15 => k_is)
    (case pg_PaperReader => k_is)
    (case hd_PaperReader => k_is)
    (case po_PaperReader => k_is)
    (case sa_PaperReader => k_is)
    (case mk_PaperReader => k_is)
    (case kc_PaperReader => k_is)
    (case na_pairs_told => k_is)
    (case na_rows_told => k_is)
    (case z_abs => k_is)
    (case z_all => k_is)
    (case z_dict => k_is)
    (case z_enumerate => k_is)
    (case z_int => k_is)
    (case z_isinstance => k_is)
    (case z_len => k_is)
    (case z_range => k_is)
    (case z_repr => k_is)
    (case z_sorted => k_is)
    (case z_str => k_is)
    (case z_tuple => k_is)
    (case z_zip => k_is)
    (case y_FIGURES => k_is)
    (case y_MOST_FIGURES => k_is)
