import PyProof.Rows.All
import Wide.All
import OpenK.AllK
import Wide.FinOn
import HandS.ForMost
import HandS.ForExc
import HandS.More
import HandS.ExcInit
import HandS.ExcIs
import HandS.ExcField
import HandS.HotCalls
import HandS.IsInst
import HandS.Conv
import HandS.Rev
import HandS.RevRange
import HandS.Flow
import HandS.Style
import HandS.Zip
import KE.KExcIs
import HandS.DeepEq
import PySem.Challenge.RW_mendsontime_k24_ring_matrix_and_trail
set_option Elab.async false
set_option linter.all false
set_option maxRecDepth 100000
set_option maxHeartbeats 4000000
/-! words of my own over the layer -/
namespace Mt
open PySem PySem.Spec PyProof.Rows L2
def topS (i : Nat) : Stmt := PySem.Challenge.pw_mendsontime_k24_ring_matrix_and_trail.main.body.getD i (.Pass ⟨0, 0, 0, 0⟩)
theorem rel_ty {n : String} : RelV (.ty n) (.type n) := rfl
/-- a def that may be called here: its promise, its place, how it is bound -/
structure Cal (P : Program) (w : World) (K : PySem.W.Frag) (mg : Str → Option Value) (base : Heap) (x : Str) (k : Nat) (ps : List Str) (sp : Sp) : Prop where
  ex : ∃ f fd, FnOk P w K mg base CX0 k f fd ps sp ∧ mg x = some (.ref f) ∧ PySem.W.keepIn K (.ref f) = true ∧ Binds K fd ps []
theorem p_call {X : Cx} {x : Str} {j k : Nat} {ps : List Str} {sp : Sp} {e : Expr} {es : List Expr} {t : TA} {p pos : Pos} (C : Cal X.prog X.w X.K X.mg X.base x j ps sp) (hr : Room k X.A) (ha : PA X (e :: es) t) (hj : j ≤ k := by decide) (hg : Gl X x := by rfl)
    (hdb : (x == ("__debug__" : Str)) = false := by decide) (he : starEach (e :: es) X.env = (false, eval e X.env) :: starEach es X.env := by rfl) (hpl : (backTo pos (starEach es X.env)).any (·.1) = false := by rfl) :
    PE X (.Call (.Name x p) (e :: es) [] pos) (tCall sp [] E0 t) := by
  obtain ⟨f, fd, F, gm, kp, b⟩ := C.ex
  exact pe_call F (hr.mono hj) hg gm kp b .nil pass0 ha hdb he hpl
/-! the store of drawn numbers -/
structure Sto where
  l : Addr
  ns : List Int
  i : Int
  c : Int
  g : Int
  seed : Int
  j : Int
def stV (t : Sto) : List V := [.ref t.l, .int t.i, .int t.c, .int t.g, .int t.seed, .int t.j]
def Wr (G : Hp) (s : Addr) (t : Sto) : Hp := upd G s (.lst (stV t))
structure StOk (G : Hp) (t : Sto) : Prop where
  at_ : G t.l = some (.lst (t.ns.map V.int))
  i0 : 0 ≤ t.i
  il : t.i ≤ t.ns.length
  g0 : 0 ≤ t.g
  gi : 0 < t.g → 1 ≤ t.i
end Mt

/-! readings by rewriting -/
namespace Mt
open PySem PySem.Spec PyProof.Rows L2
section
variable {D : Ends} {σ : L2.St} {H : Hp} {Q : VK} {B : Bool → Hp → Prop} {La : List V → Hp → Prop} {i : Nat} {v x y z : V} {ta tb tc te : TE} {t u : TT} {s1 s2 : TS} {r r' : R2} {aa ar : TA} {K : PySem.W.Frag} {g : TG} {gs : TGs} {b : Bool}
theorem w_seq : tSeq s1 s2 D σ H = s1 { D with nx := s2 D } σ H := rfl
theorem w_next : tNext D σ H = D.nx σ H := rfl
theorem w_ret : tRet te D σ H = te σ H D.rt := rfl
theorem w_asg : tAsg te g D σ H = te σ H fun x H1 => g x σ H1 D.nx := rfl
theorem w_ifs : tIfS t s1 s2 D σ H = t σ H fun b H1 => if b = true then s1 D σ H1 else s2 D σ H1 := rfl
theorem w_drop : tDrop te D σ H = te σ H fun _ H1 => D.nx σ H1 := rfl
theorem w_brk : tBreak D σ H = D.bk σ H := rfl
theorem w_cont : tCont D σ H = D.ct σ H := rfl
theorem w_name {R : L2.St → Hp → Prop} : gName i v σ H R = R (σ.set i (some v)) H := rfl
theorem w_var : tVar i σ H Q = ∃ v, σ[i]? = some (some v) ∧ Q v H := rfl
theorem w_c : tC v σ H Q = Q v H := rfl
theorem w_op : tOp r ta tb σ H Q = ta σ H fun x H1 => tb σ H1 fun y H2 => r x y H2 Q := rfl
theorem w_un {q : V → Hp → VK → Prop} : tUn q ta σ H Q = ta σ H fun x H1 => q x H1 Q := rfl
theorem w_I {C : Int → Int → Prop} {f : Int → Int → V} {a c : Int} : rI C f (.int a) (.int c) H Q = (C a c ∧ Q (f a c) H) := propext ⟨fun ⟨p, q, e1, e2, h⟩ => by cases e1; cases e2; exact h, fun h => ⟨a, c, rfl, rfl, h⟩⟩
theorem w_I0 {f : Int → Int → V} {a c : Int} : rI0 f (.int a) (.int c) H Q = Q (f a c) H := propext ⟨fun ⟨p, q, e1, e2, h⟩ => by cases e1; cases e2; exact h, fun h => ⟨a, c, rfl, rfl, h⟩⟩
theorem w_U {f : Int → V} {a : Int} : rU f (.int a) H Q = Q (f a) H := propext ⟨fun ⟨p, e1, h⟩ => by cases e1; exact h, fun h => ⟨a, rfl, h⟩⟩
theorem w_eq : rEq x y H Q = (scal x y = true ∧ Q (.bl (decide (x = y))) H) := rfl
theorem w_ne : rNe x y H Q = (scal x y = true ∧ Q (.bl (!decide (x = y))) H) := rfl
theorem w_test : tTest te σ H B = te σ H fun x H' => ∃ k, x = .bl k ∧ B k H' := rfl
theorem w_B : tB te σ H B = te σ H fun x H' => ∃ k, x = .bl k ∧ B k H' := rfl
theorem w_and : tAnd t u σ H B = t σ H fun c H1 => if c = true then u σ H1 B else B false H1 := rfl
theorem w_or : tOr t u σ H B = t σ H fun c H1 => if c = true then B true H1 else u σ H1 B := rfl
theorem w_not : tNot t σ H B = t σ H fun c H1 => B (!c) H1 := rfl
theorem w_andV : tAndV ta tb σ H Q = ta σ H fun x H1 => ∃ c, x = .bl c ∧ if c = true then tb σ H1 Q else Q (.bl false) H1 := rfl
theorem w_orV : tOrV ta tb σ H Q = ta σ H fun x H1 => ∃ c, x = .bl c ∧ if c = true then Q (.bl true) H1 else tb σ H1 Q := rfl
theorem w_notV : tNotV ta σ H Q = ta σ H fun x H1 => ∃ c, x = .bl c ∧ Q (.bl (!c)) H1 := rfl
theorem w_if : tIf t ta tb σ H Q = t σ H fun c H1 => if c = true then ta σ H1 Q else tb σ H1 Q := rfl
theorem w_isN : tIsN ta σ H Q = ta σ H fun x H1 => Q (.bl (decide (x = .non))) H1 := rfl
theorem w_nil : tNil σ H La = La [] H := rfl
theorem w_cons : tCons ta ar σ H La = ta σ H fun x H1 => ar σ H1 fun xs H2 => La (x :: xs) H2 := rfl
theorem w_cb {q : List V → Hp → VK → Prop} : tCB q aa σ H Q = aa σ H fun vs H1 => q vs H1 Q := rfl
theorem w_call {sp : Sp} {dvs : List V} {E : XK} : tCall sp dvs E aa σ H Q = aa σ H fun vs H1 => sp (vs ++ dvs) H1 Q E := rfl
theorem w_tup : tTup aa σ H Q = aa σ H fun xs H1 => xs.length ≤ sizeLine ∧ ∀ p, H1 p = none → Q (.ref p) (upd H1 p (.tup xs)) := rfl
theorem w_lst : tLst aa σ H Q = aa σ H fun xs H1 => xs.length ≤ sizeLine ∧ ∀ p, H1 p = none → Q (.ref p) (upd H1 p (.lst xs)) := rfl
theorem w_sub {to ti : TE} {ts : TSet} {R : L2.St → Hp → Prop} : gSub to ti ts v σ H R = to σ H fun o H1 => ti σ H1 fun i H2 => ts o i v H2 fun H3 => R σ H3 := rfl
theorem w_int1 {a : Int} : ((∃ i, [V.int a] = [V.int i] ∧ Q (.int i) H) ∨ ∃ k, [V.int a] = [V.bl k] ∧ Q (.int (if k = true then 1 else 0)) H) = Q (.int a) H := by
  refine propext ⟨fun h => ?_, fun h => Or.inl ⟨a, rfl, h⟩⟩
  rcases h with ⟨i, e, h⟩ | ⟨k, e, _⟩
  · cases e
    exact h
  · cases e
theorem w_chain : tChain r r' ta tb tc σ H Q = ta σ H fun x H1 => tb σ H1 fun y H2 => r x y H2 fun z H3 => ∃ k, z = .bl k ∧ if k = true then tc σ H3 fun w H4 => r' y w H4 Q else Q (.bl false) H3 := rfl
theorem w_exB {R : Bool → Prop} {b : Bool} : (∃ k, V.bl b = V.bl k ∧ R k) = R b := propext ⟨fun ⟨k, e, h⟩ => by cases e; exact h, fun h => ⟨b, rfl, h⟩⟩
theorem w_exV {R : V → Prop} {a : V} : (∃ v, some (some a) = some (some v) ∧ R v) = R a := propext ⟨fun ⟨k, e, h⟩ => by cases e; exact h, fun h => ⟨a, rfl, h⟩⟩
theorem w_start {N : List Str} {vs : List V} : L2.start N vs = vs.map some ++ List.replicate (N.length - vs.length) none := rfl
theorem w_par {j : Nat} {aa : TA} : tPar i j aa D σ H = aa σ H fun vs H1 => ∃ v w, vs = [v, w] ∧ D.nx ((σ.set i (some v)).set j (some w)) H1 := rfl
theorem w_par2 {R : V → V → Prop} : (∃ v w, [x, y] = [v, w] ∧ R v w) = R x y := propext ⟨fun ⟨v, w, e, h⟩ => by cases e; exact h, fun h => ⟨x, y, rfl, h⟩⟩
theorem wp1 : wipe σ [i] = σ.set i none := rfl
theorem wp2 {j : Nat} : wipe σ [i, j] = (σ.set j none).set i none := rfl
/-- an item of a tracked list -/
theorem w_ix {p : Addr} {xs : List V} {i : Int} {w : V} (h : H p = some (.lst xs)) (e : atI xs i = some w) (q : Q w H) : rIxL K (.ref p) (.int i) H Q := ⟨p, xs, i, w, rfl, rfl, .inl (.inl h), e, q⟩
end
end Mt

/-! rules whose readings are reckoned from the heap -/
namespace Mt
open PySem PySem.Spec PyProof.Rows L2
/-- the items of a list, a tuple, the script -/
def seqAt (H : Hp) (p : Addr) : Option (List V) :=
  match H p with
  | some (.lst xs) => some xs
  | some (.tup xs) => some xs
  | some (.frz _ (.lst xs)) => some xs
  | _ => none
theorem seqAt_l {H : Hp} {p : Addr} {xs : List V} (h : H p = some (.lst xs)) : seqAt H p = some xs := by
  unfold seqAt
  rw [h]
theorem seqAt_t {H : Hp} {p : Addr} {xs : List V} (h : H p = some (.tup xs)) : seqAt H p = some xs := by
  unfold seqAt
  rw [h]
theorem seqAt_split {K : PySem.W.Frag} {H : Hp} {p : Addr} {xs : List V} (h : seqAt H p = some xs) : SqL K H p xs ∨ SqT K H p xs := by
  unfold seqAt at h
  split at h
  · rename_i ys e
    cases h
    exact Or.inl (Or.inl (Or.inl e))
  · rename_i ys e
    cases h
    exact Or.inr (Or.inl (Or.inl e))
  · rename_i o ys e
    cases h
    exact Or.inl (Or.inl (Or.inr ⟨o, e⟩))
  · cases h
theorem seqAt_same {H H' : Hp} {p : Addr} {xs : List V} (s : Same H H') (h : seqAt H p = some xs) : seqAt H' p = some xs := by
  unfold seqAt at h ⊢
  split at h
  · rename_i ys e
    rw [s _ _ e]
    exact h
  · rename_i ys e
    rw [s _ _ e]
    exact h
  · rename_i o ys e
    rw [s _ _ e]
    exact h
  · cases h
section
variable {X : Cx}
def rIxH : R2 := fun x y H Q => ∃ p i xs v, x = .ref p ∧ y = .int i ∧ seqAt H p = some xs ∧ atI xs i = some v ∧ Q v H
theorem ix_H : IxR X rIxH := by
  intro value slice pins s σ H x y v u Q I rx ry h hs
  obtain ⟨p, i, xs, z, rfl, rfl, e, ea, q⟩ := h
  refine ix_seq value slice pins s σ H _ _ v u Q I rx ry ?_ hs
  rcases seqAt_split (K := X.K) e with k | k
  · exact Or.inl ⟨p, xs, i, z, rfl, rfl, k, ea, q⟩
  · exact Or.inr (Or.inl ⟨p, xs, i, z, rfl, rfl, k, ea, q⟩)
def rLenH : List V → Hp → VK → Prop := fun vs H Q => ∃ p xs, vs = [.ref p] ∧ seqAt H p = some xs ∧ Q (.int xs.length) H
theorem call_lenH : CallR X (.builtin "len") rLenH := by
  intro pins s σ H xs us Q I r h
  obtain ⟨p, ys, rfl, e, q⟩ := h
  refine call_len_seq pins s σ H _ us Q I r ?_
  rcases seqAt_split (K := X.K) e with k | k
  · exact ⟨p, ys, rfl, Or.inl k, q⟩
  · exact ⟨p, ys, rfl, Or.inr k, q⟩
def rInt1 : List V → Hp → VK → Prop := fun xs H Q => (∃ i, xs = [.int i] ∧ Q (.int i) H) ∨ ∃ k, xs = [.bl k] ∧ Q (.int (if k = true then 1 else 0)) H
theorem call_intH : CallR X (.type "int") rInt1 := call_int1
def rIsTyH : R2 := fun x y H Q => ∃ m n, x = .ty m ∧ y = .ty n ∧ Q (.bl (decide (m = n))) H
theorem op_isTyH : OpR X (compareOp .Is) rIsTyH := op_isTy
theorem tyx_of {K : PySem.W.Frag} {x : V} {H : Hp} {n : String} (h : zTyV x H = some n) : TyX K H x (.type n) := by
  cases x with
  | non => cases h; exact .base .non
  | bl b => cases h; exact .base (.bl b)
  | int i => cases h; exact .base (.int i)
  | str z => cases h; exact .base (.str z)
  | byt b => cases h; exact .byt b
  | flt b => cases h; exact .base (.flt b)
  | ty m => cases h
  | ref p =>
    simp only [zTyV] at h
    split at h
    · rename_i ys e
      cases h
      exact .base (.lst e)
    · rename_i ys e
      cases h
      exact .base (.tup e)
    · cases h
/-- isinstance(x, T), T a built-in class -/
def rIsH : List V → Hp → VK → Prop := fun vs H Q => ∃ x n m b, vs = [x, .ty n] ∧ zTyV x H = some m ∧ kitB m n = some b ∧ Q (.bl b) H
theorem call_isH : CallR X (.builtin "isinstance") rIsH := by
  intro pins s σ H xs us Q I r h
  obtain ⟨x, n, m, b, rfl, hz, hk, q⟩ := h
  exact call_isi pins s σ H _ us Q I r ⟨x, .ty n, .type m, .type n, b, rfl, .ty n, tyx_of hz, kit_ty hk, q⟩
/-- isinstance(x, (S, T)) -/
def rIsTH : List V → Hp → VK → Prop := fun vs H Q => ∃ x tp n1 n2 m b c, vs = [x, .ref tp] ∧ H tp = some (.tup [.ty n1, .ty n2]) ∧ zTyV x H = some m ∧ kitB m n1 = some b ∧ kitB m n2 = some c ∧ Q (.bl (b || c)) H
theorem call_isTH : CallR X (.builtin "isinstance") rIsTH := by
  intro pins s σ H xs us Q I r h
  obtain ⟨x, tp, n1, n2, m, b, c, rfl, ht, hz, h1, h2, q⟩ := h
  refine call_isiT pins s σ H _ us Q I r ⟨x, tp, [.ty n1, .ty n2], .type m, [.type n1, .type n2], b || c, rfl, ht, .cons (.ty n1) (.cons (.ty n2) .nil), tyx_of hz, ?_, q⟩
  refine kitAny_cons (kit_ty h1) (fun e => ?_) (fun e => by rw [e]; rfl)
  refine kitAny_cons (kit_ty h2) (fun e2 => by rw [e, e2]; exact kitAny_nil) (fun e2 => by rw [e, e2]; rfl)
end
section
variable {H : Hp} {Q : VK} {x y : V}
theorem w_ixH {p : Addr} {i : Int} : rIxH (.ref p) (.int i) H Q = ∃ xs, seqAt H p = some xs ∧ ∃ v, atI xs i = some v ∧ Q v H := by
  refine propext ⟨fun ⟨p', i', xs, v, e1, e2, h1, h2, q⟩ => ?_, fun ⟨xs, h1, v, h2, q⟩ => ⟨p, i, xs, v, rfl, rfl, h1, h2, q⟩⟩
  cases e1
  cases e2
  exact ⟨xs, h1, v, h2, q⟩
theorem w_lenH {p : Addr} : rLenH [.ref p] H Q = ∃ xs, seqAt H p = some xs ∧ Q (.int xs.length) H := by
  refine propext ⟨fun ⟨p', xs, e1, h1, q⟩ => ?_, fun ⟨xs, h1, q⟩ => ⟨p, xs, rfl, h1, q⟩⟩
  cases e1
  exact ⟨xs, h1, q⟩
theorem w_intI {a : Int} : rInt1 [.int a] H Q = Q (.int a) H := by
  refine propext ⟨fun h => ?_, fun h => Or.inl ⟨a, rfl, h⟩⟩
  rcases h with ⟨i, e, h⟩ | ⟨k, e, _⟩
  · cases e
    exact h
  · cases e
theorem w_intB {b : Bool} : rInt1 [.bl b] H Q = Q (.int (if b = true then 1 else 0)) H := by
  refine propext ⟨fun h => ?_, fun h => Or.inr ⟨b, rfl, h⟩⟩
  rcases h with ⟨i, e, h⟩ | ⟨k, e, h⟩
  · cases e
  · cases e
    exact h
theorem w_isTyH {m n : String} : rIsTyH (.ty m) (.ty n) H Q = Q (.bl (decide (m = n))) H := by
  refine propext ⟨fun ⟨a, b, e1, e2, q⟩ => ?_, fun q => ⟨m, n, rfl, rfl, q⟩⟩
  cases e1
  cases e2
  exact q
theorem w_typ : r1 kTyp [x] H Q = ∃ n, zTyV x H = some n ∧ Q (.ty n) H := rfl
theorem w_isH {n : String} : rIsH [x, .ty n] H Q = ∃ m, zTyV x H = some m ∧ ∃ b, kitB m n = some b ∧ Q (.bl b) H := by
  refine propext ⟨fun ⟨a, n', m, b, e1, h1, h2, q⟩ => ?_, fun ⟨m, h1, b, h2, q⟩ => ⟨x, n, m, b, rfl, h1, h2, q⟩⟩
  cases e1
  exact ⟨m, h1, b, h2, q⟩
theorem w_isTH {tp : Addr} {n1 n2 : String} (ht : H tp = some (.tup [.ty n1, .ty n2])) : rIsTH [x, .ref tp] H Q = ∃ m, zTyV x H = some m ∧ ∃ b, kitB m n1 = some b ∧ ∃ c, kitB m n2 = some c ∧ Q (.bl (b || c)) H := by
  refine propext ⟨fun ⟨a, t', k1, k2, m, b, c, e1, ht', h1, h2, h3, q⟩ => ?_, fun ⟨m, h1, b, h2, c, h3, q⟩ => ⟨x, tp, n1, n2, m, b, c, rfl, ht, h1, h2, h3, q⟩⟩
  cases e1
  have e : some (HO.tup [V.ty n1, V.ty n2]) = some (HO.tup [V.ty k1, V.ty k2]) := ht.symm.trans ht'
  injection e with e
  injection e with e
  injection e with e e'
  injection e with e
  injection e' with e' _
  injection e' with e'
  subst e e'
  exact ⟨m, h1, b, h2, c, h3, q⟩
theorem w_setL {p : Addr} {xs : List V} {k : Int} {j : Nat} {v : V} {R : Hp → Prop} (h : H p = some (.lst xs)) (e : ixN xs.length k = some j) (q : R (upd H p (.lst (xs.set j v)))) : rSetL (.ref p) (.int k) v H R := ⟨p, xs, k, j, rfl, rfl, h, e, q⟩
theorem w_abs {a : Int} {R : VK} : (∃ i, [V.int a] = [V.int i] ∧ R (.int i) H) = R (.int a) H := by
  refine propext ⟨fun ⟨i, e, q⟩ => ?_, fun q => ⟨a, rfl, q⟩⟩
  cases e
  exact q
end
-- which class a kind is
theorem k_ii : kitB "int" "int" = some true := by decide +kernel
theorem k_ib : kitB "int" "bool" = some false := by decide +kernel
theorem k_is : kitB "int" "str" = some false := by decide +kernel
theorem k_il : kitB "int" "list" = some false := by decide +kernel
theorem k_it : kitB "int" "tuple" = some false := by decide +kernel
theorem k_bi : kitB "bool" "int" = some true := by decide +kernel
theorem k_bb : kitB "bool" "bool" = some true := by decide +kernel
theorem k_bs : kitB "bool" "str" = some false := by decide +kernel
theorem k_bl : kitB "bool" "list" = some false := by decide +kernel
theorem k_bt : kitB "bool" "tuple" = some false := by decide +kernel
theorem k_ni : kitB "NoneType" "int" = some false := by decide +kernel
theorem k_nb : kitB "NoneType" "bool" = some false := by decide +kernel
theorem k_ns : kitB "NoneType" "str" = some false := by decide +kernel
theorem k_nl : kitB "NoneType" "list" = some false := by decide +kernel
theorem k_nt : kitB "NoneType" "tuple" = some false := by decide +kernel
theorem k_si : kitB "str" "int" = some false := by decide +kernel
theorem k_sb : kitB "str" "bool" = some false := by decide +kernel
theorem k_ss : kitB "str" "str" = some true := by decide +kernel
theorem k_sl : kitB "str" "list" = some false := by decide +kernel
theorem k_st : kitB "str" "tuple" = some false := by decide +kernel
theorem k_li : kitB "list" "int" = some false := by decide +kernel
theorem k_lb : kitB "list" "bool" = some false := by decide +kernel
theorem k_ls : kitB "list" "str" = some false := by decide +kernel
theorem k_ll : kitB "list" "list" = some true := by decide +kernel
theorem k_lt : kitB "list" "tuple" = some false := by decide +kernel
theorem k_ti : kitB "tuple" "int" = some false := by decide +kernel
theorem k_tb : kitB "tuple" "bool" = some false := by decide +kernel
theorem k_ts : kitB "tuple" "str" = some false := by decide +kernel
theorem k_tl : kitB "tuple" "list" = some false := by decide +kernel
theorem k_tt : kitB "tuple" "tuple" = some true := by decide +kernel
end Mt

namespace Mt
open PySem PySem.Spec PyProof.Rows L2
section
variable {X : Cx} {H : Hp} {Q : VK} {x y : V}
def rAbsH : List V → Hp → VK → Prop := fun xs H Q => ∃ i, xs = [.int i] ∧ Q (.int (if i < 0 then -i else i)) H
theorem call_absH : CallR X (.builtin "abs") rAbsH := call_abs
theorem w_absH {a : Int} : rAbsH [.int a] H Q = Q (.int (if a < 0 then -a else a)) H := by
  refine propext ⟨fun ⟨i, e, q⟩ => ?_, fun q => ⟨a, rfl, q⟩⟩
  cases e
  exact q
/-- list(x) of a list, a tuple, the script -/
def rListH : List V → Hp → VK → Prop := fun vs H Q => ∃ p xs, vs = [.ref p] ∧ seqAt H p = some xs ∧ ∀ l, H l = none → Q (.ref l) (upd H l (.lst xs))
theorem call_listH : CallR X (.type "list") rListH := by
  intro pins s σ H xs us Q I r h
  obtain ⟨p, ys, rfl, e, q⟩ := h
  exact call_list_of pins s σ H _ us Q I r ⟨p, ys, rfl, seqAt_split e, q⟩
theorem w_listH {p : Addr} : rListH [.ref p] H Q = ∃ xs, seqAt H p = some xs ∧ ∀ l, H l = none → Q (.ref l) (upd H l (.lst xs)) := by
  refine propext ⟨fun ⟨p', xs, e1, h1, q⟩ => ?_, fun ⟨xs, h1, q⟩ => ⟨p, xs, rfl, h1, q⟩⟩
  cases e1
  exact ⟨xs, h1, q⟩
theorem w_tsl {r : V → Option Int → Option Int → Hp → VK → Prop} {te : TE} {tl th : TO} {σ : L2.St} : tSl r te tl th σ H Q = te σ H fun x H1 => tl σ H1 fun l H2 => th σ H2 fun u H3 => r x l u H3 Q := rfl
theorem w_nopart {σ : L2.St} {R : Option Int → Hp → Prop} : tNoPart σ H R = R none H := rfl
theorem w_part {te : TE} {σ : L2.St} {R : Option Int → Hp → Prop} : tPart te σ H R = te σ H fun x H1 => ∃ i, x = .int i ∧ R (some i) H1 := rfl
theorem w_exI {a : Int} {R : Int → Prop} : (∃ i, V.int a = V.int i ∧ R i) = R a := propext ⟨fun ⟨i, e, h⟩ => by cases e; exact h, fun h => ⟨a, rfl, h⟩⟩
theorem atI_neg1 {α : Type} {xs : List α} {i : Nat} {v : α} (h : xs.length = i + 1) (e : xs[i]? = some v) : atI xs (-1) = some v := by
  have e2 : ixN xs.length (-1) = some i := by
    unfold ixN
    rw [h, if_neg (by decide), if_pos (by omega)]
    congr 1
    omega
  unfold atI
  rw [e2]
  exact e
def rStrH : List V → Hp → VK → Prop := fun xs H Q => ∃ i, xs = [.int i] ∧ i.natAbs.log2 < 1920 ∧ Q (.str (toString i)) H
theorem call_strH : CallR X (.type "str") rStrH := call_str_int
theorem w_strH {a : Int} : rStrH [.int a] H Q = (a.natAbs.log2 < 1920 ∧ Q (.str (toString a)) H) := by
  refine propext ⟨fun ⟨i, e, q⟩ => ?_, fun q => ⟨a, rfl, q⟩⟩
  cases e
  exact q
/-- a slice of a list -/
def rSlH : V → Option Int → Option Int → Hp → VK → Prop := fun x lo hi H Q => ∃ p xs, x = .ref p ∧ (H p = some (.lst xs) ∨ ∃ o, H p = some (.frz o (.lst xs))) ∧ ∀ q, H q = none → Q (.ref q) (upd H q (.lst (cutV xs lo hi)))
theorem sl_H : SlR X rSlH := by
  intro pins s σ H x v vl vu lo hi sl Q I rx hs pl pu h
  obtain ⟨p, xs, rfl, k, q⟩ := h
  exact sl_list pins s σ H _ v vl vu lo hi sl Q I rx hs pl pu ⟨p, xs, rfl, Or.inl k, q⟩
theorem w_slH {p : Addr} {lo hi : Option Int} {xs : List V} (h : H p = some (.lst xs)) : rSlH (.ref p) lo hi H Q = ∀ q, H q = none → Q (.ref q) (upd H q (.lst (cutV xs lo hi))) := by
  refine propext ⟨fun ⟨p', ys, e1, h1, q⟩ => ?_, fun q => ⟨p, xs, rfl, Or.inl h, q⟩⟩
  cases e1
  rcases h1 with h1 | ⟨o, h1⟩
  · rw [h] at h1
    cases h1
    exact q
  · rw [h] at h1
    cases h1
theorem w_cat {l b : Addr} {xs zs : List V} (h1 : H l = some (.lst xs)) (h2 : H b = some (.lst zs)) : rCat (.ref l) (.ref b) H Q = (xs.length + zs.length ≤ sizeLine ∧ ∀ p, H p = none → Q (.ref p) (upd H p (.lst (xs ++ zs)))) := by
  refine propext ⟨fun ⟨l', b', xs', zs', e1, e2, g1, g2, q⟩ => ?_, fun q => ⟨l, b, xs, zs, rfl, rfl, h1, h2, q⟩⟩
  cases e1
  cases e2
  rw [h1] at g1
  rw [h2] at g2
  cases g1
  cases g2
  exact q
theorem w_bm {T : String} {K : PySem.W.Frag} {r : V → List V → Hp → VK → Prop} {to : TE} {t : TA} {σ : L2.St} : tBM K T r to t σ H Q = to σ H fun x H1 => tyV K T x H1 ∧ t σ H1 fun xs H2 => r x xs H2 Q := rfl
theorem w_append {l : Addr} {xs : List V} {y : V} (h : H l = some (.lst xs)) : rAppend (.ref l) [y] H Q = (xs.length < sizeLine ∧ Q .non (upd H l (.lst (xs ++ [y])))) := by
  refine propext ⟨fun ⟨l', xs', y', e1, e2, g, q⟩ => ?_, fun q => ⟨l, xs, y, rfl, rfl, h, q⟩⟩
  cases e1
  cases e2
  rw [h] at g
  cases g
  exact q
theorem w_tyL {l : Addr} {xs : List V} {K : PySem.W.Frag} (h : H l = some (.lst xs)) : tyV K "list" (.ref l) H = True := propext ⟨fun _ => trivial, fun _ => Or.inl ⟨rfl, _, Or.inl (Or.inl h)⟩⟩
end
theorem w_scII {a b : Int} : scal (.int a) (.int b) = true := rfl
theorem w_scBB {a b : Bool} : scal (.bl a) (.bl b) = true := rfl
theorem w_scSS {a b : Str} : scal (.str a) (.str b) = true := rfl
theorem w_scNN : scal .non .non = true := rfl
theorem w_zi {a : Int} {H : Hp} : zTyV (.int a) H = some "int" := rfl
theorem w_zb {a : Bool} {H : Hp} : zTyV (.bl a) H = some "bool" := rfl
theorem w_zs {a : Str} {H : Hp} : zTyV (.str a) H = some "str" := rfl
theorem w_zn {H : Hp} : zTyV .non H = some "NoneType" := rfl
theorem w_zl {p : Addr} {xs : List V} {H : Hp} (h : H p = some (.lst xs)) : zTyV (.ref p) H = some "list" := by
  simp only [zTyV, h]
theorem w_zt {p : Addr} {xs : List V} {H : Hp} (h : H p = some (.tup xs)) : zTyV (.ref p) H = some "tuple" := by
  simp only [zTyV, h]
/-- an item of a list of ints -/
theorem ints_at {ns : List Int} {i : Nat} {y : V} (h : (ns.map V.int)[i]? = some y) : ∃ z, ns[i]? = some z ∧ y = .int z := by
  rw [List.getElem?_map] at h
  cases e : ns[i]? with
  | none =>
    rw [e] at h
    cases h
  | some z =>
    rw [e] at h
    exact ⟨z, rfl, (Option.some.inj h).symm⟩
/-! ### a remainder -/
theorem fmod_pos {a m : Int} (h : 0 < m) : 0 ≤ a.fmod m ∧ a.fmod m < m := by
  rw [Int.fmod_eq_emod_of_nonneg _ (Int.le_of_lt h)]
  exact ⟨Int.emod_nonneg _ (by omega), Int.emod_lt_of_pos _ h⟩
theorem fdiv_pos {a m : Int} (h : 0 ≤ a) (hm : 0 < m) : 0 ≤ a.fdiv m ∧ a.fdiv m ≤ a := by
  rw [Int.fdiv_eq_ediv_of_nonneg _ (Int.le_of_lt hm)]
  exact ⟨Int.ediv_nonneg h (Int.le_of_lt hm), Int.ediv_le_self _ h⟩
theorem cmul_l {a c : Int} (h0 : 0 ≤ a) (h1 : a < 18446744073709551616) : CMul a c := Or.inl ⟨by omega, by omega⟩
theorem cmul_r {a c : Int} (h0 : 0 ≤ c) (h1 : c < 18446744073709551616) : CMul a c := Or.inr ⟨by omega, by omega⟩
/-! ### heaps -/
theorem upd_comm {H : Hp} {a b : Addr} {o u : HO} (h : a ≠ b) : upd (upd H a o) b u = upd (upd H b u) a o := by
  funext c
  unfold upd
  by_cases h1 : c = a
  · by_cases h2 : c = b
    · exact absurd (h1.symm.trans h2) h
    · rw [if_neg h2, if_pos h1, if_pos h1]
  · by_cases h2 : c = b
    · rw [if_pos h2, if_neg h1, if_pos h2]
    · rw [if_neg h2, if_neg h1, if_neg h1, if_neg h2]
theorem same_new {H : Hp} {p : Addr} {o : HO} (h : H p = none) : Same H (upd H p o) := fun b x e => by
  rw [upd_ne (ne_of_none e h)]
  exact e
theorem same_mut {H H' : Hp} {p : Addr} {o : HO} (s : Same H H') (h : H p = none) : Same H (upd H' p o) := fun b x e => by
  rw [upd_ne (ne_of_none e h)]
  exact s b x e
/-! ### the store -/
theorem atI_s0 (t : Sto) : atI (stV t) 0 = some (.ref t.l) := rfl
theorem atI_s1 (t : Sto) : atI (stV t) 1 = some (.int t.i) := rfl
theorem atI_s2 (t : Sto) : atI (stV t) 2 = some (.int t.c) := rfl
theorem atI_s3 (t : Sto) : atI (stV t) 3 = some (.int t.g) := rfl
theorem atI_s4 (t : Sto) : atI (stV t) 4 = some (.int t.seed) := rfl
theorem atI_s5 (t : Sto) : atI (stV t) 5 = some (.int t.j) := rfl
theorem wr_s {G : Hp} {s : Addr} {t : Sto} : Wr G s t s = some (.lst (stV t)) := upd_same
theorem wr_l {G : Hp} {s : Addr} {t : Sto} (ok : StOk G t) (hs : G s = none) : Wr G s t t.l = some (.lst (t.ns.map V.int)) := by
  unfold Wr
  rw [upd_ne (ne_of_none ok.at_ hs)]
  exact ok.at_
theorem wr_set {G : Hp} {s : Addr} {t t' : Sto} {v : V} {j : Nat} (h : (stV t).set j v = stV t') : upd (Wr G s t) s (.lst ((stV t).set j v)) = Wr G s t' := by
  unfold Wr
  rw [upd_upd, h]
theorem w_setE {H : Hp} {p : Addr} {xs : List V} {k : Int} {j : Nat} {v : V} {R : Hp → Prop} (h : H p = some (.lst xs)) (e : ixN xs.length k = some j) : rSetL (.ref p) (.int k) v H R = R (upd H p (.lst (xs.set j v))) := by
  refine propext ⟨fun ⟨p', xs', k', j', e1, e2, g, ge, q⟩ => ?_, fun q => ⟨p, xs, k, j, rfl, rfl, h, e, q⟩⟩
  cases e1
  cases e2
  rw [h] at g
  cases g
  rw [e] at ge
  cases ge
  exact q
theorem w_st1 {G : Hp} {s : Addr} {t : Sto} {a : Int} {R : Hp → Prop} : rSetL (.ref s) (.int 1) (.int a) (Wr G s t) R = R (Wr G s { t with i := a }) := by rw [w_setE wr_s (j := 1) rfl, wr_set (t' := { t with i := a }) rfl]
theorem w_st2 {G : Hp} {s : Addr} {t : Sto} {a : Int} {R : Hp → Prop} : rSetL (.ref s) (.int 2) (.int a) (Wr G s t) R = R (Wr G s { t with c := a }) := by rw [w_setE wr_s (j := 2) rfl, wr_set (t' := { t with c := a }) rfl]
theorem w_st3 {G : Hp} {s : Addr} {t : Sto} {a : Int} {R : Hp → Prop} : rSetL (.ref s) (.int 3) (.int a) (Wr G s t) R = R (Wr G s { t with g := a }) := by rw [w_setE wr_s (j := 3) rfl, wr_set (t' := { t with g := a }) rfl]
theorem w_st5 {G : Hp} {s : Addr} {t : Sto} {a : Int} {R : Hp → Prop} : rSetL (.ref s) (.int 5) (.int a) (Wr G s t) R = R (Wr G s { t with j := a }) := by rw [w_setE wr_s (j := 5) rfl, wr_set (t' := { t with j := a }) rfl]
end Mt


namespace Mt
open PySem PySem.Spec PyProof.Rows L2
structure Txt (K : PySem.W.Frag) (mg : Str → Option Value) : Prop where
  m_type : mg "type" = none
  m_int : mg "int" = none
  m_len : mg "len" = none
  m_list : mg "list" = none
  m_abs : mg "abs" = none
  m_range : mg "range" = none
abbrev s_is_whole : Stmt := topS 11
theorem sc_is_whole : FnScope ["value", "low", "high"] ["value", "low", "high"] (defScope s_is_whole) := ⟨rfl, rfl, rfl, by decide +kernel, rfl, by decide +kernel, by decide +kernel⟩

abbrev s_law_mixed : Stmt := topS 24
theorem sc_law_mixed : FnScope ["number", "turn", "first", "second"] ["number", "turn"] (defScope s_law_mixed) := ⟨rfl, rfl, rfl, by decide +kernel, rfl, by decide +kernel, by decide +kernel⟩

abbrev s_law_store : Stmt := topS 25
theorem sc_law_store : FnScope ["script", "seed", "cell"] ["script"] (defScope s_law_store) := ⟨rfl, rfl, rfl, by decide +kernel, rfl, by decide +kernel, by decide +kernel⟩

abbrev s_law_take : Stmt := topS 26
theorem sc_law_take : FnScope ["store", "many", "number"] ["store", "many"] (defScope s_law_take) := ⟨rfl, rfl, rfl, by decide +kernel, rfl, by decide +kernel, by decide +kernel⟩

abbrev s_law_edge : Stmt := topS 27
theorem sc_law_edge : FnScope ["store", "low", "high", "way"] ["store", "low", "high"] (defScope s_law_edge) := ⟨rfl, rfl, rfl, by decide +kernel, rfl, by decide +kernel, by decide +kernel⟩

abbrev s_law_pick : Stmt := topS 28
theorem sc_law_pick : FnScope ["store", "choices"] ["store", "choices"] (defScope s_law_pick) := ⟨rfl, rfl, rfl, by decide +kernel, rfl, by decide +kernel, by decide +kernel⟩

section
variable {P : Program} {w : World} {K : PySem.W.Frag} {mg : Str → Option Value} {base : Heap} {f : Addr} {fd : FuncData}
def wholeB : V → Int → Int → Bool
  | .int i, lo, hi => decide (lo ≤ i) && decide (i ≤ hi)
  | _, _, _ => false
def sp_is_whole : Sp := fun vs H Q _ => ∃ v lo hi n, vs = [v, .int lo, .int hi] ∧ zTyV v H = some n ∧ Q (.bl (wholeB v lo hi)) H
theorem ok_is_whole (F : Fun K "is_whole" "is_whole" s_is_whole f fd) (T : Txt K mg) : FnOk P w K mg base CX0 1 f fd ["value", "low", "high"] sp_is_whole := by
  refine F.ok sc_is_whole (fun vs H Q E h => ?_) (fun cdv A outer s H vs Q E hr h => ?_)
  · obtain ⟨v, lo, hi, n, rfl, _⟩ := h
    rfl
  · obtain ⟨v, lo, hi, n, rfl, ht, q⟩ := h
    refine ⟨_, (pss_one (ps_ret (pe_and (pe_cmpR op_isTyH (pe_typeOf (by rfl) T.m_type (pv 0)) (pe_bltn (v := .ty "int") (u := .type "int") (by rfl) T.m_int (by decide +kernel) rel_ty) (nomark _)) (pe_one (pe_chain op_le op_le (pv 1) (pv 0) (pv 2)))))), ?_⟩
    simp only [w_seq, w_next, w_ret, w_asg, w_ifs, w_drop, w_brk, w_cont, w_name, w_var, w_c, w_op, w_un, w_I, w_I0, w_U, w_eq, w_scII, w_scBB, w_scSS, w_scNN, w_zi, w_zb, w_zn, w_zs, V.int.injEq, V.bl.injEq, V.str.injEq, V.ref.injEq, w_ne, w_test, w_B, w_and, w_or, w_not, w_andV, w_orV, w_notV, w_if, w_isN, w_nil, w_cons, w_cb, w_call, w_tup, w_lst, w_sub, w_intI, w_intB, w_isTyH, w_typ, w_isH, w_ixH, w_lenH, w_absH, w_listH, w_strH, w_bm, w_chain, w_exB, w_exV, w_start, k_ii, k_ib, k_is, k_il, k_it, k_bi, k_bb, k_bs, k_bl, k_bt, k_ni, k_nb, k_ns, k_nl, k_nt, k_si, k_sb, k_ss, k_sl, k_st, k_li, k_lb, k_ls, k_ll, k_lt, k_ti, k_tb, k_ts, k_tl, k_tt, w_st1, w_st2, w_st3, w_st5, atI_s0, atI_s1, atI_s2, atI_s3, atI_s4, atI_s5, List.map_cons, List.map_nil, List.length_cons, List.length_nil, List.replicate, List.cons_append, List.nil_append, List.append_nil, List.getElem?_cons_zero, List.getElem?_cons_succ, List.set_cons_zero, List.set_cons_succ, Nat.sub_self, Nat.reduceAdd, Nat.reduceSub, List.replicate_zero, decide_eq_true_eq, Bool.true_eq_false, Bool.false_eq_true, if_true, if_false, reduceIte, Bool.not_eq_true', decide_eq_false_iff_not, Bool.not_true, Bool.not_false, exists_eq_left', true_and, and_true, Option.some.injEq, reduceCtorEq, decide_true, decide_false, not_true_eq_false, not_false_eq_true, sizeLine_eq, Nat.reduceLeDiff, Bool.or_false, Bool.or_true, Bool.false_or, Bool.true_or, wp1, wp2, w_par, w_par2, w_tsl, w_nopart, w_part, w_exI]
    refine ⟨n, ht, ?_⟩
    cases v with
    | int i =>
      cases ht
      simp only [w_I0, w_exB, decide_eq_true_eq, if_true, reduceIte]
      by_cases h : lo ≤ i
      · rw [if_pos h]
        have e : wholeB (.int i) lo hi = decide (i ≤ hi) := by
          show (decide (lo ≤ i) && decide (i ≤ hi)) = _
          rw [decide_eq_true h, Bool.true_and]
        rw [e] at q
        exact q
      · rw [if_neg h]
        have e : wholeB (.int i) lo hi = false := by
          show (decide (lo ≤ i) && decide (i ≤ hi)) = _
          rw [decide_eq_false h, Bool.false_and]
        rw [e] at q
        exact q
    | ref p =>
      have e : n ≠ "int" := fun z => by
        subst z
        simp only [zTyV] at ht
        split at ht
        · exact absurd ht (by decide)
        · exact absurd ht (by decide)
        · cases ht
      rw [if_neg e]
      exact q
    | ty m => cases ht
    | _ =>
      cases ht
      exact q
def sp_mixed : Sp := fun vs H Q _ => ∃ a b, vs = [.int a, .int b] ∧ ∀ r : Int, 0 ≤ r → Q (.int r) H
theorem ok_mixed (F : Fun K "_law_mixed" "_law_mixed" s_law_mixed f fd) (T : Txt K mg) : FnOk P w K mg base CX0 1 f fd ["number", "turn"] sp_mixed := by
  refine F.ok sc_law_mixed (fun vs H Q E h => ?_) (fun cdv A outer s H vs Q E hr h => ?_)
  · obtain ⟨a, b, rfl, _⟩ := h
    rfl
  · obtain ⟨a, b, rfl, q⟩ := h
    refine ⟨_, (pss_cons (ps_set (i := 2) sc_law_mixed.nd rfl (.inl rfl) (pe_op op_modN (pe_callTy call_intH (by rfl) T.m_int (by decide +kernel) (pa_cons (pe_op op_add (pe_op op_add (pe_op op_mul (pv 0) pe_int) (pe_op op_mul (pv 1) pe_int)) pe_int) pa_nil)) pe_int))
      (pss_cons (ps_set (i := 3) sc_law_mixed.nd rfl (.inl rfl) (pe_op op_modN (pe_callTy call_intH (by rfl) T.m_int (by decide +kernel) (pa_cons (pe_op op_add (pe_op op_add (pe_op op_mul (pv 2) (pv 2)) (pe_op op_fdivN (pv 2) pe_int)) (pv 1)) pa_nil)) pe_int))
      (pss_one (ps_ret (pe_op op_modN (pe_callTy call_intH (by rfl) T.m_int (by decide +kernel) (pa_cons (pe_op op_add (pe_op op_add (pe_op op_mul (pv 3) (pv 3)) (pe_op op_mul (pe_op op_fdivN (pv 3) pe_int) pe_int)) (pv 2)) pa_nil)) pe_int))))), ?_⟩
    simp only [w_seq, w_next, w_ret, w_asg, w_ifs, w_drop, w_brk, w_cont, w_name, w_var, w_c, w_op, w_un, w_I, w_I0, w_U, w_eq, w_scII, w_scBB, w_scSS, w_scNN, w_zi, w_zb, w_zn, w_zs, V.int.injEq, V.bl.injEq, V.str.injEq, V.ref.injEq, w_ne, w_test, w_B, w_and, w_or, w_not, w_andV, w_orV, w_notV, w_if, w_isN, w_nil, w_cons, w_cb, w_call, w_tup, w_lst, w_sub, w_intI, w_intB, w_isTyH, w_typ, w_isH, w_ixH, w_lenH, w_absH, w_listH, w_strH, w_bm, w_chain, w_exB, w_exV, w_start, k_ii, k_ib, k_is, k_il, k_it, k_bi, k_bb, k_bs, k_bl, k_bt, k_ni, k_nb, k_ns, k_nl, k_nt, k_si, k_sb, k_ss, k_sl, k_st, k_li, k_lb, k_ls, k_ll, k_lt, k_ti, k_tb, k_ts, k_tl, k_tt, w_st1, w_st2, w_st3, w_st5, atI_s0, atI_s1, atI_s2, atI_s3, atI_s4, atI_s5, List.map_cons, List.map_nil, List.length_cons, List.length_nil, List.replicate, List.cons_append, List.nil_append, List.append_nil, List.getElem?_cons_zero, List.getElem?_cons_succ, List.set_cons_zero, List.set_cons_succ, Nat.sub_self, Nat.reduceAdd, Nat.reduceSub, List.replicate_zero, decide_eq_true_eq, Bool.true_eq_false, Bool.false_eq_true, if_true, if_false, reduceIte, Bool.not_eq_true', decide_eq_false_iff_not, Bool.not_true, Bool.not_false, exists_eq_left', true_and, and_true, Option.some.injEq, reduceCtorEq, decide_true, decide_false, not_true_eq_false, not_false_eq_true, sizeLine_eq, Nat.reduceLeDiff, Bool.or_false, Bool.or_true, Bool.false_or, Bool.true_or, wp1, wp2, w_par, w_par2, w_tsl, w_nopart, w_part, w_exI]
    have h1 := fmod_pos (a := a * 2862933555777941757 + b * 3202034522624059733 + 1442695040888963407) (m := 2305843009213693951) (by decide)
    generalize (a * 2862933555777941757 + b * 3202034522624059733 + 1442695040888963407).fmod 2305843009213693951 = x at h1 ⊢
    refine ⟨cmul_r (by decide) (by decide), cmul_r (by decide) (by decide), by decide, cmul_l (by omega) (by omega), ⟨by decide, by decide⟩, by decide, ?_⟩
    have h2 := fmod_pos (a := x * x + x.fdiv 1000003 + b) (m := 1000000000000000003) (by decide)
    generalize (x * x + x.fdiv 1000003 + b).fmod 1000000000000000003 = y at h2 ⊢
    exact ⟨cmul_l (by omega) (by omega), ⟨by decide, by decide⟩, cmul_r (by decide) (by decide), by decide, q _ (fmod_pos (by decide)).1⟩
/-- a new store over the script -/
def sp_store (K : PySem.W.Frag) : Sp := fun vs H Q _ => ∃ (a : Addr) (ns : List Int), vs = [.ref a] ∧ SqL K H a (ns.map V.int) ∧ ns.length ≤ 63 ∧
  ∀ (G : Hp) (s : Addr) (t : Sto), Same H G → H s = none → G s = none → StOk G t → Q (.ref s) (Wr G s t)
theorem ok_store (F : Fun K "_law_store" "_law_store" s_law_store f fd) (T : Txt K mg) : FnOk P w K mg base CX0 1 f fd ["script"] (sp_store K) := by
  refine F.ok sc_law_store (fun vs H Q E h => ?_) (fun cdv A outer s H vs Q E hr h => ?_)
  · obtain ⟨a, ns, rfl, _⟩ := h
    rfl
  · obtain ⟨a, ns, rfl, hL, hn, q⟩ := h
    refine ⟨_, (pss_cons (ps_set (i := 1) sc_law_store.nd rfl (.inl rfl) (pe_op op_add (pe_callB call_len_seq (by rfl) T.m_len (by decide +kernel) (pa_cons (pv 0) pa_nil)) pe_int))
      (pss_cons (ps_for PassesOwn.never rfl (pi_list (pv 0)) (pg_name (i := 2) sc_law_store.nd rfl (.inl rfl)) (pss_one (ps_set (i := 1) sc_law_store.nd rfl (.inl rfl) (pe_op op_modN (pe_callTy call_intH (by rfl) T.m_int (by decide +kernel) (pa_cons (pe_op op_add (pe_op op_mul (pv 1) pe_int) (pv 2)) pa_nil)) pe_int))))
      (pss_one (ps_ret (pe_lst (pa_cons (pe_callTy call_list_of (by rfl) T.m_list (by decide +kernel) (pa_cons (pv 0) pa_nil)) (pa_cons pe_int (pa_cons pe_int (pa_cons pe_int (pa_cons (pv 1) (pa_cons pe_int pa_nil))))))))))), ?_⟩
    simp only [w_seq, w_next, w_ret, w_asg, w_ifs, w_drop, w_brk, w_cont, w_name, w_var, w_c, w_op, w_un, w_I, w_I0, w_U, w_eq, w_scII, w_scBB, w_scSS, w_scNN, w_zi, w_zb, w_zn, w_zs, V.int.injEq, V.bl.injEq, V.str.injEq, V.ref.injEq, w_ne, w_test, w_B, w_and, w_or, w_not, w_andV, w_orV, w_notV, w_if, w_isN, w_nil, w_cons, w_cb, w_call, w_tup, w_lst, w_sub, w_intI, w_intB, w_isTyH, w_typ, w_isH, w_ixH, w_lenH, w_absH, w_listH, w_strH, w_bm, w_chain, w_exB, w_exV, w_start, k_ii, k_ib, k_is, k_il, k_it, k_bi, k_bb, k_bs, k_bl, k_bt, k_ni, k_nb, k_ns, k_nl, k_nt, k_si, k_sb, k_ss, k_sl, k_st, k_li, k_lb, k_ls, k_ll, k_lt, k_ti, k_tb, k_ts, k_tl, k_tt, w_st1, w_st2, w_st3, w_st5, atI_s0, atI_s1, atI_s2, atI_s3, atI_s4, atI_s5, List.map_cons, List.map_nil, List.length_cons, List.length_nil, List.replicate, List.cons_append, List.nil_append, List.append_nil, List.getElem?_cons_zero, List.getElem?_cons_succ, List.set_cons_zero, List.set_cons_succ, Nat.sub_self, Nat.reduceAdd, Nat.reduceSub, List.replicate_zero, decide_eq_true_eq, Bool.true_eq_false, Bool.false_eq_true, if_true, if_false, reduceIte, Bool.not_eq_true', decide_eq_false_iff_not, Bool.not_true, Bool.not_false, exists_eq_left', true_and, and_true, Option.some.injEq, reduceCtorEq, decide_true, decide_false, not_true_eq_false, not_false_eq_true, sizeLine_eq, Nat.reduceLeDiff, Bool.or_false, Bool.or_true, Bool.false_or, Bool.true_or, wp1, wp2, w_par, w_par2, w_tsl, w_nopart, w_part, w_exI]
    refine ⟨a, _, rfl, Or.inl hL, ?_⟩
    refine ⟨_, rfl, a, rfl, ⟨_, hL⟩, for_list (K := K) (a := a) (xs := ns.map V.int) (fun i σ H' => ∃ (x : Int) (y : Option V), σ = [some (.ref a), some (.int x), y] ∧ H' = H) ⟨_, _, rfl, rfl⟩ (fun i σ H' _ ⟨_, _, _, e⟩ => by rw [e]; exact hL) ?_ ?_⟩
    · rintro i y σ H' hi ⟨x, y', rfl, rfl⟩
      obtain ⟨z, _, rfl⟩ := ints_at hi
      simp only [w_seq, w_next, w_ret, w_asg, w_ifs, w_drop, w_brk, w_cont, w_name, w_var, w_c, w_op, w_un, w_I, w_I0, w_U, w_eq, w_scII, w_scBB, w_scSS, w_scNN, w_zi, w_zb, w_zn, w_zs, V.int.injEq, V.bl.injEq, V.str.injEq, V.ref.injEq, w_ne, w_test, w_B, w_and, w_or, w_not, w_andV, w_orV, w_notV, w_if, w_isN, w_nil, w_cons, w_cb, w_call, w_tup, w_lst, w_sub, w_intI, w_intB, w_isTyH, w_typ, w_isH, w_ixH, w_lenH, w_absH, w_listH, w_strH, w_bm, w_chain, w_exB, w_exV, w_start, k_ii, k_ib, k_is, k_il, k_it, k_bi, k_bb, k_bs, k_bl, k_bt, k_ni, k_nb, k_ns, k_nl, k_nt, k_si, k_sb, k_ss, k_sl, k_st, k_li, k_lb, k_ls, k_ll, k_lt, k_ti, k_tb, k_ts, k_tl, k_tt, w_st1, w_st2, w_st3, w_st5, atI_s0, atI_s1, atI_s2, atI_s3, atI_s4, atI_s5, List.map_cons, List.map_nil, List.length_cons, List.length_nil, List.replicate, List.cons_append, List.nil_append, List.append_nil, List.getElem?_cons_zero, List.getElem?_cons_succ, List.set_cons_zero, List.set_cons_succ, Nat.sub_self, Nat.reduceAdd, Nat.reduceSub, List.replicate_zero, decide_eq_true_eq, Bool.true_eq_false, Bool.false_eq_true, if_true, if_false, reduceIte, Bool.not_eq_true', decide_eq_false_iff_not, Bool.not_true, Bool.not_false, exists_eq_left', true_and, and_true, Option.some.injEq, reduceCtorEq, decide_true, decide_false, not_true_eq_false, not_false_eq_true, sizeLine_eq, Nat.reduceLeDiff, Bool.or_false, Bool.or_true, Bool.false_or, Bool.true_or, wp1, wp2, w_par, w_par2, w_tsl, w_nopart, w_part, w_exI]
      exact ⟨cmul_r (by decide) (by decide), by decide, _, _, rfl⟩
    · rintro σ H' ⟨x, y, rfl, rfl⟩
      simp only [w_seq, w_next, w_ret, w_asg, w_ifs, w_drop, w_brk, w_cont, w_name, w_var, w_c, w_op, w_un, w_I, w_I0, w_U, w_eq, w_scII, w_scBB, w_scSS, w_scNN, w_zi, w_zb, w_zn, w_zs, V.int.injEq, V.bl.injEq, V.str.injEq, V.ref.injEq, w_ne, w_test, w_B, w_and, w_or, w_not, w_andV, w_orV, w_notV, w_if, w_isN, w_nil, w_cons, w_cb, w_call, w_tup, w_lst, w_sub, w_intI, w_intB, w_isTyH, w_typ, w_isH, w_ixH, w_lenH, w_absH, w_listH, w_strH, w_bm, w_chain, w_exB, w_exV, w_start, k_ii, k_ib, k_is, k_il, k_it, k_bi, k_bb, k_bs, k_bl, k_bt, k_ni, k_nb, k_ns, k_nl, k_nt, k_si, k_sb, k_ss, k_sl, k_st, k_li, k_lb, k_ls, k_ll, k_lt, k_ti, k_tb, k_ts, k_tl, k_tt, w_st1, w_st2, w_st3, w_st5, atI_s0, atI_s1, atI_s2, atI_s3, atI_s4, atI_s5, List.map_cons, List.map_nil, List.length_cons, List.length_nil, List.replicate, List.cons_append, List.nil_append, List.append_nil, List.getElem?_cons_zero, List.getElem?_cons_succ, List.set_cons_zero, List.set_cons_succ, Nat.sub_self, Nat.reduceAdd, Nat.reduceSub, List.replicate_zero, decide_eq_true_eq, Bool.true_eq_false, Bool.false_eq_true, if_true, if_false, reduceIte, Bool.not_eq_true', decide_eq_false_iff_not, Bool.not_true, Bool.not_false, exists_eq_left', true_and, and_true, Option.some.injEq, reduceCtorEq, decide_true, decide_false, not_true_eq_false, not_false_eq_true, sizeLine_eq, Nat.reduceLeDiff, Bool.or_false, Bool.or_true, Bool.false_or, Bool.true_or, wp1, wp2, w_par, w_par2, w_tsl, w_nopart, w_part, w_exI]
      refine ⟨a, _, rfl, Or.inl hL, fun l hl p hp => ?_⟩
      have hlp : l ≠ p := fun e => by
        rw [e, upd_same] at hp
        cases hp
      have hp' : H' p = none := by
        rw [upd_ne (fun e => hlp e.symm)] at hp
        exact hp
      exact q (upd H' l (.lst (ns.map V.int))) p ⟨l, ns, 0, 0, 0, x, 0⟩ (same_new hl) hp' hp ⟨upd_same, Int.le_refl 0, Int.natCast_nonneg _, Int.le_refl 0, fun z => absurd z (Int.lt_irrefl 0)⟩
/-- a drawn number below many -/
def sp_take : Sp := fun vs H Q _ => ∃ (G : Hp) (s : Addr) (t : Sto) (m : Int), vs = [.ref s, .int m] ∧ H = Wr G s t ∧ G s = none ∧ StOk G t ∧ m < 1073741824 ∧
  ∀ (r : Int) (t' : Sto), StOk G t' → 0 ≤ r → (r < m ∨ (m < 2 ∧ r = 0)) → Q (.int r) (Wr G s t')
theorem atI_ns {ns : List Int} {i : Int} (h0 : 0 ≤ i) (h1 : i < ns.length) : ∃ z, atI (ns.map V.int) i = some (.int z) := by
  have h2 : i.toNat < (ns.map V.int).length := by
    rw [List.length_map]
    omega
  obtain ⟨j, rfl⟩ : ∃ j : Nat, i = (j : Int) := ⟨i.toNat, by omega⟩
  refine ⟨ns[j]'(by omega), atI_nat ?_⟩
  rw [List.getElem?_map, List.getElem?_eq_getElem (by omega)]
  rfl
theorem w_mixed {a b : Int} {H : Hp} {Q : VK} {E : XK} : sp_mixed [.int a, .int b] H Q E = ∀ r : Int, 0 ≤ r → Q (.int r) H := by
  refine propext ⟨fun ⟨a', b', e, q⟩ => ?_, fun q => ⟨a, b, rfl, q⟩⟩
  cases e
  exact q
theorem ok_take (F : Fun K "_law_take" "_law_take" s_law_take f fd) (T : Txt K mg) (C_law_mixed : Cal P w K mg base "_law_mixed" 1 ["number", "turn"] sp_mixed) : FnOk P w K mg base CX0 2 f fd ["store", "many"] sp_take := by
  refine F.ok sc_law_take (fun vs H Q E h => ?_) (fun cdv A outer s H vs Q E hr h => ?_)
  · obtain ⟨G, s, t, m, rfl, _⟩ := h
    rfl
  · obtain ⟨G, st, t, m, rfl, rfl, hs, ok, hm, q⟩ := h
    refine ⟨_, (pss_cons (ps_if (pt_cmpR op_lt (pv 1) pe_int (nomark _)) (pss_one (ps_ret pe_int)) pss_nil)
      (pss_cons (ps_if (pt_cmpR op_gt (pe_ix ix_H (pv 0) pe_int (fun _ _ => rfl)) pe_int (nomark _)) (pss_cons (ps_set (i := 2) sc_law_take.nd rfl (.inl rfl) (pe_ix ix_H (pv 0) pe_int (fun _ _ => rfl)))
      (pss_cons (ps_asg (pe_op op_fdivN (pv 2) (pv 1)) (pg_sub (pv 0) pe_int set_list))
      (pss_one (ps_ret (pe_op op_modN (pe_callTy call_intH (by rfl) T.m_int (by decide +kernel) (pa_cons (pv 2) pa_nil)) (pv 1)))))) pss_nil)
      (pss_cons (ps_if (PW.pt (pw_and (pt_cmpR op_eq (pe_ix ix_H (pv 0) pe_int (fun _ _ => rfl)) pe_int (nomark _)) (pw_and1 (pt_cmpR op_lt (pe_ix ix_H (pv 0) pe_int (fun _ _ => rfl)) (pe_callB call_lenH (by rfl) T.m_len (by decide +kernel) (pa_cons (pe_ix ix_H (pv 0) pe_int (fun _ _ => rfl)) pa_nil)) (nomark _))))) (pss_cons (ps_set (i := 2) sc_law_take.nd rfl (.inl rfl) (pe_callB call_absH (by rfl) T.m_abs (by decide +kernel) (pa_cons (pe_ix ix_H (pe_ix ix_H (pv 0) pe_int (fun _ _ => rfl)) (pe_ix ix_H (pv 0) pe_int (fun _ _ => rfl)) (fun _ _ => rfl)) pa_nil)))
      (pss_cons (ps_asg (pe_op op_add (pe_ix ix_H (pv 0) pe_int (fun _ _ => rfl)) pe_int) (pg_sub (pv 0) pe_int set_list))
      (pss_cons (ps_if (pt_cmpR op_ge (pv 2) (pe_op op_pow pe_int pe_int) (nomark _)) (pss_cons (ps_asg (pe_op op_fdivN (pv 2) (pv 1)) (pg_sub (pv 0) pe_int set_list))
      (pss_one (ps_ret (pe_op op_modN (pe_callTy call_intH (by rfl) T.m_int (by decide +kernel) (pa_cons (pv 2) pa_nil)) (pv 1))))) pss_nil)
      (pss_one (ps_asg pe_int (pg_sub (pv 0) pe_int set_list)))))) pss_nil)
      (pss_cons (ps_if (pt_cmpR op_gt (pe_ix ix_H (pv 0) pe_int (fun _ _ => rfl)) pe_int (nomark _)) (pss_cons (ps_asg (pe_op op_sub (pe_ix ix_H (pv 0) pe_int (fun _ _ => rfl)) pe_int) (pg_sub (pv 0) pe_int set_list))
      (pss_one (ps_ret (pe_op op_modN (pe_callTy call_intH (by rfl) T.m_int (by decide +kernel) (pa_cons (p_call C_law_mixed hr (pa_cons (pe_op op_add (pe_op op_mul (pe_ix ix_H (pe_ix ix_H (pv 0) pe_int (fun _ _ => rfl)) (pe_op op_sub (pe_ix ix_H (pv 0) pe_int (fun _ _ => rfl)) pe_int) (fun _ _ => rfl)) pe_int) (pe_ix ix_H (pv 0) pe_int (fun _ _ => rfl))) (pa_cons (pe_ix ix_H (pv 0) pe_int (fun _ _ => rfl)) pa_nil))) pa_nil)) (pv 1))))) pss_nil)
      (pss_cons (ps_asg (pe_op op_add (pe_ix ix_H (pv 0) pe_int (fun _ _ => rfl)) pe_int) (pg_sub (pv 0) pe_int set_list))
      (pss_one (ps_ret (pe_op op_modN (pe_callTy call_intH (by rfl) T.m_int (by decide +kernel) (pa_cons (p_call C_law_mixed hr (pa_cons (pe_ix ix_H (pv 0) pe_int (fun _ _ => rfl)) (pa_cons (pe_op op_add pe_int (pe_ix ix_H (pv 0) pe_int (fun _ _ => rfl))) pa_nil))) pa_nil)) (pv 1))))))))), ?_⟩
    have hS : ∀ t, seqAt (Wr G st t) st = some (stV t) := fun t => seqAt_l wr_s
    have hL : ∀ i c g e j : Int, seqAt (Wr G st ⟨t.l, t.ns, i, c, g, e, j⟩) t.l = some (t.ns.map V.int) := fun i c g e j => seqAt_l (by
      show upd G st _ t.l = _
      rw [upd_ne (ne_of_none ok.at_ hs)]
      exact ok.at_)
    have hL0 : seqAt (Wr G st t) t.l = some (t.ns.map V.int) := hL t.i t.c t.g t.seed t.j
    have hm0 : ∀ x : Int, ¬ m < 2 → 0 ≤ x.fmod m ∧ x.fmod m < m := fun x h => fmod_pos (by omega)
    have cd : ∀ x : Int, ¬ m < 2 → CDivN x m := fun x h => ⟨by omega, by omega⟩
    have mk : ∀ i c g e j : Int, 0 ≤ i → i ≤ t.ns.length → 0 ≤ g → (0 < g → 1 ≤ i) → StOk G ⟨t.l, t.ns, i, c, g, e, j⟩ := fun i c g e j h1 h2 h3 h4 => ⟨ok.at_, h1, h2, h3, h4⟩
    have i0 := ok.i0
    have il := ok.il
    have g0 := ok.g0
    have gi := ok.gi
    have pw : (10 : Int) ^ Int.toNat 18 = 1000000000000000000 := by decide
    have cp : CPow 10 18 := ⟨by decide, by decide, by decide⟩
    simp only [w_seq, w_next, w_ret, w_asg, w_ifs, w_drop, w_brk, w_cont, w_name, w_var, w_c, w_op, w_un, w_I, w_I0, w_U, w_eq, w_scII, w_scBB, w_scSS, w_scNN, w_zi, w_zb, w_zn, w_zs, V.int.injEq, V.bl.injEq, V.str.injEq, V.ref.injEq, w_ne, w_test, w_B, w_and, w_or, w_not, w_andV, w_orV, w_notV, w_if, w_isN, w_nil, w_cons, w_cb, w_call, w_tup, w_lst, w_sub, w_intI, w_intB, w_isTyH, w_typ, w_isH, w_ixH, w_lenH, w_absH, w_listH, w_strH, w_bm, w_chain, w_exB, w_exV, w_start, k_ii, k_ib, k_is, k_il, k_it, k_bi, k_bb, k_bs, k_bl, k_bt, k_ni, k_nb, k_ns, k_nl, k_nt, k_si, k_sb, k_ss, k_sl, k_st, k_li, k_lb, k_ls, k_ll, k_lt, k_ti, k_tb, k_ts, k_tl, k_tt, w_st1, w_st2, w_st3, w_st5, atI_s0, atI_s1, atI_s2, atI_s3, atI_s4, atI_s5, List.map_cons, List.map_nil, List.length_cons, List.length_nil, List.replicate, List.cons_append, List.nil_append, List.append_nil, List.getElem?_cons_zero, List.getElem?_cons_succ, List.set_cons_zero, List.set_cons_succ, Nat.sub_self, Nat.reduceAdd, Nat.reduceSub, List.replicate_zero, decide_eq_true_eq, Bool.true_eq_false, Bool.false_eq_true, if_true, if_false, reduceIte, Bool.not_eq_true', decide_eq_false_iff_not, Bool.not_true, Bool.not_false, exists_eq_left', true_and, and_true, Option.some.injEq, reduceCtorEq, decide_true, decide_false, not_true_eq_false, not_false_eq_true, sizeLine_eq, Nat.reduceLeDiff, Bool.or_false, Bool.or_true, Bool.false_or, Bool.true_or, wp1, wp2, w_par, w_par2, w_tsl, w_nopart, w_part, w_exI, hS, hL, hL0, w_mixed, List.length_map, pw]
    refine ite2 (fun h => q 0 t ok (Int.le_refl 0) (Or.inr ⟨h, rfl⟩)) (fun hm2 => ?_)
    have m0 : m ≠ 0 := by omega
    -- a mixed number of the last cell
    have again : ∀ i g : Int, 1 ≤ i → i ≤ t.ns.length → 0 < g → ∃ v, atI (t.ns.map V.int) (i - 1) = some v ∧ rI CMul (fun i j => V.int (i * j)) v (V.int 1000) (Wr G st ⟨t.l, t.ns, i, t.c, g - 1, t.seed, t.j⟩) fun x H1 =>
        ∃ xs, seqAt H1 st = some xs ∧ ∃ v, atI xs 1 = some v ∧ rI0 (fun i j => V.int (i + j)) x v H1 fun x H1 => ∃ xs, seqAt H1 st = some xs ∧ ∃ v, atI xs 3 = some v ∧
          sp_mixed [x, v] H1 (fun x H1 => rInt1 [x] H1 fun x H1 => rI (fun x j => j ≠ 0) (fun i j => V.int (i.fmod j)) x (V.int m) H1 Q) E0 := fun i g h1 h2 h3 => by
      obtain ⟨z, hz⟩ := atI_ns (ns := t.ns) (i := i - 1) (by omega) (by omega)
      refine ⟨_, hz, ?_⟩
      simp only [w_seq, w_next, w_ret, w_asg, w_ifs, w_drop, w_brk, w_cont, w_name, w_var, w_c, w_op, w_un, w_I, w_I0, w_U, w_eq, w_scII, w_scBB, w_scSS, w_scNN, w_zi, w_zb, w_zn, w_zs, V.int.injEq, V.bl.injEq, V.str.injEq, V.ref.injEq, w_ne, w_test, w_B, w_and, w_or, w_not, w_andV, w_orV, w_notV, w_if, w_isN, w_nil, w_cons, w_cb, w_call, w_tup, w_lst, w_sub, w_intI, w_intB, w_isTyH, w_typ, w_isH, w_ixH, w_lenH, w_absH, w_listH, w_strH, w_bm, w_chain, w_exB, w_exV, w_start, k_ii, k_ib, k_is, k_il, k_it, k_bi, k_bb, k_bs, k_bl, k_bt, k_ni, k_nb, k_ns, k_nl, k_nt, k_si, k_sb, k_ss, k_sl, k_st, k_li, k_lb, k_ls, k_ll, k_lt, k_ti, k_tb, k_ts, k_tl, k_tt, w_st1, w_st2, w_st3, w_st5, atI_s0, atI_s1, atI_s2, atI_s3, atI_s4, atI_s5, List.map_cons, List.map_nil, List.length_cons, List.length_nil, List.replicate, List.cons_append, List.nil_append, List.append_nil, List.getElem?_cons_zero, List.getElem?_cons_succ, List.set_cons_zero, List.set_cons_succ, Nat.sub_self, Nat.reduceAdd, Nat.reduceSub, List.replicate_zero, decide_eq_true_eq, Bool.true_eq_false, Bool.false_eq_true, if_true, if_false, reduceIte, Bool.not_eq_true', decide_eq_false_iff_not, Bool.not_true, Bool.not_false, exists_eq_left', true_and, and_true, Option.some.injEq, reduceCtorEq, decide_true, decide_false, not_true_eq_false, not_false_eq_true, sizeLine_eq, Nat.reduceLeDiff, Bool.or_false, Bool.or_true, Bool.false_or, Bool.true_or, wp1, wp2, w_par, w_par2, w_tsl, w_nopart, w_part, w_exI, hS, w_mixed]
      exact ⟨cmul_r (by decide) (by decide), fun r _ => ⟨m0, q _ _ (mk _ _ _ _ _ (by omega) h2 (by omega) (fun _ => h1)) (hm0 r hm2).1 (Or.inl (hm0 r hm2).2)⟩⟩
    refine ite2 (fun h => ⟨cd _ hm2, m0, q _ _ (mk _ _ _ _ _ i0 il g0 gi) (hm0 t.c hm2).1 (Or.inl (hm0 t.c hm2).2)⟩) (fun _ => ?_)
    have last : ∀ r : Int, 0 ≤ r → m ≠ 0 ∧ Q (.int (r.fmod m)) (Wr G st ⟨t.l, t.ns, t.i, t.c, t.g, t.seed, t.j + 1⟩) := fun r _ => ⟨m0, q _ _ (mk _ _ _ _ _ i0 il g0 gi) (hm0 r hm2).1 (Or.inl (hm0 r hm2).2)⟩
    refine ite2 (fun hg => ?_) (fun hg => ite2 (fun h => again t.i t.g (gi h) il h) (fun _ => last))
    refine ite2 (fun hi => ?_) (fun _ => ite2 (fun h => again t.i t.g (gi h) il h) (fun _ => last))
    obtain ⟨z, hz⟩ := atI_ns (ns := t.ns) i0 hi
    refine ⟨_, hz, ?_⟩
    simp only [w_seq, w_next, w_ret, w_asg, w_ifs, w_drop, w_brk, w_cont, w_name, w_var, w_c, w_op, w_un, w_I, w_I0, w_U, w_eq, w_scII, w_scBB, w_scSS, w_scNN, w_zi, w_zb, w_zn, w_zs, V.int.injEq, V.bl.injEq, V.str.injEq, V.ref.injEq, w_ne, w_test, w_B, w_and, w_or, w_not, w_andV, w_orV, w_notV, w_if, w_isN, w_nil, w_cons, w_cb, w_call, w_tup, w_lst, w_sub, w_intI, w_intB, w_isTyH, w_typ, w_isH, w_ixH, w_lenH, w_absH, w_listH, w_strH, w_bm, w_chain, w_exB, w_exV, w_start, k_ii, k_ib, k_is, k_il, k_it, k_bi, k_bb, k_bs, k_bl, k_bt, k_ni, k_nb, k_ns, k_nl, k_nt, k_si, k_sb, k_ss, k_sl, k_st, k_li, k_lb, k_ls, k_ll, k_lt, k_ti, k_tb, k_ts, k_tl, k_tt, w_st1, w_st2, w_st3, w_st5, atI_s0, atI_s1, atI_s2, atI_s3, atI_s4, atI_s5, List.map_cons, List.map_nil, List.length_cons, List.length_nil, List.replicate, List.cons_append, List.nil_append, List.append_nil, List.getElem?_cons_zero, List.getElem?_cons_succ, List.set_cons_zero, List.set_cons_succ, Nat.sub_self, Nat.reduceAdd, Nat.reduceSub, List.replicate_zero, decide_eq_true_eq, Bool.true_eq_false, Bool.false_eq_true, if_true, if_false, reduceIte, Bool.not_eq_true', decide_eq_false_iff_not, Bool.not_true, Bool.not_false, exists_eq_left', true_and, and_true, Option.some.injEq, reduceCtorEq, decide_true, decide_false, not_true_eq_false, not_false_eq_true, sizeLine_eq, Nat.reduceLeDiff, Bool.or_false, Bool.or_true, Bool.false_or, Bool.true_or, wp1, wp2, w_par, w_par2, w_tsl, w_nopart, w_part, w_exI, hS, hL, w_mixed, pw]
    refine ⟨cp, ite2 (fun h => ⟨cd _ hm2, m0, q _ _ (mk _ _ _ _ _ (by omega) (by omega) g0 (fun _ => by omega)) (hm0 _ hm2).1 (Or.inl (hm0 _ hm2).2)⟩) (fun _ => ?_)⟩
    exact again (t.i + 1) 4 (by omega) (by omega) (by decide)
end
end Mt


namespace Mt
open PySem PySem.Spec PyProof.Rows L2
/-! ### plain data, and how it lies in the heap: the lists' places in order -/
inductive D where
  | non | bl (b : Bool) | int (i : Int) | str (x : Str) | lst (ds : List D) | tup (ds : List D)
mutual
def dep : D → Nat
  | .lst ds => deps ds + 1
  | .tup ds => deps ds + 1
  | _ => 0
def deps : List D → Nat
  | [] => 0
  | d :: ds => max (dep d) (deps ds)
end
mutual
def Rep (H : Hp) : D → V → List Addr → Prop
  | .non, v, as => v = .non ∧ as = []
  | .bl b, v, as => v = .bl b ∧ as = []
  | .int i, v, as => v = .int i ∧ as = []
  | .str x, v, as => v = .str x ∧ as = []
  | .lst ds, v, as => ∃ a vs bs, v = .ref a ∧ H a = some (.lst vs) ∧ Reps H ds vs bs ∧ as = a :: bs ∧ ds.length < 1000000
  | .tup ds, v, as => ∃ a vs bs, v = .ref a ∧ H a = some (.tup vs) ∧ Reps H ds vs bs ∧ as = bs ∧ ds.length < 1000000
def Reps (H : Hp) : List D → List V → List Addr → Prop
  | [], vs, as => vs = [] ∧ as = []
  | d :: ds, vs, as => ∃ v r bs cs, vs = v :: r ∧ Rep H d v bs ∧ Reps H ds r cs ∧ as = bs ++ cs
end
mutual
theorem rep_mono {H H' : Hp} (ht : ∀ a xs, H a = some (.tup xs) → H' a = some (.tup xs)) : ∀ (d : D) (v : V) (as : List Addr), Rep H d v as → (∀ a ∈ as, ∀ xs, H a = some (.lst xs) → H' a = some (.lst xs)) → Rep H' d v as
  | .non, v, as, h, _ => by simpa only [Rep] using h
  | .bl b, v, as, h, _ => by simpa only [Rep] using h
  | .int i, v, as, h, _ => by simpa only [Rep] using h
  | .str x, v, as, h, _ => by simpa only [Rep] using h
  | .lst ds, v, as, h, hl => by
    simp only [Rep] at h ⊢
    obtain ⟨a, vs, bs, e1, e2, e3, e4, e5⟩ := h
    subst e4
    exact ⟨a, vs, bs, e1, hl a (List.mem_cons_self ..) _ e2, reps_mono ht ds vs bs e3 fun b hb => hl b (List.mem_cons_of_mem _ hb), rfl, e5⟩
  | .tup ds, v, as, h, hl => by
    simp only [Rep] at h ⊢
    obtain ⟨a, vs, bs, e1, e2, e3, e4, e5⟩ := h
    subst e4
    exact ⟨a, vs, as, e1, ht _ _ e2, reps_mono ht ds vs as e3 hl, rfl, e5⟩
theorem reps_mono {H H' : Hp} (ht : ∀ a xs, H a = some (.tup xs) → H' a = some (.tup xs)) : ∀ (ds : List D) (vs : List V) (as : List Addr), Reps H ds vs as → (∀ a ∈ as, ∀ xs, H a = some (.lst xs) → H' a = some (.lst xs)) → Reps H' ds vs as
  | [], vs, as, h, _ => by simpa only [Reps] using h
  | d :: ds, vs, as, h, hl => by
    simp only [Reps] at h ⊢
    obtain ⟨v, r, bs, cs, e1, e2, e3, e4⟩ := h
    subst e4
    exact ⟨v, r, bs, cs, e1, rep_mono ht d v bs e2 fun a ha => hl a (List.mem_append_left _ ha), reps_mono ht ds r cs e3 fun a ha => hl a (List.mem_append_right _ ha), rfl⟩
end
theorem rep_same {H H' : Hp} (s : Same H H') {d : D} {v : V} {as : List Addr} (h : Rep H d v as) : Rep H' d v as := rep_mono (fun _ _ e => s _ _ e) d v as h fun _ _ _ e => s _ _ e
theorem reps_same {H H' : Hp} (s : Same H H') {ds : List D} {vs : List V} {as : List Addr} (h : Reps H ds vs as) : Reps H' ds vs as := reps_mono (fun _ _ e => s _ _ e) ds vs as h fun _ _ _ e => s _ _ e
theorem reps_len {H : Hp} : ∀ {ds : List D} {vs : List V} {as : List Addr}, Reps H ds vs as → vs.length = ds.length
  | [], vs, as, h => by
    simp only [Reps] at h
    rw [h.1]
    rfl
  | d :: ds, vs, as, h => by
    simp only [Reps] at h
    obtain ⟨v, r, bs, cs, e1, e2, e3, e4⟩ := h
    rw [e1, List.length_cons, List.length_cons, reps_len e3]
theorem reps_at {H : Hp} : ∀ {ds : List D} {vs : List V} {as : List Addr} {i : Nat} {d : D}, Reps H ds vs as → ds[i]? = some d → ∃ v bs, vs[i]? = some v ∧ Rep H d v bs
  | [], vs, as, i, d, h, e => by simp at e
  | d0 :: ds, vs, as, 0, d, h, e => by
    simp only [Reps] at h
    obtain ⟨v, r, bs, cs, e1, e2, e3, e4⟩ := h
    have e' : d0 = d := Option.some.inj e
    subst e' e1
    exact ⟨v, bs, rfl, e2⟩
  | d0 :: ds, vs, as, i + 1, d, h, e => by
    simp only [Reps] at h
    obtain ⟨v, r, bs, cs, e1, e2, e3, e4⟩ := h
    subst e1
    exact reps_at (i := i) e3 e
theorem deps_at : ∀ {ds : List D} {i : Nat} {d : D}, ds[i]? = some d → dep d ≤ deps ds
  | [], i, d, e => by simp at e
  | d0 :: ds, 0, d, e => by
    have e' : d0 = d := Option.some.inj e
    subst e'
    simp only [deps]
    exact Nat.le_max_left _ _
  | d0 :: ds, i + 1, d, e => by
    have := deps_at (ds := ds) (i := i) (d := d) e
    simp only [deps]
    omega
theorem rep_ty {H : Hp} {d : D} {v : V} {as : List Addr} (h : Rep H d v as) : ∃ n, zTyV v H = some n := by
  cases d with
  | non => simp only [Rep] at h; rw [h.1]; exact ⟨_, rfl⟩
  | bl b => simp only [Rep] at h; rw [h.1]; exact ⟨_, rfl⟩
  | int b => simp only [Rep] at h; rw [h.1]; exact ⟨_, rfl⟩
  | str b => simp only [Rep] at h; rw [h.1]; exact ⟨_, rfl⟩
  | lst ds =>
    simp only [Rep] at h
    obtain ⟨a, vs, bs, e1, e2, _⟩ := h
    rw [e1]
    exact ⟨_, w_zl e2⟩
  | tup ds =>
    simp only [Rep] at h
    obtain ⟨a, vs, bs, e1, e2, _⟩ := h
    rw [e1]
    exact ⟨_, w_zt e2⟩
structure Txt3 (K : PySem.W.Frag) (mg : Str → Option Value) : Prop extends Txt K mg where
  m_isinstance : mg "isinstance" = none
  m_bool : mg "bool" = none
  m_str : mg "str" = none
  m_tuple : mg "tuple" = none
abbrev s_law_same : Stmt := topS 29
theorem sc_law_same : FnScope ["left", "right", "k"] ["left", "right"] (defScope s_law_same) := ⟨rfl, rfl, rfl, by decide +kernel, rfl, by decide +kernel, by decide +kernel⟩

section
variable {P : Program} {w : World} {K : PySem.W.Frag} {mg : Str → Option Value} {base : Heap} {f : Addr} {fd : FuncData}
/-- two values of the same data are the same -/
def sp_same (n : Nat) : Sp := fun vs H Q _ => ∃ (d : D) (x y : V) (as bs : List Addr), vs = [x, y] ∧ dep d ≤ n ∧ Rep H d x as ∧ Rep H d y bs ∧ ∀ H', Same H H' → Q (.bl true) H'
theorem ok_same_step (F : Fun K "_law_same" "_law_same" s_law_same f fd) (T : Txt3 K mg) (k n : Nat) (C_law_same : Cal P w K mg base "_law_same" k ["left", "right"] (fun vs H Q _ => ∃ (d : D) (x y : V) (as bs : List Addr), vs = [x, y] ∧ dep d < n ∧ Rep H d x as ∧ Rep H d y bs ∧ ∀ H', Same H H' → Q (.bl true) H')) :
    FnOk P w K mg base CX0 (k + 1) f fd ["left", "right"] (sp_same n) := by
  refine F.ok sc_law_same (fun vs H Q E h => ?_) (fun cdv A outer s H vs Q E hr h => ?_)
  · obtain ⟨d, x, y, as, bs, rfl, _⟩ := h
    rfl
  · obtain ⟨d, x, y, as, bs, rfl, hd, hx, hy, q⟩ := h
    refine ⟨_, (pss_cons (ps_if (PW.pt (pw_or (pt_cmpR op_isN (pv 0) pe_non (nomark _)) (pw_or1 (pt_cmpR op_isN (pv 1) pe_non (nomark _))))) (pss_one (ps_ret (pe_and (pe_cmpR op_isN (pv 0) pe_non (nomark _)) (pe_one (pe_cmpR op_isN (pv 1) pe_non (nomark _)))))) pss_nil)
      (pss_cons (ps_if (PW.pt (pw_or (pt_val (pe_callB call_isH (by rfl) T.m_isinstance (by decide +kernel) (pa_cons (pv 0) (pa_cons (pe_bltn (v := .ty "bool") (u := .type "bool") (by rfl) T.m_bool (by decide +kernel) rel_ty) pa_nil)))) (pw_or1 (pt_val (pe_callB call_isH (by rfl) T.m_isinstance (by decide +kernel) (pa_cons (pv 1) (pa_cons (pe_bltn (v := .ty "bool") (u := .type "bool") (by rfl) T.m_bool (by decide +kernel) rel_ty) pa_nil))))))) (pss_one (ps_ret (pe_and (pe_callB call_isH (by rfl) T.m_isinstance (by decide +kernel) (pa_cons (pv 0) (pa_cons (pe_bltn (v := .ty "bool") (u := .type "bool") (by rfl) T.m_bool (by decide +kernel) rel_ty) pa_nil))) (pe_and (pe_callB call_isH (by rfl) T.m_isinstance (by decide +kernel) (pa_cons (pv 1) (pa_cons (pe_bltn (v := .ty "bool") (u := .type "bool") (by rfl) T.m_bool (by decide +kernel) rel_ty) pa_nil))) (pe_one (pe_cmpR op_eq (pv 0) (pv 1) (nomark _))))))) pss_nil)
      (pss_cons (ps_if (PW.pt (pw_or (pt_val (pe_callB call_isH (by rfl) T.m_isinstance (by decide +kernel) (pa_cons (pv 0) (pa_cons (pe_bltn (v := .ty "int") (u := .type "int") (by rfl) T.m_int (by decide +kernel) rel_ty) pa_nil)))) (pw_or1 (pt_val (pe_callB call_isH (by rfl) T.m_isinstance (by decide +kernel) (pa_cons (pv 1) (pa_cons (pe_bltn (v := .ty "int") (u := .type "int") (by rfl) T.m_int (by decide +kernel) rel_ty) pa_nil))))))) (pss_one (ps_ret (pe_and (pe_callB call_isH (by rfl) T.m_isinstance (by decide +kernel) (pa_cons (pv 0) (pa_cons (pe_bltn (v := .ty "int") (u := .type "int") (by rfl) T.m_int (by decide +kernel) rel_ty) pa_nil))) (pe_and (pe_callB call_isH (by rfl) T.m_isinstance (by decide +kernel) (pa_cons (pv 1) (pa_cons (pe_bltn (v := .ty "int") (u := .type "int") (by rfl) T.m_int (by decide +kernel) rel_ty) pa_nil))) (pe_one (pe_cmpR op_eq (pv 0) (pv 1) (nomark _))))))) pss_nil)
      (pss_cons (ps_if (PW.pt (pw_or (pt_val (pe_callB call_isH (by rfl) T.m_isinstance (by decide +kernel) (pa_cons (pv 0) (pa_cons (pe_bltn (v := .ty "str") (u := .type "str") (by rfl) T.m_str (by decide +kernel) rel_ty) pa_nil)))) (pw_or1 (pt_val (pe_callB call_isH (by rfl) T.m_isinstance (by decide +kernel) (pa_cons (pv 1) (pa_cons (pe_bltn (v := .ty "str") (u := .type "str") (by rfl) T.m_str (by decide +kernel) rel_ty) pa_nil))))))) (pss_one (ps_ret (pe_and (pe_callB call_isH (by rfl) T.m_isinstance (by decide +kernel) (pa_cons (pv 0) (pa_cons (pe_bltn (v := .ty "str") (u := .type "str") (by rfl) T.m_str (by decide +kernel) rel_ty) pa_nil))) (pe_and (pe_callB call_isH (by rfl) T.m_isinstance (by decide +kernel) (pa_cons (pv 1) (pa_cons (pe_bltn (v := .ty "str") (u := .type "str") (by rfl) T.m_str (by decide +kernel) rel_ty) pa_nil))) (pe_one (pe_cmpR op_eq (pv 0) (pv 1) (nomark _))))))) pss_nil)
      (pss_cons (ps_if (PW.pt (pw_or (pt_cmpR op_ne (pe_callB call_isH (by rfl) T.m_isinstance (by decide +kernel) (pa_cons (pv 0) (pa_cons (pe_bltn (v := .ty "list") (u := .type "list") (by rfl) T.m_list (by decide +kernel) rel_ty) pa_nil))) (pe_callB call_isH (by rfl) T.m_isinstance (by decide +kernel) (pa_cons (pv 1) (pa_cons (pe_bltn (v := .ty "list") (u := .type "list") (by rfl) T.m_list (by decide +kernel) rel_ty) pa_nil))) (nomark _)) (pw_or1 (pt_cmpR op_ne (pe_callB call_isH (by rfl) T.m_isinstance (by decide +kernel) (pa_cons (pv 0) (pa_cons (pe_bltn (v := .ty "tuple") (u := .type "tuple") (by rfl) T.m_tuple (by decide +kernel) rel_ty) pa_nil))) (pe_callB call_isH (by rfl) T.m_isinstance (by decide +kernel) (pa_cons (pv 1) (pa_cons (pe_bltn (v := .ty "tuple") (u := .type "tuple") (by rfl) T.m_tuple (by decide +kernel) rel_ty) pa_nil))) (nomark _))))) (pss_one (ps_ret pe_bl)) pss_nil)
      (pss_cons (ps_if (PW.pt (pw_or (pt_not (pt_val (pe_callB call_isTH (by rfl) T.m_isinstance (by decide +kernel) (pa_cons (pv 0) (pa_cons (pe_tup (pa_cons (pe_bltn (v := .ty "list") (u := .type "list") (by rfl) T.m_list (by decide +kernel) rel_ty) (pa_cons (pe_bltn (v := .ty "tuple") (u := .type "tuple") (by rfl) T.m_tuple (by decide +kernel) rel_ty) pa_nil))) pa_nil))))) (pw_or1 (pt_cmpR op_ne (pe_callB call_lenH (by rfl) T.m_len (by decide +kernel) (pa_cons (pv 0) pa_nil)) (pe_callB call_lenH (by rfl) T.m_len (by decide +kernel) (pa_cons (pv 1) pa_nil)) (nomark _))))) (pss_one (ps_ret pe_bl)) pss_nil)
      (pss_cons (ps_for PassesOwn.never rfl (pi_range1 (by rfl) T.m_range (pa_cons (pe_callB call_lenH (by rfl) T.m_len (by decide +kernel) (pa_cons (pv 0) pa_nil)) pa_nil)) (pg_name (i := 2) sc_law_same.nd rfl (.inl rfl)) (pss_one (ps_if (pt_not (pt_val (p_call C_law_same hr (pa_cons (pe_ix ix_H (pv 0) (pv 2) (fun _ _ => rfl)) (pa_cons (pe_ix ix_H (pv 1) (pv 2) (fun _ _ => rfl)) pa_nil)) (by omega)))) (pss_one (ps_ret pe_bl)) pss_nil)))
      (pss_one (ps_ret pe_bl))))))))), ?_⟩
    -- the loop over the items of two lists or tuples
    -- the loop over the items of two lists or tuples
    have loop : ∀ (ds : List D) (a b : Addr) (va vb : List V) (ca cb : List Addr) (H1 : Hp), deps ds < n → ds.length < 1000000 → Same H H1 → seqAt H1 a = some va → seqAt H1 b = some vb → Reps H1 ds va ca → Reps H1 ds vb cb →
        tFor (iRng1 (tCons (tCB rLenH (tCons (tVar 0) tNil)) tNil)) (gName 2) (tIfS (tNot (tB (tCall (fun vs H Q _ => ∃ (d : D) (x y : V) (as bs : List Addr), vs = [x, y] ∧ dep d < n ∧ Rep H d x as ∧ Rep H d y bs ∧ ∀ H', Same H H' → Q (.bl true) H') [] E0
          (tCons (tOp rIxH (tVar 0) (tVar 2)) (tCons (tOp rIxH (tVar 1) (tVar 2)) tNil))))) (tRet (tC (V.bl false))) tNext)
          { nx := tRet (tC (V.bl true)) { nx := fun x H' => Q V.non H', rt := Q }, rt := Q } [some (V.ref a), some (V.ref b), none] H1 := by
      intro ds a b va vb ca cb H1 hdn hz sm ea eb ra rb
      have la := reps_len ra
      have lb := reps_len rb
      refine ⟨.ref a, rfl, a, va, rfl, ea, va.length, rfl, by omega, by omega, ?_⟩
      refine for_range (lo := 0) (n := va.length) (fun i σ H' => Same H1 H' ∧ ∃ z, σ = [some (.ref a), some (.ref b), z]) ⟨Same.refl _, _, rfl⟩ ?_ ?_
      · rintro i σ H2 hi ⟨s2, z, rfl⟩
        obtain ⟨d, hd⟩ : ∃ d, ds[i]? = some d := ⟨_, List.getElem?_eq_getElem (by omega)⟩
        obtain ⟨x, xs, ex, rx⟩ := reps_at ra hd
        obtain ⟨y, ys, ey, ry⟩ := reps_at rb hd
        have ix : atI va (0 + (i : Int)) = some x := by
          rw [Int.zero_add]
          exact atI_nat ex
        have iy : atI vb (0 + (i : Int)) = some y := by
          rw [Int.zero_add]
          exact atI_nat ey
        simp only [w_seq, w_next, w_ret, w_asg, w_ifs, w_drop, w_brk, w_cont, w_name, w_var, w_c, w_op, w_un, w_I, w_I0, w_U, w_eq, w_scII, w_scBB, w_scSS, w_scNN, w_zi, w_zb, w_zn, w_zs, V.int.injEq, V.bl.injEq, V.str.injEq, V.ref.injEq, w_ne, w_test, w_B, w_and, w_or, w_not, w_andV, w_orV, w_notV, w_if, w_isN, w_nil, w_cons, w_cb, w_call, w_tup, w_lst, w_sub, w_intI, w_intB, w_isTyH, w_typ, w_isH, w_ixH, w_lenH, w_absH, w_listH, w_strH, w_bm, w_chain, w_exB, w_exV, w_start, k_ii, k_ib, k_is, k_il, k_it, k_bi, k_bb, k_bs, k_bl, k_bt, k_ni, k_nb, k_ns, k_nl, k_nt, k_si, k_sb, k_ss, k_sl, k_st, k_li, k_lb, k_ls, k_ll, k_lt, k_ti, k_tb, k_ts, k_tl, k_tt, w_st1, w_st2, w_st3, w_st5, atI_s0, atI_s1, atI_s2, atI_s3, atI_s4, atI_s5, List.map_cons, List.map_nil, List.length_cons, List.length_nil, List.replicate, List.cons_append, List.nil_append, List.append_nil, List.getElem?_cons_zero, List.getElem?_cons_succ, List.set_cons_zero, List.set_cons_succ, Nat.sub_self, Nat.reduceAdd, Nat.reduceSub, List.replicate_zero, decide_eq_true_eq, Bool.true_eq_false, Bool.false_eq_true, if_true, if_false, reduceIte, Bool.not_eq_true', decide_eq_false_iff_not, Bool.not_true, Bool.not_false, exists_eq_left', true_and, and_true, Option.some.injEq, reduceCtorEq, decide_true, decide_false, not_true_eq_false, not_false_eq_true, sizeLine_eq, Nat.reduceLeDiff, Bool.or_false, Bool.or_true, Bool.false_or, Bool.true_or, wp1, wp2, w_par, w_par2, w_tsl, w_nopart, w_part, w_exI, seqAt_same s2 ea, seqAt_same s2 eb, ix, iy]
        refine ⟨d, x, y, xs, ys, rfl, Nat.lt_of_le_of_lt (deps_at hd) hdn, rep_same s2 rx, rep_same s2 ry, fun H3 s3 => ?_⟩
        exact ⟨s2.trans s3, _, rfl⟩
      · rintro σ H2 ⟨s2, z, rfl⟩
        simp only [w_seq, w_next, w_ret, w_asg, w_ifs, w_drop, w_brk, w_cont, w_name, w_var, w_c, w_op, w_un, w_I, w_I0, w_U, w_eq, w_scII, w_scBB, w_scSS, w_scNN, w_zi, w_zb, w_zn, w_zs, V.int.injEq, V.bl.injEq, V.str.injEq, V.ref.injEq, w_ne, w_test, w_B, w_and, w_or, w_not, w_andV, w_orV, w_notV, w_if, w_isN, w_nil, w_cons, w_cb, w_call, w_tup, w_lst, w_sub, w_intI, w_intB, w_isTyH, w_typ, w_isH, w_ixH, w_lenH, w_absH, w_listH, w_strH, w_bm, w_chain, w_exB, w_exV, w_start, k_ii, k_ib, k_is, k_il, k_it, k_bi, k_bb, k_bs, k_bl, k_bt, k_ni, k_nb, k_ns, k_nl, k_nt, k_si, k_sb, k_ss, k_sl, k_st, k_li, k_lb, k_ls, k_ll, k_lt, k_ti, k_tb, k_ts, k_tl, k_tt, w_st1, w_st2, w_st3, w_st5, atI_s0, atI_s1, atI_s2, atI_s3, atI_s4, atI_s5, List.map_cons, List.map_nil, List.length_cons, List.length_nil, List.replicate, List.cons_append, List.nil_append, List.append_nil, List.getElem?_cons_zero, List.getElem?_cons_succ, List.set_cons_zero, List.set_cons_succ, Nat.sub_self, Nat.reduceAdd, Nat.reduceSub, List.replicate_zero, decide_eq_true_eq, Bool.true_eq_false, Bool.false_eq_true, if_true, if_false, reduceIte, Bool.not_eq_true', decide_eq_false_iff_not, Bool.not_true, Bool.not_false, exists_eq_left', true_and, and_true, Option.some.injEq, reduceCtorEq, decide_true, decide_false, not_true_eq_false, not_false_eq_true, sizeLine_eq, Nat.reduceLeDiff, Bool.or_false, Bool.or_true, Bool.false_or, Bool.true_or, wp1, wp2, w_par, w_par2, w_tsl, w_nopart, w_part, w_exI]
        exact q _ (sm.trans s2)
    cases d with
    | lst ds =>
      simp only [Rep] at hx hy
      obtain ⟨a, va, ca, rfl, ea, ra, _, hz⟩ := hx
      obtain ⟨b, vb, cb, rfl, eb, rb, _, _⟩ := hy
      simp only [w_seq, w_next, w_ret, w_asg, w_ifs, w_drop, w_brk, w_cont, w_name, w_var, w_c, w_op, w_un, w_I, w_I0, w_U, w_eq, w_scII, w_scBB, w_scSS, w_scNN, w_zi, w_zb, w_zn, w_zs, V.int.injEq, V.bl.injEq, V.str.injEq, V.ref.injEq, w_ne, w_test, w_B, w_and, w_or, w_not, w_andV, w_orV, w_notV, w_if, w_isN, w_nil, w_cons, w_cb, w_call, w_tup, w_lst, w_sub, w_intI, w_intB, w_isTyH, w_typ, w_isH, w_ixH, w_lenH, w_absH, w_listH, w_strH, w_bm, w_chain, w_exB, w_exV, w_start, k_ii, k_ib, k_is, k_il, k_it, k_bi, k_bb, k_bs, k_bl, k_bt, k_ni, k_nb, k_ns, k_nl, k_nt, k_si, k_sb, k_ss, k_sl, k_st, k_li, k_lb, k_ls, k_ll, k_lt, k_ti, k_tb, k_ts, k_tl, k_tt, w_st1, w_st2, w_st3, w_st5, atI_s0, atI_s1, atI_s2, atI_s3, atI_s4, atI_s5, List.map_cons, List.map_nil, List.length_cons, List.length_nil, List.replicate, List.cons_append, List.nil_append, List.append_nil, List.getElem?_cons_zero, List.getElem?_cons_succ, List.set_cons_zero, List.set_cons_succ, Nat.sub_self, Nat.reduceAdd, Nat.reduceSub, List.replicate_zero, decide_eq_true_eq, Bool.true_eq_false, Bool.false_eq_true, if_true, if_false, reduceIte, Bool.not_eq_true', decide_eq_false_iff_not, Bool.not_true, Bool.not_false, exists_eq_left', true_and, and_true, Option.some.injEq, reduceCtorEq, decide_true, decide_false, not_true_eq_false, not_false_eq_true, sizeLine_eq, Nat.reduceLeDiff, Bool.or_false, Bool.or_true, Bool.false_or, Bool.true_or, wp1, wp2, w_par, w_par2, w_tsl, w_nopart, w_part, w_exI, seqAt_l ea, seqAt_l eb, w_zl ea, w_zl eb]
      intro p hp
      have sp : Same H (upd H p (.tup [.ty "list", .ty "tuple"])) := same_new hp
      have ea' := sp _ _ ea
      have eb' := sp _ _ eb
      simp only [w_seq, w_next, w_ret, w_asg, w_ifs, w_drop, w_brk, w_cont, w_name, w_var, w_c, w_op, w_un, w_I, w_I0, w_U, w_eq, w_scII, w_scBB, w_scSS, w_scNN, w_zi, w_zb, w_zn, w_zs, V.int.injEq, V.bl.injEq, V.str.injEq, V.ref.injEq, w_ne, w_test, w_B, w_and, w_or, w_not, w_andV, w_orV, w_notV, w_if, w_isN, w_nil, w_cons, w_cb, w_call, w_tup, w_lst, w_sub, w_intI, w_intB, w_isTyH, w_typ, w_isH, w_ixH, w_lenH, w_absH, w_listH, w_strH, w_bm, w_chain, w_exB, w_exV, w_start, k_ii, k_ib, k_is, k_il, k_it, k_bi, k_bb, k_bs, k_bl, k_bt, k_ni, k_nb, k_ns, k_nl, k_nt, k_si, k_sb, k_ss, k_sl, k_st, k_li, k_lb, k_ls, k_ll, k_lt, k_ti, k_tb, k_ts, k_tl, k_tt, w_st1, w_st2, w_st3, w_st5, atI_s0, atI_s1, atI_s2, atI_s3, atI_s4, atI_s5, List.map_cons, List.map_nil, List.length_cons, List.length_nil, List.replicate, List.cons_append, List.nil_append, List.append_nil, List.getElem?_cons_zero, List.getElem?_cons_succ, List.set_cons_zero, List.set_cons_succ, Nat.sub_self, Nat.reduceAdd, Nat.reduceSub, List.replicate_zero, decide_eq_true_eq, Bool.true_eq_false, Bool.false_eq_true, if_true, if_false, reduceIte, Bool.not_eq_true', decide_eq_false_iff_not, Bool.not_true, Bool.not_false, exists_eq_left', true_and, and_true, Option.some.injEq, reduceCtorEq, decide_true, decide_false, not_true_eq_false, not_false_eq_true, sizeLine_eq, Nat.reduceLeDiff, Bool.or_false, Bool.or_true, Bool.false_or, Bool.true_or, wp1, wp2, w_par, w_par2, w_tsl, w_nopart, w_part, w_exI, w_isTH upd_same, w_zl ea', seqAt_l ea', seqAt_l eb', reps_len ra, reps_len rb]
      simp only [dep] at hd
      exact loop ds a b va vb ca cb _ (by omega) hz sp (seqAt_l ea') (seqAt_l eb') (reps_same sp ra) (reps_same sp rb)
    | tup ds =>
      simp only [Rep] at hx hy
      obtain ⟨a, va, ca, rfl, ea, ra, _, hz⟩ := hx
      obtain ⟨b, vb, cb, rfl, eb, rb, _, _⟩ := hy
      simp only [w_seq, w_next, w_ret, w_asg, w_ifs, w_drop, w_brk, w_cont, w_name, w_var, w_c, w_op, w_un, w_I, w_I0, w_U, w_eq, w_scII, w_scBB, w_scSS, w_scNN, w_zi, w_zb, w_zn, w_zs, V.int.injEq, V.bl.injEq, V.str.injEq, V.ref.injEq, w_ne, w_test, w_B, w_and, w_or, w_not, w_andV, w_orV, w_notV, w_if, w_isN, w_nil, w_cons, w_cb, w_call, w_tup, w_lst, w_sub, w_intI, w_intB, w_isTyH, w_typ, w_isH, w_ixH, w_lenH, w_absH, w_listH, w_strH, w_bm, w_chain, w_exB, w_exV, w_start, k_ii, k_ib, k_is, k_il, k_it, k_bi, k_bb, k_bs, k_bl, k_bt, k_ni, k_nb, k_ns, k_nl, k_nt, k_si, k_sb, k_ss, k_sl, k_st, k_li, k_lb, k_ls, k_ll, k_lt, k_ti, k_tb, k_ts, k_tl, k_tt, w_st1, w_st2, w_st3, w_st5, atI_s0, atI_s1, atI_s2, atI_s3, atI_s4, atI_s5, List.map_cons, List.map_nil, List.length_cons, List.length_nil, List.replicate, List.cons_append, List.nil_append, List.append_nil, List.getElem?_cons_zero, List.getElem?_cons_succ, List.set_cons_zero, List.set_cons_succ, Nat.sub_self, Nat.reduceAdd, Nat.reduceSub, List.replicate_zero, decide_eq_true_eq, Bool.true_eq_false, Bool.false_eq_true, if_true, if_false, reduceIte, Bool.not_eq_true', decide_eq_false_iff_not, Bool.not_true, Bool.not_false, exists_eq_left', true_and, and_true, Option.some.injEq, reduceCtorEq, decide_true, decide_false, not_true_eq_false, not_false_eq_true, sizeLine_eq, Nat.reduceLeDiff, Bool.or_false, Bool.or_true, Bool.false_or, Bool.true_or, wp1, wp2, w_par, w_par2, w_tsl, w_nopart, w_part, w_exI, seqAt_t ea, seqAt_t eb, w_zt ea, w_zt eb]
      intro p hp
      have sp : Same H (upd H p (.tup [.ty "list", .ty "tuple"])) := same_new hp
      have ea' := sp _ _ ea
      have eb' := sp _ _ eb
      simp only [w_seq, w_next, w_ret, w_asg, w_ifs, w_drop, w_brk, w_cont, w_name, w_var, w_c, w_op, w_un, w_I, w_I0, w_U, w_eq, w_scII, w_scBB, w_scSS, w_scNN, w_zi, w_zb, w_zn, w_zs, V.int.injEq, V.bl.injEq, V.str.injEq, V.ref.injEq, w_ne, w_test, w_B, w_and, w_or, w_not, w_andV, w_orV, w_notV, w_if, w_isN, w_nil, w_cons, w_cb, w_call, w_tup, w_lst, w_sub, w_intI, w_intB, w_isTyH, w_typ, w_isH, w_ixH, w_lenH, w_absH, w_listH, w_strH, w_bm, w_chain, w_exB, w_exV, w_start, k_ii, k_ib, k_is, k_il, k_it, k_bi, k_bb, k_bs, k_bl, k_bt, k_ni, k_nb, k_ns, k_nl, k_nt, k_si, k_sb, k_ss, k_sl, k_st, k_li, k_lb, k_ls, k_ll, k_lt, k_ti, k_tb, k_ts, k_tl, k_tt, w_st1, w_st2, w_st3, w_st5, atI_s0, atI_s1, atI_s2, atI_s3, atI_s4, atI_s5, List.map_cons, List.map_nil, List.length_cons, List.length_nil, List.replicate, List.cons_append, List.nil_append, List.append_nil, List.getElem?_cons_zero, List.getElem?_cons_succ, List.set_cons_zero, List.set_cons_succ, Nat.sub_self, Nat.reduceAdd, Nat.reduceSub, List.replicate_zero, decide_eq_true_eq, Bool.true_eq_false, Bool.false_eq_true, if_true, if_false, reduceIte, Bool.not_eq_true', decide_eq_false_iff_not, Bool.not_true, Bool.not_false, exists_eq_left', true_and, and_true, Option.some.injEq, reduceCtorEq, decide_true, decide_false, not_true_eq_false, not_false_eq_true, sizeLine_eq, Nat.reduceLeDiff, Bool.or_false, Bool.or_true, Bool.false_or, Bool.true_or, wp1, wp2, w_par, w_par2, w_tsl, w_nopart, w_part, w_exI, w_isTH upd_same, w_zt ea', seqAt_t ea', seqAt_t eb', reps_len ra, reps_len rb]
      simp only [dep] at hd
      exact loop ds a b va vb ca cb _ (by omega) hz sp (seqAt_t ea') (seqAt_t eb') (reps_same sp ra) (reps_same sp rb)
    | _ =>
      simp only [Rep] at hx hy
      obtain ⟨rfl, _⟩ := hx
      obtain ⟨rfl, _⟩ := hy
      simp only [w_seq, w_next, w_ret, w_asg, w_ifs, w_drop, w_brk, w_cont, w_name, w_var, w_c, w_op, w_un, w_I, w_I0, w_U, w_eq, w_scII, w_scBB, w_scSS, w_scNN, w_zi, w_zb, w_zn, w_zs, V.int.injEq, V.bl.injEq, V.str.injEq, V.ref.injEq, w_ne, w_test, w_B, w_and, w_or, w_not, w_andV, w_orV, w_notV, w_if, w_isN, w_nil, w_cons, w_cb, w_call, w_tup, w_lst, w_sub, w_intI, w_intB, w_isTyH, w_typ, w_isH, w_ixH, w_lenH, w_absH, w_listH, w_strH, w_bm, w_chain, w_exB, w_exV, w_start, k_ii, k_ib, k_is, k_il, k_it, k_bi, k_bb, k_bs, k_bl, k_bt, k_ni, k_nb, k_ns, k_nl, k_nt, k_si, k_sb, k_ss, k_sl, k_st, k_li, k_lb, k_ls, k_ll, k_lt, k_ti, k_tb, k_ts, k_tl, k_tt, w_st1, w_st2, w_st3, w_st5, atI_s0, atI_s1, atI_s2, atI_s3, atI_s4, atI_s5, List.map_cons, List.map_nil, List.length_cons, List.length_nil, List.replicate, List.cons_append, List.nil_append, List.append_nil, List.getElem?_cons_zero, List.getElem?_cons_succ, List.set_cons_zero, List.set_cons_succ, Nat.sub_self, Nat.reduceAdd, Nat.reduceSub, List.replicate_zero, decide_eq_true_eq, Bool.true_eq_false, Bool.false_eq_true, if_true, if_false, reduceIte, Bool.not_eq_true', decide_eq_false_iff_not, Bool.not_true, Bool.not_false, exists_eq_left', true_and, and_true, Option.some.injEq, reduceCtorEq, decide_true, decide_false, not_true_eq_false, not_false_eq_true, sizeLine_eq, Nat.reduceLeDiff, Bool.or_false, Bool.or_true, Bool.false_or, Bool.true_or, wp1, wp2, w_par, w_par2, w_tsl, w_nopart, w_part, w_exI]
      exact q _ (Same.refl _)
theorem ok_same (F : Fun K "_law_same" "_law_same" s_law_same f fd) (T : Txt3 K mg) (gm : mg "_law_same" = some (.ref f)) (b : Binds K fd ["left", "right"] []) : ∀ n : Nat, FnOk P w K mg base CX0 (n + 1) f fd ["left", "right"] (sp_same n)
  | 0 => (ok_same_step F T 0 0 ⟨f, fd, ⟨fun vs H Q E h => by
      obtain ⟨d, x, y, as, bs, _, h, _⟩ := h
      exact absurd h (Nat.not_lt_zero _), fun A outer s H args us vs Q E _ _ _ _ h => by
      obtain ⟨d, x, y, as, bs, _, h, _⟩ := h
      exact absurd h (Nat.not_lt_zero _)⟩, gm, F.kp, b⟩)
  | n + 1 => ok_same_step F T (n + 1) (n + 1) ⟨f, fd, (ok_same F T gm b n).imp fun vs H Q E h => by
      obtain ⟨d, x, y, as, bs, e, h1, h2⟩ := h
      exact ⟨d, x, y, as, bs, e, Nat.le_of_lt_succ h1, h2⟩, gm, F.kp, b⟩
end
end Mt

/-! ### errors: raised, let through, caught, and looked at by a def that the suite calls -/
namespace Mt
open PySem PySem.Spec PyProof.Rows L2 L2H
abbrev CN (P : Program) (w : World) : CXT := L2N.CX P w
section
variable {P : Program} {w : World} {K : PySem.W.Frag} {mg : Str → Option Value} {base : Heap}
/-- a def that errors may leave -/
theorem okN {x qual : Str} {st : Stmt} {f : Addr} {fd : FuncData} {N ps : List Str} {k : Nat} {sp : Sp} (F : Fun K x qual st f fd) (S : FnScope N ps (defScope st)) (len : ∀ vs H Q E, sp vs H Q E → vs.length = ps.length)
    (body : ∀ (cdv : Value) (A : Around) (outer : List Env) (s : Shared) (H : Hp) (vs : List V) (Q : VK) (E : XK), Room k (A.deeper (envOfC qual (defScope st) s.heap.objs.size f cdv)) → sp vs H Q E →
      ∃ t, PSs (cxOf (CN P w) P w K mg base N qual (defScope st) f cdv A outer s H E) (defBody st) t ∧ t { nx := fun _ H' => Q .non H', rt := Q } (L2.start N vs) H) : FnOk P w K mg base (CN P w) (k + 1) f fd ps sp := by
  obtain ⟨oc, od, kv, doc, pm, an, cdv, ct, osl, e, lk, hc⟩ := F.ex
  subst e
  exact fn_of lk hc S len fun A outer s H vs Q E hr hs => body cdv A outer s H vs Q E hr hs
/-- a def that may raise -/
structure CalX (P : Program) (w : World) (K : PySem.W.Frag) (mg : Str → Option Value) (base : Heap) (x : Str) (k : Nat) (ps : List Str) (sp : Sp) : Prop where
  ex : ∃ f fd, FnOk P w K mg base (CN P w) k f fd ps sp ∧ mg x = some (.ref f) ∧ PySem.W.keepIn K (.ref f) = true ∧ Binds K fd ps []
theorem p_callX {X : Cx} {W : WX} {x : Str} {j k : Nat} {ps : List Str} {sp : Sp} {e : Expr} {es : List Expr} {t : TA} {p pos : Pos} (C : CalX X.prog X.w X.K X.mg X.base x j ps sp) (hr : Room k X.A) (tk : L2N.Takes X W) (ha : PA X (e :: es) t) (hj : j ≤ k := by decide) (hg : Gl X x := by rfl)
    (hdb : (x == ("__debug__" : Str)) = false := by decide) (he : starEach (e :: es) X.env = (false, eval e X.env) :: starEach es X.env := by rfl) (hpl : (backTo pos (starEach es X.env)).any (·.1) = false := by rfl) :
    PE X (.Call (.Name x p) (e :: es) [] pos) (tCallS sp (WE W) t) := by
  obtain ⟨f, fd, F, gm, kp, b⟩ := C.ex
  exact pe_callS F (hr.mono hj) hg gm kp b (fun σ => L2N.passAt tk σ) ha hdb he hpl
theorem w_callS {sp : Sp} {E : L2.St → XK} {t : TA} {σ : L2.St} {H : Hp} {Q : VK} : tCallS sp E t σ H Q = t σ H fun vs H1 => sp vs H1 Q (E σ) := rfl
/-! C(e, ..) of an own class with its own __init__ -/
theorem pmkN {X : Cx} {x : Str} {e : Expr} {es : List Expr} {ta : TA} {p pos : Pos} {C fI : Addr} {k : Nat} {fd : FuncData} {ps : List Str} {sp : Sp} (T : OexC X.K C) (iC : PySem.W.findIn X.K (.ref C) "__init__" = some (some (.ref fI))) (tI : PySem.W.typeIn X.K (.ref fI) = some (.type "function"))
    (F1 : FnOk X.prog X.w X.K X.mg X.base CX0 k fI fd ps sp) (hr : Room (k + 1) X.A) (hb : Binds X.K fd ps []) (hm : X.mg x = some (.ref C)) (ha : PA X (e :: es) ta) (hg : Gl X x := by rfl)
    (hdb : (x == ("__debug__" : Str)) = false := by decide) (he : starEach (e :: es) X.env = (false, eval e X.env) :: starEach es X.env := by rfl) (hpl : (backTo pos (starEach es X.env)).any (·.1) = false := by rfl) :
    L2N.PMk X (.Call (.Name x p) (e :: es) [] pos) (tMkO C sp [] ta) := by
  intro pins s σ H Q I h
  obtain ⟨nm, q, NN, bs, bm, sn, sub, ab, col, dd, k0, k1, k2, k3, k5, hC, hbm⟩ := T.cls
  refine wpAny_Call_Name_kw (ld_glob I hg hm (PySem.W.callWith_K (h₀ := X.base) I.ok.mod.kin T.kC (thn (ha.run pos pins s σ H _ I h) fun us s1 ⟨vs, H1, I1, r1, hz, q1⟩ => ⟨I1.kIn, ?_⟩) he hpl) hdb)
  obtain ⟨hp, g, dr, tk, os⟩ := s1
  show wpAny _ _ (call (.ref C) us) _ _ _
  have up : hp.objs.size ≤ hp.objs.size + 1 := by omega
  have hq := q1 _ (I1.hok.fresh up)
  rw [List.append_nil] at hq
  generalize hh : (hp.push (PySem.W.kdv_tup us)).push (PySem.HandSPX.excO C hp.objs.size) = hx
  have kk : ∀ b o, hp.get? b = some o → hx.get? b = some o := fun b o z => by
    rw [← hh]
    exact Heap.get?_push_of_some _ (Heap.get?_push_of_some _ z)
  have hat : hx.get? (hp.objs.size + 1) = some (PySem.HandSPX.excO C hp.objs.size) := by
    rw [← hh]
    heap_get
  have I2 : Inv X pins σ (upd H1 (hp.objs.size + 1) (exo (hp.objs.size + 1) C none)) ⟨hx, g, dr, tk, os⟩ := I1.laid (t' := tk) (o := exo (hp.objs.size + 1) C none) kk up (exo_ok hat)
  have r2 : Vals (V.ref (hp.objs.size + 1) :: vs) (Value.ref (hp.objs.size + 1) :: us) := .cons rfl r1
  have n2 : (Value.ref (hp.objs.size + 1) :: us).length = ps.length := by
    rw [← r2.length]
    exact F1.len _ _ _ _ hq
  have b2 := hb ⟨hx, g, dr, tk, os⟩ (Value.ref (hp.objs.size + 1) :: us) I2.kIn (by rw [List.append_nil]; exact n2)
  rw [List.append_nil] at b2
  have zus : us.length ≤ sizeLine := by
    have e1 := Paired.length r1
    rw [sizeLine_eq]
    omega
  have run := F1.run (X.A.under (.builtin "type.__call__" ⟨.ref C :: us, []⟩)) X.stack ⟨hx, g, dr, tk, os⟩ _ ⟨Value.ref (hp.objs.size + 1) :: us, []⟩ _ _ _ (fun _ _ _ => False) (hr.make C us []) (I2.env0.make C us []) b2 r2 hq
  rw [← hh] at run
  refine wpAny_call (PySem.HandSPX.call_own F.excBase_ValueError (fun Y => PySem.HandSPX.refsVE_contains Y bm hbm) (I1.kIn _ _ hC) (PySem.W.looks_findIn I1.kIn iC) (fun self => PySem.W.bind_fn I1.kIn self tI) zus (codeAny_mono run fun r s' hr' => ?_))
  rw [hh] at hr'
  cases r with
  | error er => exact False.elim hr'
  | ok fl =>
    cases fl with
    | ret u =>
      obtain ⟨v, H2, os2, bare2, un2, hok2, rv, ev, d, fs, ea, ed, hd1, q2⟩ := hr'
      subst ev
      obtain ⟨h2, g2, d2, t2, os'⟩ := s'
      obtain ⟨t0, G, J, kG, ge, hoe, na⟩ := mk_end0 (d2 := d2) (t2 := t2) I1 up kk un2 hok2 os2 bare2 ea ed hd1
      exact ⟨rv, _, _, _, ⟨G, g2, d2, t2, os'⟩, _, .ref C, some d, rfl, J, kG, ge, hoe, ⟨rfl, rfl, fun ws z => by cases z; rfl⟩, rfl, rfl, na, rfl, bare2, raises_own T.exC T.tyC, q2⟩
    | _ => exact False.elim hr'
end
end Mt

/-! ### a def that the suite calls with the caught error at p -/
namespace Mt
open PySem PySem.Spec PyProof.Rows L2 L2H
/-- what stands at p: an error of the class at C, its dict at d -/
structure ErrAt (p : Addr × Obj) (C d : Addr) : Prop where
  zn : L2N.Zn (.ref C) (some d) p.2
  fl : ∃ vs, p.2.data = .fields vs
theorem ErrAt.inst {p : Addr × Obj} {C d : Addr} (z : ErrAt p C d) {h : Heap} {od : Obj} (hg : h.get? p.1 = some p.2) (hd : h.get? d = some od) : PySem.W.InstAt h p.1 p.2 C (some od) := by
  obtain ⟨vs, hv⟩ := z.fl
  obtain ⟨p1, ob⟩ := p
  obtain ⟨oc, odd, da, sl⟩ := ob
  obtain ⟨z1, z2, _⟩ := z.zn
  dsimp only at z1 z2 hv hg
  subst z1 z2 hv
  exact ⟨hg, rfl, rfl, hd⟩
structure FnE (P : Program) (w : World) (K : PySem.W.Frag) (mg : Str → Option Value) (base : Heap) (k : Nat) (f : Addr) (fd : FuncData) (ps : List Str) (sp : Addr × Obj → Sp) : Prop where
  len : ∀ p vs H Q E, sp p vs H Q E → vs.length = ps.length
  run : ∀ (p : Addr × Obj) (A : Around) (outer : List Env) (s : Shared) (H : Hp) (args : Args) (us : List Value) (vs : List V) (Q : VK) (E : XK), RoomH k A → Hot1 A p → PinOk outer H s p → Env0 P w K mg base A outer s H → BindsTo s fd args (ps.zip us) → Vals vs us → sp p vs H Q E →
    codeAny (model P w) A (.call (.ref f) args) (CR CX0 outer P w H s Q E) s
section
variable {P : Program} {w : World} {K : PySem.W.Frag} {mg : Str → Option Value} {base : Heap}
theorem okE {x qual : Str} {st : Stmt} {f : Addr} {fd : FuncData} {N ps : List Str} {k : Nat} {sp : Addr × Obj → Sp} (F : Fun K x qual st f fd) (S : FnScope N ps (defScope st)) (len : ∀ p vs H Q E, sp p vs H Q E → vs.length = ps.length)
    (body : ∀ (p : Addr × Obj) (cdv : Value) (A : Around) (outer : List Env) (s : Shared) (H : Hp) (vs : List V) (Q : VK) (E : XK), Hot1 A p → RoomH k (A.deeper (envOfC qual (defScope st) s.heap.objs.size f cdv)) → sp p vs H Q E →
      ∃ t, PSs (cxH CX0 P w K mg base N qual (defScope st) f cdv A outer s H E p) (defBody st) t ∧ t { nx := fun _ H' => Q .non H', rt := Q } (L2.start N vs) H) : FnE P w K mg base (k + 1) f fd ps sp := by
  obtain ⟨oc, od, kv, doc, pm, an, cdv, ct, osl, e, lk, hcd⟩ := F.ex
  subst e
  refine ⟨len, fun p A outer s H args us vs Q E hr hot hpin e0 hb r hsp => ?_⟩
  have hl := len _ _ _ _ _ hsp
  have KX : K.In s.heap := e0.mod.kin.keeps fun b o z => (e0.bs b o z).1
  have kinds : ∀ y ∈ ps.zip us, (defScope st).names.lookup y.1 = some .local ∨ ((defScope st).names.lookup y.1 = some .cell ∧ ((cellsFrom (s.heap.objs.size + 1) (defScope st).names []).lookup y.1).isSome = true) := by
    rintro ⟨n, v⟩ hy
    cases S.par n (List.of_mem_zip hy).1 with
    | inl q => exact Or.inl q
    | inr q => exact Or.inr ⟨q, PySem.W.cellsFrom_some _ _ _ (Or.inl q)⟩
  refine codeAny_call_function hr.depth (KX _ _ lk) rfl S.co S.gen rfl (PySem.W.codeRec_of KX hcd) (hb _ _ _ _ (wpAny_newFunctionEnv_cells S.kind kinds fun env he s1 x => ?_))
  subst he
  refine ⟨(e0.mod.nolimit.keeps fun b o z => (e0.bs b o z).1).keeps x.toInCall.keep, codeAny_func ?_⟩
  obtain ⟨t, ht, hq⟩ := body p cdv A outer s H vs Q E hot (hr.deeper _) hsp
  have I := inv_startH (CX := CX0) (cd := cdv) (f := f) (E := E) S hpin e0 hl r x
  refine wpAny_mono (ht.run [] s1 _ H _ I hq) (fun fl s' hs => ?_) fun _ _ z => z
  cases fl with
  | ret u =>
    obtain ⟨v, σ', H', J, rv, q⟩ := hs
    exact ⟨v, H', J.os, J.bare, J.base, J.hok, rv, q⟩
  | next =>
    obtain ⟨σ', H', J, q⟩ := hs
    exact ⟨V.non, H', J.os, J.bare, J.base, J.hok, rfl, q⟩
  | brk =>
    obtain ⟨_, _, _, q⟩ := hs
    exact q.elim
  | cont =>
    obtain ⟨_, _, _, q⟩ := hs
    exact q.elim
structure CalE (P : Program) (w : World) (K : PySem.W.Frag) (mg : Str → Option Value) (base : Heap) (x : Str) (k : Nat) (ps : List Str) (sp : Addr × Obj → Sp) : Prop where
  ex : ∃ f fd, FnE P w K mg base k f fd ps sp ∧ mg x = some (.ref f) ∧ PySem.W.keepIn K (.ref f) = true ∧ Binds K fd ps []
/-- its call, in a context that bears p -/
theorem p_callE {X : Cx} {p : Addr × Obj} {x : Str} {j k : Nat} {ps : List Str} {sp : Addr × Obj → Sp} {e : Expr} {es : List Expr} {t : TA} {q pos : Pos} (C : CalE X.prog X.w X.K X.mg X.base x j ps sp) (hr : RoomH k X.A) (hot : Hot1 X.A p) (hp : p ∈ X.pn) (ha : PA X (e :: es) t) (hj : j ≤ k := by decide) (hg : Gl X x := by rfl)
    (hdb : (x == ("__debug__" : Str)) = false := by decide) (he : starEach (e :: es) X.env = (false, eval e X.env) :: starEach es X.env := by rfl) (hpl : (backTo pos (starEach es X.env)).any (·.1) = false := by rfl) :
    PE X (.Call (.Name x q) (e :: es) [] pos) (tCall (sp p) [] E0 t) := by
  obtain ⟨f, fd, F, gm, kp, b⟩ := C.ex
  refine ⟨fun pins s σ H Q I h => ?_⟩
  refine wpAny_Call_Name_kw (ld_glob I hg gm (PySem.W.callWith_K (h₀ := X.base) I.ok.mod.kin kp (thn (ha.run pos pins s σ H _ I h) fun us s1 ⟨vs, H1, I1, r, hq⟩ => ⟨I1.kIn, ?_⟩) he hpl) hdb)
  have hq : sp p (vs ++ []) H1 Q E0 := hq
  rw [List.append_nil] at hq
  have hl : us.length = ps.length := by
    rw [← r.length]
    exact F.len _ _ _ _ _ hq
  have b1 := b s1 us I1.kIn (by rw [List.append_nil]; exact hl)
  rw [List.append_nil] at b1
  have P1 := I1.pin p (List.mem_append_left _ hp)
  have pin : PinOk X.stack H1 s1 p := ⟨P1.1, P1.2.1, fun hm => (List.mem_cons.mp (I1.stkSub p.1 hm)).elim P1.2.2.1 P1.2.2.2.1, P1.2.2.2.2⟩
  refine wpAny_call (codeAny_mono (F.run p X.A X.stack s1 H1 ⟨us, []⟩ us vs Q E0 (hr.mono hj) hot pin I1.env0 b1 r hq) fun r' s' hr' => ?_)
  cases r' with
  | error e => exact False.elim hr'
  | ok fl =>
    cases fl with
    | ret u => exact I1.after hr'
    | _ => exact False.elim hr'
end
/-! ### looks at the error -/
/-- what an own error class says -/
structure XcC (K : PySem.W.Frag) (C : Addr) : Prop where
  ic : (PySem.W.clsIn K C).isSome = true
  ga : PySem.W.findIn K (.ref C) "__getattribute__" = some (some (.builtin "BaseException.__getattribute__"))
  gg : PySem.W.findIn K (.ref C) "__getattr__" = some none
  exC : PySem.W.subIn K (.ref C) (.type "BaseException") = some true
  hd : PySem.W.hasDictIn K C = true
  ca : PySem.W.findIn K (.ref C) "__class__" = some (some (.builtin "object.__class__"))
  cn : PySem.W.specialIn K (.builtin "object.__class__") "__get__" = some (some (.builtin "getset_descriptor.__get__"))
  ct : PySem.W.takesIn K (.builtin "object.__class__") = some true
  cm : PySem.W.mroIn K C (.type "object") = some true
/-- isinstance(error, c) -/
def rIsE (K : PySem.W.Frag) (C d a : Addr) : List V → Hp → VK → Prop := fun xs H Q => ∃ (c : V) (cv : Value) (b : Bool) (fs : List (Str × V)), xs = [.ref a, c] ∧ (∀ u, RelV c u → u = cv) ∧ PySem.W.kitOne K (.ref C) cv = some b ∧ H d = some (.xd fs) ∧ Q (.bl b) H
theorem call_isE {X : Cx} {p : Addr × Obj} {C d : Addr} (T : XcC X.K C) (z : ErrAt p C d) (hp : p ∈ X.pn) : CallR X (.builtin "isinstance") (rIsE X.K C d p.1) := by
  intro pins s σ H xs us Q I r h
  obtain ⟨c, cv, b, fs, rfl, hcv, e, hd, q⟩ := h
  obtain ⟨u1, u2, rfl, r1, r2⟩ := vals2 r
  cases (show u1 = Value.ref p.1 from r1)
  have ec := hcv _ r2
  subst ec
  have hx : ObjOk X.prog X.w H s.heap d (.xd fs) := I.hok d _ hd
  obtain ⟨mA, hns, hr⟩ := hx
  obtain ⟨od, ho, hl⟩ := lookIn_ns hns
  exact PySem.W.kia_one (PySem.W.kitx_exc (od := some od) T.ic T.ga T.gg T.exC T.ca T.cn T.ct T.cm) I.kIn (z.inst (I.pin p (List.mem_append_left _ hp)).1 ho) e (fun y => nomatch y) fun tk => ⟨.bl b, H, I.tok tk, rfl, q⟩
theorem w_isE {K : PySem.W.Frag} {C d a c : Addr} {fs : List (Str × V)} {H : Hp} {Q : VK} (hd : H d = some (.xd fs)) : rIsE K C d a [.ref a, .ref c] H Q = ∃ b, PySem.W.kitOne K (.ref C) (.ref c) = some b ∧ Q (.bl b) H := by
  refine propext ⟨fun ⟨c', cv, b, fs', e1, e2, e3, e4, q⟩ => ?_, fun ⟨b, e, q⟩ => ⟨.ref c, .ref c, b, fs, rfl, fun u h => h, e, hd, q⟩⟩
  cases e1
  have := e2 (.ref c) rfl
  subst this
  exact ⟨b, e3, q⟩
theorem w_isEt {K : PySem.W.Frag} {C d a : Addr} {n : String} {fs : List (Str × V)} {H : Hp} {Q : VK} (hd : H d = some (.xd fs)) : rIsE K C d a [.ref a, .ty n] H Q = ∃ b, PySem.W.kitOne K (.ref C) (.type n) = some b ∧ Q (.bl b) H := by
  refine propext ⟨fun ⟨c', cv, b, fs', e1, e2, e3, e4, q⟩ => ?_, fun ⟨b, e, q⟩ => ⟨.ty n, .type n, b, fs, rfl, fun u h => h, e, hd, q⟩⟩
  cases e1
  have := e2 (.type n) rfl
  subst this
  exact ⟨b, e3, q⟩
/-- error.n -/
def tErrF (a d : Addr) (n : Str) (te : TE) : TE := fun σ H Q => te σ H fun x H1 => x = .ref a ∧ ∃ (fs : List (Str × V)) (v : V), H1 d = some (.xd fs) ∧ fs.lookup n = some v ∧ Q v H1
theorem pe_errF {X : Cx} {p : Addr × Obj} {C d : Addr} {e : Expr} {te : TE} {pos : Pos} {n : Str} (T : XcC X.K C) (no : PySem.W.findIn X.K (.ref C) n = some none) (z : ErrAt p C d) (hp : p ∈ X.pn) (he : PE X e te)
    (hb : attributeBase e n X.env (eval e X.env) = eval e X.env := by rfl) : PE X (.Attribute e n pos) (tErrF p.1 d n te) := by
  refine ⟨fun pins s σ H Q I h => attr_of hb (thn (he.run pins s σ H _ I h) fun u s1 hh => ?_)⟩
  obtain ⟨x, H1, I1, rx, ex, fs, v, ea, l, q⟩ := hh
  subst ex
  cases (show u = Value.ref p.1 from rx)
  have hx : ObjOk X.prog X.w H1 s1.heap d (.xd fs) := I1.hok d _ ea
  obtain ⟨mA, hns, hr⟩ := hx
  obtain ⟨od, ho, hl⟩ := lookIn_ns hns
  obtain ⟨u, hu, ru⟩ := RelO.some_of (v := v) (o := mA n) (by rw [← l]; exact hr n)
  exact HandSPX.exc_get I1.kIn (z.inst (I1.pin p (List.mem_append_left _ hp)).1 ho) T.ga T.gg T.exC (PySem.W.findObj_own T.hd no rfl (by rw [hl, hu])) (handed_of ru) ⟨v, H1, I1.tok _, ru, q⟩
theorem w_errF {a d : Addr} {n : Str} {te : TE} {σ : L2.St} {H : Hp} {Q : VK} : tErrF a d n te σ H Q = te σ H fun x H1 => x = .ref a ∧ ∃ (fs : List (Str × V)) (v : V), H1 d = some (.xd fs) ∧ fs.lookup n = some v ∧ Q v H1 := rfl
end Mt

namespace Mt
open PySem PySem.Spec PyProof.Rows L2 L2H

/-! ### C(x) of the three classes whose errors bear an argument -/
def sp_init (K : PySem.W.Frag) (C : Addr) : Sp := fun vs H Q _ => ∃ (a : Addr) (y : V), vs = [.ref a, y] ∧ H a = some (exo a C none) ∧ ∀ dx, H dx = none → dx ≠ a → Q .non (upd (upd H dx (exd dx [("argument", y)])) a (exo a C (some dx)))
structure ErrK (P : Program) (w : World) (K : PySem.W.Frag) (mg : Str → Option Value) (base : Heap) (x : Str) (C : Addr) : Prop where
  gC : mg x = some (.ref C)
  oex : OexC K C
  noA : PySem.W.findIn K (.ref C) "argument" = some none
  ini : ∃ fI fd, PySem.W.findIn K (.ref C) "__init__" = some (some (.ref fI)) ∧ PySem.W.typeIn K (.ref fI) = some (.type "function") ∧ FnOk P w K mg base CX0 1 fI fd ["self", "argument"] (sp_init K C) ∧ Binds K fd ["self", "argument"] []
theorem p_err {X : Cx} {x : Str} {C : Addr} {k : Nat} {e : Expr} {es : List Expr} {ta : TA} {p pos : Pos} (E : ErrK X.prog X.w X.K X.mg X.base x C) (hr : Room k X.A) (ha : PA X (e :: es) ta) (hj : 2 ≤ k := by decide) (hg : Gl X x := by rfl)
    (hdb : (x == ("__debug__" : Str)) = false := by decide) (he : starEach (e :: es) X.env = (false, eval e X.env) :: starEach es X.env := by rfl) (hpl : (backTo pos (starEach es X.env)).any (·.1) = false := by rfl) :
    L2N.PMk X (.Call (.Name x p) (e :: es) [] pos) (tMkO C (sp_init X.K C) [] ta) := by
  obtain ⟨fI, fd, i1, i2, F, b⟩ := E.ini
  exact pmkN E.oex i1 i2 F (hr.mono hj) b E.gC ha hg hdb he hpl
theorem w_mkO {C : Addr} {sp : Sp} {dvs : List V} {ta : TA} {σ : L2.St} {H : Hp} {Q : XK} : tMkO C sp dvs ta σ H Q = ta σ H fun vs H1 => vs.length ≤ 1000 ∧ ∀ a, H1 a = none → sp (.ref a :: (vs ++ dvs)) (upd H1 a (exo a C none))
  (fun v H2 => v = .non ∧ ∃ (d : Addr) (fs : List (Str × V)), H2 a = some (exo a C (some d)) ∧ H2 d = some (exd d fs) ∧ H1 d = none ∧ Q (.ref C) (some d) (upd (del H2 a) d (.xd fs))) (fun _ _ _ => False) := rfl
theorem u_mkO {K : PySem.W.Frag} {C : Addr} {y : V} {H : Hp} {Q : XK} (q : ∀ d, H d = none → Q (.ref C) (some d) (upd H d (.xd [("argument", y)]))) (a : Addr) (ha : H a = none) : sp_init K C [.ref a, y] (upd H a (exo a C none))
  (fun v H2 => v = .non ∧ ∃ (d : Addr) (fs : List (Str × V)), H2 a = some (exo a C (some d)) ∧ H2 d = some (exd d fs) ∧ H d = none ∧ Q (.ref C) (some d) (upd (del H2 a) d (.xd fs))) (fun _ _ _ => False) := by
  refine ⟨a, y, rfl, upd_same, fun dx hdx hne => ⟨rfl, dx, [("argument", y)], upd_same, ?_, ?_, ?_⟩⟩
  · rw [upd_ne hne, upd_same]
  · rw [upd_ne hne] at hdx
    exact hdx
  · rw [upd_ne hne] at hdx
    have e : upd (del (upd (upd (upd H a (exo a C none)) dx (exd dx [("argument", y)])) a (exo a C (some dx))) a) dx (.xd [("argument", y)]) = upd H dx (.xd [("argument", y)]) := by
      funext b
      by_cases h1 : b = dx
      · rw [h1, upd_same, upd_same]
      · rw [upd_ne h1, upd_ne h1]
        by_cases h2 : b = a
        · rw [h2, del_same, ha]
        · rw [del_ne h2, upd_ne h2, upd_ne h1, upd_ne h2]
    rw [e]
    exact q dx hdx
structure Ad where
  (bn bs be bt tl cl ni nm en me : Addr)
structure TxtE (K : PySem.W.Frag) (mg : Str → Option Value) (A : Ad) : Prop extends Txt3 K mg where
  m_ValueError : mg "ValueError" = none
  g_BadNumber : mg "BadNumber" = some (.ref A.bn)
  g_BadShape : mg "BadShape" = some (.ref A.bs)
  g_BadElement : mg "BadElement" = some (.ref A.be)
  g_BadText : mg "BadText" = some (.ref A.bt)
  g_TooLarge : mg "TooLarge" = some (.ref A.tl)
  g_Clash : mg "Clash" = some (.ref A.cl)
  g_NoInverse : mg "NoInverse" = some (.ref A.ni)
  g_NotMade : mg "NotMade" = some (.ref A.nm)
  g_Ended : mg "Ended" = some (.ref A.en)
  g_MendError : mg "MendError" = some (.ref A.me)
/-- which of the classes an error of the class at C is of: one of the first three -/
structure Kinds (K : PySem.W.Frag) (A : Ad) (C : Addr) (b1 b2 b3 : Bool) : Prop where
  bn : PySem.W.kitOne K (.ref C) (.ref A.bn) = some b1
  bs : PySem.W.kitOne K (.ref C) (.ref A.bs) = some b2
  be : PySem.W.kitOne K (.ref C) (.ref A.be) = some b3
  bt : PySem.W.kitOne K (.ref C) (.ref A.bt) = some false
  tl : PySem.W.kitOne K (.ref C) (.ref A.tl) = some false
  cl : PySem.W.kitOne K (.ref C) (.ref A.cl) = some false
  ni : PySem.W.kitOne K (.ref C) (.ref A.ni) = some false
  nm : PySem.W.kitOne K (.ref C) (.ref A.nm) = some false
  en : PySem.W.kitOne K (.ref C) (.ref A.en) = some false
  me : PySem.W.kitOne K (.ref C) (.ref A.me) = some true
  ve : PySem.W.kitOne K (.ref C) (.type "ValueError") = some true
abbrev s_check_number : Stmt := topS 12
theorem sc_check_number : FnScope ["value", "low", "high", "argument"] ["value", "low", "high", "argument"] (defScope s_check_number) := ⟨rfl, rfl, rfl, by decide +kernel, rfl, by decide +kernel, by decide +kernel⟩

abbrev s_law_kind : Stmt := topS 34
theorem sc_law_kind : FnScope ["error", "found"] ["error"] (defScope s_law_kind) := ⟨rfl, rfl, rfl, by decide +kernel, rfl, by decide +kernel, by decide +kernel⟩

abbrev s_BadNumber___init__ : Stmt := inClass (topS 2) 0
theorem sc_BadNumber___init__ : FnScope ["self", "argument"] ["self", "argument"] (defScope s_BadNumber___init__) := ⟨rfl, rfl, rfl, by decide +kernel, rfl, by decide +kernel, by decide +kernel⟩

section
variable {P : Program} {w : World} {K : PySem.W.Frag} {mg : Str → Option Value} {base : Heap} {f : Addr} {fd : FuncData}
theorem ok_init {C : Addr} (F : Fun K "__init__" "BadNumber.__init__" s_BadNumber___init__ f fd) (oex : OexC K C) (no : PySem.W.findIn K (.ref C) "argument" = some none) : FnOk P w K mg base CX0 1 f fd ["self", "argument"] (sp_init K C) := by
  refine F.ok sc_BadNumber___init__ (fun vs H Q E h => ?_) (fun cdv A outer s H vs Q E hr h => ?_)
  · obtain ⟨a, y, rfl, _⟩ := h
    rfl
  · obtain ⟨a, y, rfl, ea, q⟩ := h
    exact ⟨_, pss_one (ps_ost (pv 0) (pv 1)), y, rfl, .ref a, rfl, a, C, rfl, oex, no, Or.inl ⟨ea, q⟩⟩
/-- a number in its bounds; else BadNumber -/
def sp_check_number (C : Addr) : Sp := fun vs H Q E => ∃ v lo hi n z, vs = [v, .int lo, .int hi, z] ∧ zTyV v H = some n ∧ (wholeB v lo hi = true → Q v H) ∧ (wholeB v lo hi = false → ∀ d, H d = none → E (.ref C) (some d) (upd H d (.xd [("argument", z)])))
theorem w_is_whole {v : V} {lo hi : Int} {H : Hp} {Q : VK} {E : XK} {n : String} (h : zTyV v H = some n) : sp_is_whole [v, .int lo, .int hi] H Q E = Q (.bl (wholeB v lo hi)) H := by
  refine propext ⟨fun ⟨a, b, c, m, e, h', q⟩ => ?_, fun q => ⟨v, lo, hi, n, rfl, h, q⟩⟩
  cases e
  exact q
theorem ok_check_number {A : Ad} (F : Fun K "check_number" "check_number" s_check_number f fd) (C_is_whole : Cal P w K mg base "is_whole" 1 ["value", "low", "high"] sp_is_whole) (E_BadNumber : ErrK P w K mg base "BadNumber" A.bn) :
    FnOk P w K mg base (CN P w) 3 f fd ["value", "low", "high", "argument"] (sp_check_number A.bn) := by
  refine okN F sc_check_number (fun vs H Q E h => ?_) (fun cdv Ar outer s H vs Q E hr h => ?_)
  · obtain ⟨v, lo, hi, n, z, rfl, _⟩ := h
    rfl
  · obtain ⟨v, lo, hi, n, z, rfl, ht, q, qe⟩ := h
    refine ⟨_, (pss_cons (ps_if (pt_not (pt_val (p_call C_is_whole hr (pa_cons (pv 0) (pa_cons (pv 1) (pa_cons (pv 2) pa_nil)))))) (pss_one (L2N.ps_raise rfl (L2N.takes_of rfl rfl rfl rfl) (p_err E_BadNumber hr (pa_cons (pv 3) pa_nil)))) pss_nil)
      (pss_one (ps_ret (pv 0)))), ?_⟩
    simp only [w_seq, w_next, w_ret, w_asg, w_ifs, w_drop, w_brk, w_cont, w_name, w_var, w_c, w_op, w_un, w_I, w_I0, w_U, w_eq, w_scII, w_scBB, w_scSS, w_scNN, w_zi, w_zb, w_zn, w_zs, V.int.injEq, V.bl.injEq, V.str.injEq, V.ref.injEq, w_ne, w_test, w_B, w_and, w_or, w_not, w_andV, w_orV, w_notV, w_if, w_isN, w_nil, w_cons, w_cb, w_call, w_tup, w_lst, w_sub, w_intI, w_intB, w_isTyH, w_typ, w_isH, w_ixH, w_lenH, w_absH, w_listH, w_strH, w_bm, w_chain, w_exB, w_exV, w_start, k_ii, k_ib, k_is, k_il, k_it, k_bi, k_bb, k_bs, k_bl, k_bt, k_ni, k_nb, k_ns, k_nl, k_nt, k_si, k_sb, k_ss, k_sl, k_st, k_li, k_lb, k_ls, k_ll, k_lt, k_ti, k_tb, k_ts, k_tl, k_tt, w_st1, w_st2, w_st3, w_st5, atI_s0, atI_s1, atI_s2, atI_s3, atI_s4, atI_s5, List.map_cons, List.map_nil, List.length_cons, List.length_nil, List.replicate, List.cons_append, List.nil_append, List.append_nil, List.getElem?_cons_zero, List.getElem?_cons_succ, List.set_cons_zero, List.set_cons_succ, Nat.sub_self, Nat.reduceAdd, Nat.reduceSub, List.replicate_zero, decide_eq_true_eq, Bool.true_eq_false, Bool.false_eq_true, if_true, if_false, reduceIte, Bool.not_eq_true', decide_eq_false_iff_not, Bool.not_true, Bool.not_false, exists_eq_left', true_and, and_true, Option.some.injEq, reduceCtorEq, decide_true, decide_false, not_true_eq_false, not_false_eq_true, sizeLine_eq, Nat.reduceLeDiff, Bool.or_false, Bool.or_true, Bool.false_or, Bool.true_or, wp1, wp2, w_par, w_par2, w_tsl, w_nopart, w_part, w_exI, w_is_whole ht, w_mkO]
    cases hb : wholeB v lo hi with
    | true =>
      rw [if_neg (by decide)]
      exact q hb
    | false =>
      rw [if_pos rfl]
      exact fun a ha => u_mkO (qe hb) a ha
def kindS (b1 b2 : Bool) : Str := if b1 = true then "BadNumber" else if b2 = true then "BadShape" else "BadElement"
/-- a pair of the class's name and the argument -/
def sp_kind (K : PySem.W.Frag) (A : Ad) (p : Addr × Obj) : Sp := fun vs H Q _ => ∃ (C d : Addr) (y : V) (b1 b2 b3 : Bool), vs = [.ref p.1] ∧ ErrAt p C d ∧ XcC K C ∧ PySem.W.findIn K (.ref C) "argument" = some none ∧ Kinds K A C b1 b2 b3 ∧
  ((b1, b2, b3) = (true, false, false) ∨ (b1, b2, b3) = (false, true, false) ∨ (b1, b2, b3) = (false, false, true)) ∧ H d = some (.xd [("argument", y)]) ∧
  ∀ t H', Same H H' → H t = none → H' t = some (.tup [.str (kindS b1 b2), y]) → Q (.ref t) H'
theorem ok_kind {A : Ad} (F : Fun K "_law_kind" "_law_kind" s_law_kind f fd) (T : TxtE K mg A) : FnE P w K mg base 1 f fd ["error"] (sp_kind K A) := by
  refine okE F sc_law_kind (fun p vs H Q E h => ?_) (fun p cdv Ar outer s H vs Q E hot hr h => ?_)
  · obtain ⟨C, d, y, b1, b2, b3, rfl, _⟩ := h
    rfl
  · obtain ⟨C, d, y, b1, b2, b3, rfl, z, XC, no, kk, hb, hd, q⟩ := h
    have hp : p ∈ (cxH CX0 P w K mg base ["error", "found"] "_law_kind" (defScope s_law_kind) f cdv Ar outer s H E p).pn := List.mem_singleton.mpr rfl
    refine ⟨_, (pss_cons (ps_set (i := 1) sc_law_kind.nd rfl (.inl rfl) (pe_lst pa_nil))
      (pss_cons (ps_if (pt_val (pe_callB (call_isE XC z hp) (by rfl) T.m_isinstance (by decide +kernel) (pa_cons (pv 0) (pa_cons (pe_glob (v := .ref A.bn) rfl T.g_BadNumber rfl) pa_nil)))) (pss_one (ps_expr (pe_bm PySem.F.plainAttrs_list PySem.F.slot_list_append PySem.F.type_list_append mt_append (pv 1) (pa_cons (pe_tup (pa_cons pe_str (pa_cons (pe_errF XC no z hp (pv 0)) pa_nil))) pa_nil)))) pss_nil)
      (pss_cons (ps_if (pt_val (pe_callB (call_isE XC z hp) (by rfl) T.m_isinstance (by decide +kernel) (pa_cons (pv 0) (pa_cons (pe_glob (v := .ref A.bs) rfl T.g_BadShape rfl) pa_nil)))) (pss_one (ps_expr (pe_bm PySem.F.plainAttrs_list PySem.F.slot_list_append PySem.F.type_list_append mt_append (pv 1) (pa_cons (pe_tup (pa_cons pe_str (pa_cons (pe_errF XC no z hp (pv 0)) pa_nil))) pa_nil)))) pss_nil)
      (pss_cons (ps_if (pt_val (pe_callB (call_isE XC z hp) (by rfl) T.m_isinstance (by decide +kernel) (pa_cons (pv 0) (pa_cons (pe_glob (v := .ref A.be) rfl T.g_BadElement rfl) pa_nil)))) (pss_one (ps_expr (pe_bm PySem.F.plainAttrs_list PySem.F.slot_list_append PySem.F.type_list_append mt_append (pv 1) (pa_cons (pe_tup (pa_cons pe_str (pa_cons (pe_errF XC no z hp (pv 0)) pa_nil))) pa_nil)))) pss_nil)
      (pss_cons (ps_if (pt_val (pe_callB (call_isE XC z hp) (by rfl) T.m_isinstance (by decide +kernel) (pa_cons (pv 0) (pa_cons (pe_glob (v := .ref A.bt) rfl T.g_BadText rfl) pa_nil)))) (pss_one ps_never) pss_nil)
      (pss_cons (ps_if (pt_val (pe_callB (call_isE XC z hp) (by rfl) T.m_isinstance (by decide +kernel) (pa_cons (pv 0) (pa_cons (pe_glob (v := .ref A.tl) rfl T.g_TooLarge rfl) pa_nil)))) (pss_one ps_never) pss_nil)
      (pss_cons (ps_if (pt_val (pe_callB (call_isE XC z hp) (by rfl) T.m_isinstance (by decide +kernel) (pa_cons (pv 0) (pa_cons (pe_glob (v := .ref A.cl) rfl T.g_Clash rfl) pa_nil)))) (pss_one ps_never) pss_nil)
      (pss_cons (ps_if (pt_val (pe_callB (call_isE XC z hp) (by rfl) T.m_isinstance (by decide +kernel) (pa_cons (pv 0) (pa_cons (pe_glob (v := .ref A.ni) rfl T.g_NoInverse rfl) pa_nil)))) (pss_one ps_never) pss_nil)
      (pss_cons (ps_if (pt_val (pe_callB (call_isE XC z hp) (by rfl) T.m_isinstance (by decide +kernel) (pa_cons (pv 0) (pa_cons (pe_glob (v := .ref A.nm) rfl T.g_NotMade rfl) pa_nil)))) (pss_one ps_never) pss_nil)
      (pss_cons (ps_if (pt_val (pe_callB (call_isE XC z hp) (by rfl) T.m_isinstance (by decide +kernel) (pa_cons (pv 0) (pa_cons (pe_glob (v := .ref A.en) rfl T.g_Ended rfl) pa_nil)))) (pss_one ps_never) pss_nil)
      (pss_cons (ps_if (PW.pt (pw_or (pt_cmpR op_ne (pe_callB call_lenH (by rfl) T.m_len (by decide +kernel) (pa_cons (pv 1) pa_nil)) pe_int (nomark _)) (pw_or (pt_not (pt_val (pe_callB (call_isE XC z hp) (by rfl) T.m_isinstance (by decide +kernel) (pa_cons (pv 0) (pa_cons (pe_glob (v := .ref A.me) rfl T.g_MendError rfl) pa_nil))))) (pw_or1 (pt_not (pt_val (pe_callB (call_isE XC z hp) (by rfl) T.m_isinstance (by decide +kernel) (pa_cons (pv 0) (pa_cons (pe_bltn (v := .ty "ValueError") (u := .type "ValueError") (by rfl) T.m_ValueError (by decide +kernel) rel_ty) pa_nil))))))))) (pss_one (ps_ret (pe_tup (pa_cons pe_str pa_nil)))) pss_nil)
      (pss_one (ps_ret (pe_ix ix_H (pv 1) pe_int (fun _ _ => rfl))))))))))))))), ?_⟩
    have isE : ∀ (G : Hp) (c : Addr) (R : VK), G d = some (.xd [("argument", y)]) → rIsE K C d p.1 [.ref p.1, .ref c] G R = ∃ b, PySem.W.kitOne K (.ref C) (.ref c) = some b ∧ R (.bl b) G := fun G c R e => w_isE e
    have isT : ∀ (G : Hp) (n : String) (R : VK), G d = some (.xd [("argument", y)]) → rIsE K C d p.1 [.ref p.1, .ty n] G R = ∃ b, PySem.W.kitOne K (.ref C) (.type n) = some b ∧ R (.bl b) G := fun G n R e => w_isEt e
    have lk : List.lookup ("argument" : Str) [(("argument" : Str), y)] = some y := rfl
    have cK : (cxH CX0 P w K mg base ["error", "found"] "_law_kind" (defScope s_law_kind) f cdv Ar outer s H E p).K = K := rfl
    simp only [w_seq, w_next, w_ret, w_asg, w_ifs, w_drop, w_brk, w_cont, w_name, w_var, w_c, w_op, w_un, w_I, w_I0, w_U, w_eq, w_scII, w_scBB, w_scSS, w_scNN, w_zi, w_zb, w_zn, w_zs, V.int.injEq, V.bl.injEq, V.str.injEq, V.ref.injEq, w_ne, w_test, w_B, w_and, w_or, w_not, w_andV, w_orV, w_notV, w_if, w_isN, w_nil, w_cons, w_cb, w_call, w_tup, w_lst, w_sub, w_intI, w_intB, w_isTyH, w_typ, w_isH, w_ixH, w_lenH, w_absH, w_listH, w_strH, w_bm, w_chain, w_exB, w_exV, w_start, k_ii, k_ib, k_is, k_il, k_it, k_bi, k_bb, k_bs, k_bl, k_bt, k_ni, k_nb, k_ns, k_nl, k_nt, k_si, k_sb, k_ss, k_sl, k_st, k_li, k_lb, k_ls, k_ll, k_lt, k_ti, k_tb, k_ts, k_tl, k_tt, w_st1, w_st2, w_st3, w_st5, atI_s0, atI_s1, atI_s2, atI_s3, atI_s4, atI_s5, List.map_cons, List.map_nil, List.length_cons, List.length_nil, List.replicate, List.cons_append, List.nil_append, List.append_nil, List.getElem?_cons_zero, List.getElem?_cons_succ, List.set_cons_zero, List.set_cons_succ, Nat.sub_self, Nat.reduceAdd, Nat.reduceSub, List.replicate_zero, decide_eq_true_eq, Bool.true_eq_false, Bool.false_eq_true, if_true, if_false, reduceIte, Bool.not_eq_true', decide_eq_false_iff_not, Bool.not_true, Bool.not_false, exists_eq_left', true_and, and_true, Option.some.injEq, reduceCtorEq, decide_true, decide_false, not_true_eq_false, not_false_eq_true, sizeLine_eq, Nat.reduceLeDiff, Bool.or_false, Bool.or_true, Bool.false_or, Bool.true_or, wp1, wp2, w_par, w_par2, w_tsl, w_nopart, w_part, w_exI, cK]
    intro l hl
    have d1 : d ≠ l := ne_of_none hd hl
    have u1 : ∀ (G : Hp) (o : HO), upd G l o d = G d := fun G o => upd_ne d1
    have fin : ∀ (t : Addr) (nm : Str), upd H l (.lst []) t = none → nm = kindS b1 b2 → ∀ R : Hp → Prop, (∀ G : Hp, Same H G → G t = some (.tup [.str nm, y]) → G l = some (.lst [.ref t]) → t ≠ l → d ≠ t → H t = none → R G) →
        rAppend (.ref l) [.ref t] (upd (upd H l (.lst [])) t (.tup [.str nm, y])) fun _ G => R G := fun t nm ht en R k => by
      have tl : t ≠ l := fun e => by
        rw [e, upd_same] at ht
        cases ht
      have ht0 : H t = none := by
        rw [upd_ne tl] at ht
        exact ht
      have dt : d ≠ t := ne_of_none hd ht0
      have e1 : upd (upd H l (.lst [])) t (.tup [.str nm, y]) l = some (.lst []) := by
        rw [upd_ne (Ne.symm tl), upd_same]
      rw [w_append e1]
      refine ⟨by decide, k _ (same_mut (same_mut (same_new hl) ht0) hl) ?_ upd_same tl dt ht0⟩
      rw [upd_ne tl, upd_same]
    rcases hb with hb | hb | hb
    · cases hb
      simp only [w_seq, w_next, w_ret, w_asg, w_ifs, w_drop, w_brk, w_cont, w_name, w_var, w_c, w_op, w_un, w_I, w_I0, w_U, w_eq, w_scII, w_scBB, w_scSS, w_scNN, w_zi, w_zb, w_zn, w_zs, V.int.injEq, V.bl.injEq, V.str.injEq, V.ref.injEq, w_ne, w_test, w_B, w_and, w_or, w_not, w_andV, w_orV, w_notV, w_if, w_isN, w_nil, w_cons, w_cb, w_call, w_tup, w_lst, w_sub, w_intI, w_intB, w_isTyH, w_typ, w_isH, w_ixH, w_lenH, w_absH, w_listH, w_strH, w_bm, w_chain, w_exB, w_exV, w_start, k_ii, k_ib, k_is, k_il, k_it, k_bi, k_bb, k_bs, k_bl, k_bt, k_ni, k_nb, k_ns, k_nl, k_nt, k_si, k_sb, k_ss, k_sl, k_st, k_li, k_lb, k_ls, k_ll, k_lt, k_ti, k_tb, k_ts, k_tl, k_tt, w_st1, w_st2, w_st3, w_st5, atI_s0, atI_s1, atI_s2, atI_s3, atI_s4, atI_s5, List.map_cons, List.map_nil, List.length_cons, List.length_nil, List.replicate, List.cons_append, List.nil_append, List.append_nil, List.getElem?_cons_zero, List.getElem?_cons_succ, List.set_cons_zero, List.set_cons_succ, Nat.sub_self, Nat.reduceAdd, Nat.reduceSub, List.replicate_zero, decide_eq_true_eq, Bool.true_eq_false, Bool.false_eq_true, if_true, if_false, reduceIte, Bool.not_eq_true', decide_eq_false_iff_not, Bool.not_true, Bool.not_false, exists_eq_left', true_and, and_true, Option.some.injEq, reduceCtorEq, decide_true, decide_false, not_true_eq_false, not_false_eq_true, sizeLine_eq, Nat.reduceLeDiff, Bool.or_false, Bool.or_true, Bool.false_or, Bool.true_or, wp1, wp2, w_par, w_par2, w_tsl, w_nopart, w_part, w_exI, isE, isT, u1, hd, kk.bn, kk.bs, kk.be, w_errF, cK, w_tyL upd_same]
      refine ⟨_, y, rfl, lk, fun t ht => fin t _ ht rfl _ fun G sG tG lG tl dt ht0 => ?_⟩
      have dG := sG _ _ hd
      simp only [w_seq, w_next, w_ret, w_asg, w_ifs, w_drop, w_brk, w_cont, w_name, w_var, w_c, w_op, w_un, w_I, w_I0, w_U, w_eq, w_scII, w_scBB, w_scSS, w_scNN, w_zi, w_zb, w_zn, w_zs, V.int.injEq, V.bl.injEq, V.str.injEq, V.ref.injEq, w_ne, w_test, w_B, w_and, w_or, w_not, w_andV, w_orV, w_notV, w_if, w_isN, w_nil, w_cons, w_cb, w_call, w_tup, w_lst, w_sub, w_intI, w_intB, w_isTyH, w_typ, w_isH, w_ixH, w_lenH, w_absH, w_listH, w_strH, w_bm, w_chain, w_exB, w_exV, w_start, k_ii, k_ib, k_is, k_il, k_it, k_bi, k_bb, k_bs, k_bl, k_bt, k_ni, k_nb, k_ns, k_nl, k_nt, k_si, k_sb, k_ss, k_sl, k_st, k_li, k_lb, k_ls, k_ll, k_lt, k_ti, k_tb, k_ts, k_tl, k_tt, w_st1, w_st2, w_st3, w_st5, atI_s0, atI_s1, atI_s2, atI_s3, atI_s4, atI_s5, List.map_cons, List.map_nil, List.length_cons, List.length_nil, List.replicate, List.cons_append, List.nil_append, List.append_nil, List.getElem?_cons_zero, List.getElem?_cons_succ, List.set_cons_zero, List.set_cons_succ, Nat.sub_self, Nat.reduceAdd, Nat.reduceSub, List.replicate_zero, decide_eq_true_eq, Bool.true_eq_false, Bool.false_eq_true, if_true, if_false, reduceIte, Bool.not_eq_true', decide_eq_false_iff_not, Bool.not_true, Bool.not_false, exists_eq_left', true_and, and_true, Option.some.injEq, reduceCtorEq, decide_true, decide_false, not_true_eq_false, not_false_eq_true, sizeLine_eq, Nat.reduceLeDiff, Bool.or_false, Bool.or_true, Bool.false_or, Bool.true_or, wp1, wp2, w_par, w_par2, w_tsl, w_nopart, w_part, w_exI, isE, isT, dG, kk.bs, kk.be, kk.bt, kk.tl, kk.cl, kk.ni, kk.nm, kk.en, kk.me, kk.ve, seqAt_l lG, w_errF, cK]
      rw [if_neg (by decide)]
      exact ⟨_, rfl, q t G sG ht0 tG⟩
    · cases hb
      simp only [w_seq, w_next, w_ret, w_asg, w_ifs, w_drop, w_brk, w_cont, w_name, w_var, w_c, w_op, w_un, w_I, w_I0, w_U, w_eq, w_scII, w_scBB, w_scSS, w_scNN, w_zi, w_zb, w_zn, w_zs, V.int.injEq, V.bl.injEq, V.str.injEq, V.ref.injEq, w_ne, w_test, w_B, w_and, w_or, w_not, w_andV, w_orV, w_notV, w_if, w_isN, w_nil, w_cons, w_cb, w_call, w_tup, w_lst, w_sub, w_intI, w_intB, w_isTyH, w_typ, w_isH, w_ixH, w_lenH, w_absH, w_listH, w_strH, w_bm, w_chain, w_exB, w_exV, w_start, k_ii, k_ib, k_is, k_il, k_it, k_bi, k_bb, k_bs, k_bl, k_bt, k_ni, k_nb, k_ns, k_nl, k_nt, k_si, k_sb, k_ss, k_sl, k_st, k_li, k_lb, k_ls, k_ll, k_lt, k_ti, k_tb, k_ts, k_tl, k_tt, w_st1, w_st2, w_st3, w_st5, atI_s0, atI_s1, atI_s2, atI_s3, atI_s4, atI_s5, List.map_cons, List.map_nil, List.length_cons, List.length_nil, List.replicate, List.cons_append, List.nil_append, List.append_nil, List.getElem?_cons_zero, List.getElem?_cons_succ, List.set_cons_zero, List.set_cons_succ, Nat.sub_self, Nat.reduceAdd, Nat.reduceSub, List.replicate_zero, decide_eq_true_eq, Bool.true_eq_false, Bool.false_eq_true, if_true, if_false, reduceIte, Bool.not_eq_true', decide_eq_false_iff_not, Bool.not_true, Bool.not_false, exists_eq_left', true_and, and_true, Option.some.injEq, reduceCtorEq, decide_true, decide_false, not_true_eq_false, not_false_eq_true, sizeLine_eq, Nat.reduceLeDiff, Bool.or_false, Bool.or_true, Bool.false_or, Bool.true_or, wp1, wp2, w_par, w_par2, w_tsl, w_nopart, w_part, w_exI, isE, isT, u1, hd, kk.bn, kk.bs, kk.be, w_errF, cK, w_tyL upd_same]
      refine ⟨_, y, rfl, lk, fun t ht => fin t _ ht rfl _ fun G sG tG lG tl dt ht0 => ?_⟩
      have dG := sG _ _ hd
      simp only [w_seq, w_next, w_ret, w_asg, w_ifs, w_drop, w_brk, w_cont, w_name, w_var, w_c, w_op, w_un, w_I, w_I0, w_U, w_eq, w_scII, w_scBB, w_scSS, w_scNN, w_zi, w_zb, w_zn, w_zs, V.int.injEq, V.bl.injEq, V.str.injEq, V.ref.injEq, w_ne, w_test, w_B, w_and, w_or, w_not, w_andV, w_orV, w_notV, w_if, w_isN, w_nil, w_cons, w_cb, w_call, w_tup, w_lst, w_sub, w_intI, w_intB, w_isTyH, w_typ, w_isH, w_ixH, w_lenH, w_absH, w_listH, w_strH, w_bm, w_chain, w_exB, w_exV, w_start, k_ii, k_ib, k_is, k_il, k_it, k_bi, k_bb, k_bs, k_bl, k_bt, k_ni, k_nb, k_ns, k_nl, k_nt, k_si, k_sb, k_ss, k_sl, k_st, k_li, k_lb, k_ls, k_ll, k_lt, k_ti, k_tb, k_ts, k_tl, k_tt, w_st1, w_st2, w_st3, w_st5, atI_s0, atI_s1, atI_s2, atI_s3, atI_s4, atI_s5, List.map_cons, List.map_nil, List.length_cons, List.length_nil, List.replicate, List.cons_append, List.nil_append, List.append_nil, List.getElem?_cons_zero, List.getElem?_cons_succ, List.set_cons_zero, List.set_cons_succ, Nat.sub_self, Nat.reduceAdd, Nat.reduceSub, List.replicate_zero, decide_eq_true_eq, Bool.true_eq_false, Bool.false_eq_true, if_true, if_false, reduceIte, Bool.not_eq_true', decide_eq_false_iff_not, Bool.not_true, Bool.not_false, exists_eq_left', true_and, and_true, Option.some.injEq, reduceCtorEq, decide_true, decide_false, not_true_eq_false, not_false_eq_true, sizeLine_eq, Nat.reduceLeDiff, Bool.or_false, Bool.or_true, Bool.false_or, Bool.true_or, wp1, wp2, w_par, w_par2, w_tsl, w_nopart, w_part, w_exI, isE, isT, dG, kk.bs, kk.be, kk.bt, kk.tl, kk.cl, kk.ni, kk.nm, kk.en, kk.me, kk.ve, seqAt_l lG, w_errF, cK]
      rw [if_neg (by decide)]
      exact ⟨_, rfl, q t G sG ht0 tG⟩
    · cases hb
      simp only [w_seq, w_next, w_ret, w_asg, w_ifs, w_drop, w_brk, w_cont, w_name, w_var, w_c, w_op, w_un, w_I, w_I0, w_U, w_eq, w_scII, w_scBB, w_scSS, w_scNN, w_zi, w_zb, w_zn, w_zs, V.int.injEq, V.bl.injEq, V.str.injEq, V.ref.injEq, w_ne, w_test, w_B, w_and, w_or, w_not, w_andV, w_orV, w_notV, w_if, w_isN, w_nil, w_cons, w_cb, w_call, w_tup, w_lst, w_sub, w_intI, w_intB, w_isTyH, w_typ, w_isH, w_ixH, w_lenH, w_absH, w_listH, w_strH, w_bm, w_chain, w_exB, w_exV, w_start, k_ii, k_ib, k_is, k_il, k_it, k_bi, k_bb, k_bs, k_bl, k_bt, k_ni, k_nb, k_ns, k_nl, k_nt, k_si, k_sb, k_ss, k_sl, k_st, k_li, k_lb, k_ls, k_ll, k_lt, k_ti, k_tb, k_ts, k_tl, k_tt, w_st1, w_st2, w_st3, w_st5, atI_s0, atI_s1, atI_s2, atI_s3, atI_s4, atI_s5, List.map_cons, List.map_nil, List.length_cons, List.length_nil, List.replicate, List.cons_append, List.nil_append, List.append_nil, List.getElem?_cons_zero, List.getElem?_cons_succ, List.set_cons_zero, List.set_cons_succ, Nat.sub_self, Nat.reduceAdd, Nat.reduceSub, List.replicate_zero, decide_eq_true_eq, Bool.true_eq_false, Bool.false_eq_true, if_true, if_false, reduceIte, Bool.not_eq_true', decide_eq_false_iff_not, Bool.not_true, Bool.not_false, exists_eq_left', true_and, and_true, Option.some.injEq, reduceCtorEq, decide_true, decide_false, not_true_eq_false, not_false_eq_true, sizeLine_eq, Nat.reduceLeDiff, Bool.or_false, Bool.or_true, Bool.false_or, Bool.true_or, wp1, wp2, w_par, w_par2, w_tsl, w_nopart, w_part, w_exI, isE, isT, u1, hd, kk.bn, kk.bs, kk.be, w_errF, cK, w_tyL upd_same]
      refine ⟨_, y, rfl, lk, fun t ht => fin t _ ht rfl _ fun G sG tG lG tl dt ht0 => ?_⟩
      have dG := sG _ _ hd
      simp only [w_seq, w_next, w_ret, w_asg, w_ifs, w_drop, w_brk, w_cont, w_name, w_var, w_c, w_op, w_un, w_I, w_I0, w_U, w_eq, w_scII, w_scBB, w_scSS, w_scNN, w_zi, w_zb, w_zn, w_zs, V.int.injEq, V.bl.injEq, V.str.injEq, V.ref.injEq, w_ne, w_test, w_B, w_and, w_or, w_not, w_andV, w_orV, w_notV, w_if, w_isN, w_nil, w_cons, w_cb, w_call, w_tup, w_lst, w_sub, w_intI, w_intB, w_isTyH, w_typ, w_isH, w_ixH, w_lenH, w_absH, w_listH, w_strH, w_bm, w_chain, w_exB, w_exV, w_start, k_ii, k_ib, k_is, k_il, k_it, k_bi, k_bb, k_bs, k_bl, k_bt, k_ni, k_nb, k_ns, k_nl, k_nt, k_si, k_sb, k_ss, k_sl, k_st, k_li, k_lb, k_ls, k_ll, k_lt, k_ti, k_tb, k_ts, k_tl, k_tt, w_st1, w_st2, w_st3, w_st5, atI_s0, atI_s1, atI_s2, atI_s3, atI_s4, atI_s5, List.map_cons, List.map_nil, List.length_cons, List.length_nil, List.replicate, List.cons_append, List.nil_append, List.append_nil, List.getElem?_cons_zero, List.getElem?_cons_succ, List.set_cons_zero, List.set_cons_succ, Nat.sub_self, Nat.reduceAdd, Nat.reduceSub, List.replicate_zero, decide_eq_true_eq, Bool.true_eq_false, Bool.false_eq_true, if_true, if_false, reduceIte, Bool.not_eq_true', decide_eq_false_iff_not, Bool.not_true, Bool.not_false, exists_eq_left', true_and, and_true, Option.some.injEq, reduceCtorEq, decide_true, decide_false, not_true_eq_false, not_false_eq_true, sizeLine_eq, Nat.reduceLeDiff, Bool.or_false, Bool.or_true, Bool.false_or, Bool.true_or, wp1, wp2, w_par, w_par2, w_tsl, w_nopart, w_part, w_exI, isE, isT, dG, kk.bs, kk.be, kk.bt, kk.tl, kk.cl, kk.ni, kk.nm, kk.en, kk.me, kk.ve, seqAt_l lG, w_errF, cK]
      rw [if_neg (by decide)]
      exact ⟨_, rfl, q t G sG ht0 tG⟩
end
end Mt

namespace Mt
open PySem PySem.Spec PyProof.Rows L2 L2H

theorem takesN {X : Cx} : L2N.Takes X (fun _ _ _ _ => False) := fun _ _ x => by
  obtain ⟨_, _, _, _, _, _, _, _, _, _, _, _, _, _, _, _, z⟩ := x
  exact z.elim
/-- f(error) in the suite: the error at a, its class cls, its dict d -/
def tCallE (a : Addr) (cls : Value) (d : Option Addr) (sp : Addr × Obj → Sp) (t : TA) : TE := fun σ H Q => ∃ C dd, cls = .ref C ∧ d = some dd ∧ t σ H fun vs H1 => ∀ oe, ErrAt (a, oe) C dd → sp (a, oe) vs H1 Q E0
theorem p_callS {X : Cx} {a : Addr} {oe : Obj} {cls : Value} {d : Option Addr} {pn : List (Addr × Obj)} {x : Str} {j k : Nat} {ps : List Str} {sp : Addr × Obj → Sp} {e : Expr} {es : List Expr} {t : TA} {q pos : Pos} (C : CalE X.prog X.w X.K X.mg X.base x j ps sp) (hr : Room k X.A)
    (hz : L2N.Zn cls d oe) (hf : ∃ vs, oe.data = .fields vs) (ha : PA (X.suite a ((a, oe) :: pn)) (e :: es) t) (hj : j ≤ k := by decide) (hg : Gl (X.suite a ((a, oe) :: pn)) x := by rfl)
    (hdb : (x == ("__debug__" : Str)) = false := by decide) (he : starEach (e :: es) X.env = (false, eval e X.env) :: starEach es X.env := by rfl) (hpl : (backTo pos (starEach es X.env)).any (·.1) = false := by rfl) :
    PE (X.suite a ((a, oe) :: pn)) (.Call (.Name x q) (e :: es) [] pos) (tCallE a cls d sp t) := by
  obtain ⟨vs, hv⟩ := hf
  refine ⟨fun pins s σ H Q I h => ?_⟩
  obtain ⟨C', dd, rfl, rfl, h⟩ := h
  obtain ⟨f, fd, F, gm, kp, b⟩ := C.ex
  have hot : Hot1 (X.suite a ((a, oe) :: pn)).A (a, oe) := ⟨rfl, vs, hv, hz.2.2 vs hv⟩
  have hp : (a, oe) ∈ (X.suite a ((a, oe) :: pn)).pn := List.mem_cons_self ..
  refine wpAny_Call_Name_kw (ld_glob I hg gm (PySem.W.callWith_K (h₀ := X.base) I.ok.mod.kin kp (thn (ha.run pos pins s σ H _ I h) fun us s1 ⟨ws, H1, I1, r, hq⟩ => ⟨I1.kIn, ?_⟩) he hpl) hdb)
  have hq := hq oe ⟨hz, vs, hv⟩
  have hl : us.length = ps.length := by
    rw [← r.length]
    exact F.len _ _ _ _ _ hq
  have b1 := b s1 us I1.kIn (by rw [List.append_nil]; exact hl)
  rw [List.append_nil] at b1
  have P1 := I1.pin (a, oe) (List.mem_append_left _ hp)
  have pin : PinOk (X.suite a ((a, oe) :: pn)).stack H1 s1 (a, oe) := ⟨P1.1, P1.2.1, fun hm => (List.mem_cons.mp (I1.stkSub a hm)).elim P1.2.2.1 P1.2.2.2.1, P1.2.2.2.2⟩
  refine wpAny_call (codeAny_mono (F.run (a, oe) (X.suite a ((a, oe) :: pn)).A (X.suite a ((a, oe) :: pn)).stack s1 H1 ⟨us, []⟩ us ws Q E0 ⟨(hr.mono hj).dp, (hr.mono hj).un⟩ hot pin I1.env0 b1 r hq) fun r' s' hr' => ?_)
  cases r' with
  | error e => exact False.elim hr'
  | ok fl =>
    cases fl with
    | ret u => exact I1.after hr'
    | _ => exact False.elim hr'
theorem w_callE {a : Addr} {C dd : Addr} {sp : Addr × Obj → Sp} {t : TA} {σ : L2.St} {H : Hp} {Q : VK} : tCallE a (.ref C) (some dd) sp t σ H Q = t σ H fun vs H1 => ∀ oe, ErrAt (a, oe) C dd → sp (a, oe) vs H1 Q E0 := by
  refine propext ⟨fun ⟨C', d', e1, e2, q⟩ => ?_, fun q => ⟨C, dd, rfl, rfl, q⟩⟩
  cases e1
  cases e2
  exact q
abbrev s_check_ring : Stmt := topS 19
theorem sc_check_ring : FnScope ["letters", "checks"] ["letters", "checks"] (defScope s_check_ring) := ⟨rfl, rfl, rfl, by decide +kernel, rfl, by decide +kernel, by decide +kernel⟩

abbrev s_ring_checks : Stmt := topS 20
theorem sc_ring_checks : FnScope ["letters", "checks"] ["letters", "checks"] (defScope s_ring_checks) := ⟨rfl, rfl, rfl, by decide +kernel, rfl, by decide +kernel, by decide +kernel⟩

abbrev s_ring_trail : Stmt := topS 22
theorem sc_ring_trail : FnScope ["letters", "checks", "trail"] ["letters", "checks"] (defScope s_ring_trail) := ⟨rfl, rfl, rfl, by decide +kernel, rfl, by decide +kernel, by decide +kernel⟩

abbrev s_law_ask : Stmt := topS 36
theorem sc_law_ask : FnScope ["word", "letters", "checks", "error"] ["word", "letters", "checks"] (defScope s_law_ask) := ⟨rfl, rfl, rfl, by decide +kernel, rfl, by decide +kernel, by decide +kernel⟩

structure TxtB (K : PySem.W.Frag) (mg : Str → Option Value) (A : Ad) (tm : Tok) : Prop extends TxtE K mg A where
  g_MOST : mg "MOST" = some (.int 12 tm)
section
variable {P : Program} {w : World} {K : PySem.W.Frag} {mg : Str → Option Value} {base : Heap} {f : Addr} {fd : FuncData}
def okRing (a b : V) : Bool := wholeB a 0 12 && wholeB b 0 12
/-- of two numbers 0 to 12 nothing; else BadNumber of the first that is wrong -/
def ringArg (a : V) : Str := if wholeB a 0 12 = true then "checks" else "letters"
def sp_check_ring (C : Addr) : Sp := fun vs H Q E => ∃ a b n m, vs = [a, b] ∧ zTyV a H = some n ∧ zTyV b H = some m ∧ (okRing a b = true → Q .non H) ∧ (okRing a b = false → ∀ d, H d = none → E (.ref C) (some d) (upd H d (.xd [("argument", .str (ringArg a))])))
theorem ok_check_ring {A : Ad} {tm : Tok} (F : Fun K "check_ring" "check_ring" s_check_ring f fd) (T : TxtB K mg A tm) (C_check_number : CalX P w K mg base "check_number" 3 ["value", "low", "high", "argument"] (sp_check_number A.bn)) :
    FnOk P w K mg base (CN P w) 4 f fd ["letters", "checks"] (sp_check_ring A.bn) := by
  refine okN F sc_check_ring (fun vs H Q E h => ?_) (fun cdv Ar outer s H vs Q E hr h => ?_)
  · obtain ⟨a, b, n, m, rfl, _⟩ := h
    rfl
  · obtain ⟨a, b, n, m, rfl, h1, h2, q, qe⟩ := h
    refine ⟨_, (pss_cons (ps_expr (p_callX C_check_number hr (L2N.takes_of rfl rfl rfl rfl) (pa_cons (pv 0) (pa_cons pe_int (pa_cons (pe_glob (v := .int 12) rfl T.g_MOST ⟨_, rfl⟩) (pa_cons pe_str pa_nil))))))
      (pss_one (ps_expr (p_callX C_check_number hr (L2N.takes_of rfl rfl rfl rfl) (pa_cons (pv 1) (pa_cons pe_int (pa_cons (pe_glob (v := .int 12) rfl T.g_MOST ⟨_, rfl⟩) (pa_cons pe_str pa_nil)))))))), ?_⟩
    simp only [w_seq, w_next, w_ret, w_asg, w_ifs, w_drop, w_brk, w_cont, w_name, w_var, w_c, w_op, w_un, w_I, w_I0, w_U, w_eq, w_scII, w_scBB, w_scSS, w_scNN, w_zi, w_zb, w_zn, w_zs, V.int.injEq, V.bl.injEq, V.str.injEq, V.ref.injEq, w_ne, w_test, w_B, w_and, w_or, w_not, w_andV, w_orV, w_notV, w_if, w_isN, w_nil, w_cons, w_cb, w_call, w_tup, w_lst, w_sub, w_intI, w_intB, w_isTyH, w_typ, w_isH, w_ixH, w_lenH, w_absH, w_listH, w_strH, w_bm, w_chain, w_exB, w_exV, w_start, k_ii, k_ib, k_is, k_il, k_it, k_bi, k_bb, k_bs, k_bl, k_bt, k_ni, k_nb, k_ns, k_nl, k_nt, k_si, k_sb, k_ss, k_sl, k_st, k_li, k_lb, k_ls, k_ll, k_lt, k_ti, k_tb, k_ts, k_tl, k_tt, w_st1, w_st2, w_st3, w_st5, atI_s0, atI_s1, atI_s2, atI_s3, atI_s4, atI_s5, List.map_cons, List.map_nil, List.length_cons, List.length_nil, List.replicate, List.cons_append, List.nil_append, List.append_nil, List.getElem?_cons_zero, List.getElem?_cons_succ, List.set_cons_zero, List.set_cons_succ, Nat.sub_self, Nat.reduceAdd, Nat.reduceSub, List.replicate_zero, decide_eq_true_eq, Bool.true_eq_false, Bool.false_eq_true, if_true, if_false, reduceIte, Bool.not_eq_true', decide_eq_false_iff_not, Bool.not_true, Bool.not_false, exists_eq_left', true_and, and_true, Option.some.injEq, reduceCtorEq, decide_true, decide_false, not_true_eq_false, not_false_eq_true, sizeLine_eq, Nat.reduceLeDiff, Bool.or_false, Bool.or_true, Bool.false_or, Bool.true_or, wp1, wp2, w_par, w_par2, w_tsl, w_nopart, w_part, w_exI, w_callS]
    refine ⟨a, 0, 12, n, .str "letters", rfl, h1, fun k1 => ?_, fun k1 d hd => ?_⟩
    · refine ⟨b, 0, 12, m, .str "checks", rfl, h2, fun k2 => ?_, fun k2 d hd => ?_⟩
      · refine q ?_
        unfold okRing
        rw [k1, k2]
        rfl
      · have e : ringArg a = "checks" := by
          unfold ringArg
          rw [k1] <;> rfl
        have := qe (by unfold okRing; rw [k1, k2]; rfl) d hd
        rw [e] at this
        exact this
    · have e : ringArg a = "letters" := by
        unfold ringArg
        rw [k1] <;> rfl
      have := qe (by unfold okRing; rw [k1]; rfl) d hd
      rw [e] at this
      exact this
end
end Mt

/-! ### new data; comprehensions whose items are new data -/
namespace Mt
open PySem PySem.Spec PyProof.Rows L2
mutual
theorem rep_some {H : Hp} : ∀ (d : D) (v : V) (as : List Addr), Rep H d v as → ∀ a ∈ as, ∃ xs, H a = some (.lst xs)
  | .non, v, as, h => by simp only [Rep] at h; rw [h.2]; intro a ha; cases ha
  | .bl b, v, as, h => by simp only [Rep] at h; rw [h.2]; intro a ha; cases ha
  | .int b, v, as, h => by simp only [Rep] at h; rw [h.2]; intro a ha; cases ha
  | .str b, v, as, h => by simp only [Rep] at h; rw [h.2]; intro a ha; cases ha
  | .lst ds, v, as, h => by
    simp only [Rep] at h
    obtain ⟨a, vs, bs, e1, e2, e3, e4, _⟩ := h
    subst e4
    intro b hb
    cases hb with
    | head => exact ⟨_, e2⟩
    | tail _ hb => exact reps_some ds vs bs e3 b hb
  | .tup ds, v, as, h => by
    simp only [Rep] at h
    obtain ⟨a, vs, bs, e1, e2, e3, e4, _⟩ := h
    subst e4
    exact reps_some ds vs as e3
theorem reps_some {H : Hp} : ∀ (ds : List D) (vs : List V) (as : List Addr), Reps H ds vs as → ∀ a ∈ as, ∃ xs, H a = some (.lst xs)
  | [], vs, as, h => by simp only [Reps] at h; rw [h.2]; intro a ha; cases ha
  | d :: ds, vs, as, h => by
    simp only [Reps] at h
    obtain ⟨v, r, bs, cs, e1, e2, e3, e4⟩ := h
    subst e4
    intro a ha
    rcases List.mem_append.mp ha with ha | ha
    · exact rep_some d v bs e2 a ha
    · exact reps_some ds r cs e3 a ha
end
theorem reps_snoc {H : Hp} : ∀ {ds : List D} {vs : List V} {as : List Addr} {d : D} {v : V} {bs : List Addr}, Reps H ds vs as → Rep H d v bs → Reps H (ds ++ [d]) (vs ++ [v]) (as ++ bs)
  | [], vs, as, d, v, bs, h, g => by
    simp only [Reps] at h
    obtain ⟨rfl, rfl⟩ := h
    show Reps H [d] [v] bs
    simp only [Reps]
    exact ⟨v, [], bs, [], rfl, g, ⟨rfl, rfl⟩, (List.append_nil bs).symm⟩
  | d0 :: ds, vs, as, d, v, bs, h, g => by
    simp only [Reps] at h
    obtain ⟨v0, r, cs, es, rfl, e2, e3, rfl⟩ := h
    show Reps H (d0 :: (ds ++ [d])) (v0 :: (r ++ [v])) _
    simp only [Reps]
    exact ⟨v0, r ++ [v], cs, es ++ bs, rfl, e2, reps_snoc e3 g, List.append_assoc ..⟩
/-- y is data d, laid anew between the two heaps -/
structure Fr (H H' : Hp) (d : D) (y : V) : Prop where
  same : Same H H'
  rep : ∃ as, Rep H' d y as ∧ as.Nodup ∧ ∀ a ∈ as, H a = none
def EvF (te : TE) (σ : L2.St) (H : Hp) (d : D) : Prop := ∀ H1, Same H H1 → ∀ Q : VK, (∀ y H2, Fr H1 H2 d y → Q y H2) → te σ H1 Q
theorem Fr.int {H H' : Hp} {i : Int} (s : Same H H') : Fr H H' (.int i) (.int i) := ⟨s, [], by simp [Rep], List.nodup_nil, fun a h => nomatch h⟩
/-- the new list under way: D, its items so far -/
def Grow (H : Hp) (D' : Addr) (ds : List D) (H' : Hp) : Prop := ∃ acc as, Same H H' ∧ H' D' = some (.lst acc) ∧ Reps H' ds acc as ∧ as.Nodup ∧ ∀ a ∈ as, H a = none ∧ a ≠ D'
theorem grow_0 {H : Hp} {D' : Addr} (h : H D' = none) : Grow H D' [] (upd H D' (.lst [])) := ⟨[], [], same_new h, upd_same, by simp [Reps], List.nodup_nil, fun a h => nomatch h⟩
theorem grow_s {H H1 H2 : Hp} {D' : Addr} {ds : List D} {d : D} {y : V} (hD : H D' = none) (g : Grow H D' ds H1) (f : Fr H1 H2 d y) (hz : ds.length < 1000000) : ∃ acc, H2 D' = some (.lst acc) ∧ acc.length < sizeLine ∧ Grow H D' (ds ++ [d]) (upd H2 D' (.lst (acc ++ [y]))) := by
  obtain ⟨acc, as, s1, e1, r1, n1, f1⟩ := g
  obtain ⟨s2, bs, r2, n2, f2⟩ := f
  have e2 := s2 _ _ e1
  have hz2 : acc.length < sizeLine := by
    rw [reps_len r1, sizeLine_eq]
    omega
  have fb : ∀ b ∈ bs, H b = none ∧ b ≠ D' := fun b hb => by
    have hb1 := f2 b hb
    refine ⟨s1.free hb1, fun e => ?_⟩
    rw [e, e1] at hb1
    cases hb1
  have ht : ∀ a xs, H2 a = some (.tup xs) → upd H2 D' (.lst (acc ++ [y])) a = some (.tup xs) := fun a xs e => by
    rw [upd_ne (fun z => by rw [z, e2] at e; cases e)]
    exact e
  have ra := reps_mono ht _ _ _ (reps_same s2 r1) fun a ha xs e => by
    rw [upd_ne (f1 a ha).2]
    exact e
  have rb := rep_mono ht _ _ _ r2 fun a ha xs e => by
    rw [upd_ne (fb a ha).2]
    exact e
  refine ⟨acc, e2, hz2, acc ++ [y], as ++ bs, same_mut (s1.trans s2) hD, upd_same, reps_snoc ra rb, ?_, fun a ha => ?_⟩
  · refine List.nodup_append.mpr ⟨n1, n2, fun a ha b hb e => ?_⟩
    subst e
    obtain ⟨xs, hx⟩ := reps_some _ _ _ r1 a ha
    rw [f2 a hb] at hx
    cases hx
  · rcases List.mem_append.mp ha with ha | ha
    · exact f1 a ha
    · exact fb a ha
theorem grow_end {H H1 : Hp} {D' : Addr} {ds : List D} (hD : H D' = none) (g : Grow H D' ds H1) (hz : ds.length < 1000000) : Fr H H1 (.lst ds) (.ref D') := by
  obtain ⟨acc, as, s1, e1, r1, n1, f1⟩ := g
  refine ⟨s1, D' :: as, ?_, List.nodup_cons.mpr ⟨fun h => (f1 D' h).2 rfl, n1⟩, fun a ha => ?_⟩
  · simp only [Rep]
    exact ⟨D', acc, as, rfl, e1, r1, rfl, hz⟩
  · cases ha with
    | head => exact hD
    | tail _ ha => exact (f1 a ha).1
theorem wipe1 {σ : L2.St} {i : Nat} {x : Option V} : wipe ((wipe σ [i]).set i x) [i] = wipe σ [i] := by
  show ((σ.set i none).set i x).set i none = σ.set i none
  rw [List.set_set, List.set_set]
section
variable {ta : TA} {te tl : TE} {σ : L2.St} {H : Hp} {i : Nat} {K : PySem.W.Frag}
theorem lcF_range {n : Nat} {f : Nat → D} (hta : ∀ H1, Same H H1 → ∀ R : List V → Hp → Prop, R [.int n] H1 → ta σ H1 R) (hn : n < 1000000) (he : ∀ k, k < n → EvF te ((wipe σ [i]).set i (some (.int k))) H (f k)) :
    EvF (tLc (iRng1 ta) (gName i) tYes te [i]) σ H (.lst ((List.range n).map f)) := by
  intro H1 s1 Q q
  refine hta H1 s1 _ ⟨n, rfl, by omega, by omega, fun D' hD => lc_range (lo := 0) (n := n) (fun k H' => k ≤ n ∧ Grow H1 D' ((List.range k).map f) H') ⟨Nat.zero_le _, grow_0 hD⟩ ?_ ?_⟩
  · rintro k H' hk ⟨_, g⟩
    rw [Int.zero_add]
    refine ⟨wipe1, ?_⟩
    show te ((wipe σ [i]).set i (some (V.int k))) H' _
    have sg : Same H1 H' := by
      obtain ⟨_, _, s, _⟩ := g
      exact s
    refine he k hk H' (s1.trans sg) _ fun y H2 fr => ?_
    obtain ⟨acc, e1, e2, g2⟩ := grow_s hD g fr (by rw [List.length_map, List.length_range]; omega)
    refine ⟨acc, e1, e2, hk, ?_⟩
    rw [List.range_succ, List.map_append]
    exact g2
  · rintro H' ⟨_, g⟩
    exact q _ _ (grow_end hD g (by rw [List.length_map, List.length_range]; omega))
theorem lcF_list {a : Addr} {xs : List V} {ds : List D} (htl : ∀ H1, Same H H1 → ∀ R : VK, R (.ref a) H1 → tl σ H1 R) (hx : SqL K H a xs) (hl : ds.length = xs.length) (hn : xs.length < 1000000)
    (he : ∀ (k : Nat) (x : V) (d : D), xs[k]? = some x → ds[k]? = some d → EvF te ((wipe σ [i]).set i (some x)) H d) : EvF (tLc (iList K tl) (gName i) tYes te [i]) σ H (.lst ds) := by
  intro H1 s1 Q q
  refine htl H1 s1 _ ⟨a, rfl, ⟨xs, s1.seq hx⟩, fun D' hD => lc_list (K := K) (a := a) (xs := xs) (fun k H' => k ≤ xs.length ∧ Grow H1 D' (ds.take k) H') ⟨Nat.zero_le _, grow_0 hD⟩ ?_ ?_ ?_⟩
  · rintro k H' _ ⟨_, _, _, s, _⟩
    exact s.seq (s1.seq hx)
  · rintro k x H' hk ⟨_, g⟩
    have hk' : k < xs.length := (List.getElem?_eq_some_iff.mp hk).1
    refine ⟨wipe1, ?_⟩
    show te ((wipe σ [i]).set i (some x)) H' _
    have sg : Same H1 H' := by
      obtain ⟨_, _, s, _⟩ := g
      exact s
    have hd : ds[k]? = some (ds[k]'(by omega)) := List.getElem?_eq_getElem (by omega)
    refine he k x _ hk hd H' (s1.trans sg) _ fun y H2 fr => ?_
    obtain ⟨acc, e1, e2, g2⟩ := grow_s hD g fr (by rw [List.length_take]; omega)
    refine ⟨acc, e1, e2, hk', ?_⟩
    rw [List.take_add_one, hd]
    exact g2
  · rintro H' ⟨_, g⟩
    rw [← hl, List.take_length] at g
    exact q _ _ (grow_end hD g (by omega))
end
end Mt


namespace Mt
open PySem PySem.Spec PyProof.Rows L2 L2H
/-! ### rows of ints -/
def dRow (r : List Int) : D := .lst (r.map D.int)
def dMat (m : List (List Int)) : D := .lst (m.map dRow)
def uRow (n k : Nat) : List Int := (List.range n).map fun i => if i = k then 1 else 0
def cols (w : Nat) (m : List (List Int)) : List (List Int) := (List.range w).map fun p => m.map fun r => r.getD p 0
theorem reps_ints {H : Hp} : ∀ {r : List Int} {vs : List V} {as : List Addr}, Reps H (r.map D.int) vs as → vs = r.map V.int ∧ as = []
  | [], vs, as, h => by
    simp only [List.map_nil, Reps] at h
    exact h
  | x :: r, vs, as, h => by
    simp only [List.map_cons, Reps, Rep] at h
    obtain ⟨v, r', bs, cs, rfl, ⟨rfl, rfl⟩, e3, rfl⟩ := h
    obtain ⟨rfl, rfl⟩ := reps_ints e3
    exact ⟨rfl, rfl⟩
theorem reps_of_ints {H : Hp} : ∀ r : List Int, Reps H (r.map D.int) (r.map V.int) []
  | [] => by simp [Reps]
  | x :: r => by
    simp only [List.map_cons, Reps, Rep]
    exact ⟨_, _, [], [], rfl, ⟨rfl, rfl⟩, reps_of_ints r, rfl⟩
/-- a row of a matrix, where it stands -/
theorem rep_row {H : Hp} {r : List Int} {v : V} {as : List Addr} (h : Rep H (dRow r) v as) : ∃ a, v = .ref a ∧ H a = some (.lst (r.map V.int)) ∧ r.length < 1000000 ∧ as = [a] := by
  unfold dRow at h
  simp only [Rep, List.length_map] at h
  obtain ⟨a, vs, bs, rfl, e2, e3, rfl, e5⟩ := h
  obtain ⟨rfl, rfl⟩ := reps_ints e3
  exact ⟨a, rfl, e2, e5, rfl⟩
theorem rep_mat {H : Hp} {m : List (List Int)} {v : V} {as : List Addr} (h : Rep H (dMat m) v as) : ∃ a vs bs, v = .ref a ∧ H a = some (.lst vs) ∧ vs.length = m.length ∧ m.length < 1000000 ∧ Reps H (m.map dRow) vs bs ∧
    ∀ (k : Nat) (r : List Int), m[k]? = some r → ∃ b, vs[k]? = some (V.ref b) ∧ H b = some (.lst (r.map V.int)) := by
  unfold dMat at h
  simp only [Rep, List.length_map] at h
  obtain ⟨a, vs, bs, rfl, e2, e3, rfl, e5⟩ := h
  refine ⟨a, vs, bs, rfl, e2, by rw [reps_len e3, List.length_map], e5, e3, fun k r hk => ?_⟩
  have hk' : (m.map dRow)[k]? = some (dRow r) := by rw [List.getElem?_map, hk] <;> rfl
  obtain ⟨w, cs, e6, e7⟩ := reps_at e3 hk'
  obtain ⟨b, rfl, e8, _, _⟩ := rep_row e7
  exact ⟨b, e6, e8⟩
structure TxtC (K : PySem.W.Frag) (mg : Str → Option Value) (A : Ad) (tm : Tok) : Prop extends TxtB K mg A tm where
  m_zip : mg "zip" = none
  m_reversed : mg "reversed" = none
section
variable {te : TE} {σ : L2.St} {H : Hp} {i j : Nat} {K : PySem.W.Frag} {ta : TA}
theorem lcF_zip {a b : Addr} {xs ys : List V} {ds : List D} (hij : i ≠ j) (hta : ∀ H1, Same H H1 → ∀ R : List V → Hp → Prop, R [.ref a, .ref b] H1 → ta σ H1 R) (hx : SqL K H a xs) (hy : SqL K H b ys) (hl : ds.length = xs.length) (hl2 : ds.length = ys.length) (hn : xs.length < 1000000)
    (he : ∀ (k : Nat) (x y : V) (d : D), xs[k]? = some x → ys[k]? = some y → ds[k]? = some d → EvF te (((wipe σ [i, j]).set i (some x)).set j (some y)) H d) :
    EvF (tLc (iZip K ta) (gTup K 2 (gCons (gName i) (gCons (gName j) gNil))) tYes te [i, j]) σ H (.lst ds) := by
  intro H1 s1 Q q
  have w2 : ∀ x y : Option V, wipe (((wipe σ [i, j]).set i x).set j y) [i, j] = wipe σ [i, j] := fun x y => by
    show (((((σ.set j none).set i none).set i x).set j y).set j none).set i none = (σ.set j none).set i none
    rw [List.set_set, List.set_set, List.set_comm _ _ hij, List.set_set, List.set_set]
  refine hta H1 s1 _ ⟨a, b, xs, ys, rfl, s1.seq hx, s1.seq hy, fun D' hD => ?_⟩
  refine ⟨fun k m H' => m = xs.length - k ∧ k ≤ xs.length ∧ Grow H1 D' (ds.take k) H', ⟨xs.length, rfl, Nat.zero_le _, grow_0 hD⟩, ?_⟩
  rintro k m H' ⟨rfl, hk, g⟩
  have sg : Same H1 H' := by
    obtain ⟨_, _, s, _⟩ := g
    exact s
  have gx : SqL K H' a xs := sg.seq (s1.seq hx)
  have gy : SqL K H' b ys := sg.seq (s1.seq hy)
  by_cases hlt : k < xs.length
  · have ex : xs[k]? = some xs[k] := List.getElem?_eq_getElem hlt
    have ey : ys[k]? = some (ys[k]'(by omega)) := List.getElem?_eq_getElem (by omega)
    have ed : ds[k]? = some (ds[k]'(by omega)) := List.getElem?_eq_getElem (by omega)
    refine Or.inr ⟨⟨xs, ys, _, _, gx, gy, ex, ey⟩, fun H2 => k + 1 ≤ xs.length ∧ Grow H1 D' (ds.take (k + 1)) H2, fun H2 ⟨z1, z2⟩ => ⟨xs.length - (k + 1), by omega, rfl, z1, z2⟩, fun v H2 hy' => ?_⟩
    obtain ⟨T, x, y, rfl, nT, rfl, f1, f2⟩ := hy'
    have e1 := Option.some.inj ((f1 xs gx).symm.trans ex)
    have e2 := Option.some.inj ((f2 ys gy).symm.trans ey)
    subst e1 e2
    have sT : Same H' (upd H' T (.tup [xs[k], ys[k]'(by omega)])) := same_new nT
    refine ⟨T, [xs[k], ys[k]'(by omega)], rfl, Or.inl (Or.inl upd_same), rfl, xs[k], [ys[k]'(by omega)], rfl, ys[k]'(by omega), [], rfl, rfl, w2 _ _, ?_⟩
    show te (((wipe σ [i, j]).set i (some xs[k])).set j (some (ys[k]'(by omega)))) _ _
    refine he k _ _ _ ex ey ed _ (s1.trans (sg.trans sT)) _ fun z H2 fr => ?_
    have fr' : Fr H' H2 (ds[k]'(by omega)) z := by
      obtain ⟨s, cs, r, n, f⟩ := fr
      exact ⟨sT.trans s, cs, r, n, fun c hc => sT.free (f c hc)⟩
    obtain ⟨acc, e1, e2, g2⟩ := grow_s hD g fr' (by rw [List.length_take]; omega)
    refine ⟨acc, e1, e2, hlt, ?_⟩
    rw [List.take_add_one, ed]
    exact g2
  · have e : k = ds.length := by omega
    subst e
    rw [List.take_length] at g
    exact Or.inl ⟨⟨xs, ys, gx, gy, Or.inl (by omega)⟩, q _ _ (grow_end hD g (by omega))⟩
end
abbrev s_unit_row : Stmt := topS 14
theorem sc_unit_row : FnScope ["size", "place", "at"] ["size", "place"] (defScope s_unit_row) := ⟨rfl, rfl, rfl, by decide +kernel, rfl, by decide +kernel, by decide +kernel⟩

abbrev s_columns_of : Stmt := topS 15
theorem sc_columns_of : FnScope ["width", "rows", "place", "row"] ["width", "rows"] (defScope s_columns_of) := ⟨rfl, rfl, rfl, by decide +kernel, rfl, by decide +kernel, by decide +kernel⟩

abbrev s_join_rows : Stmt := topS 16
theorem sc_join_rows : FnScope ["a", "b", "left", "right"] ["a", "b"] (defScope s_join_rows) := ⟨rfl, rfl, rfl, by decide +kernel, rfl, by decide +kernel, by decide +kernel⟩

abbrev s_ring_matrix : Stmt := topS 21
theorem sc_ring_matrix : FnScope ["letters", "checks", "units", "_", "place"] ["letters", "checks"] (defScope s_ring_matrix) := ⟨rfl, rfl, rfl, by decide +kernel, rfl, by decide +kernel, by decide +kernel⟩

section
variable {P : Program} {w : World} {K : PySem.W.Frag} {mg : Str → Option Value} {base : Heap} {f : Addr} {fd : FuncData} {A : Ad} {tm : Tok}
def sp_unit_row : Sp := fun vs H Q _ => ∃ n k : Nat, vs = [.int n, .int k] ∧ n < 1000 ∧ ∀ y H', Fr H H' (dRow (uRow n k)) y → Q y H'
theorem ok_unit_row (F : Fun K "unit_row" "unit_row" s_unit_row f fd) (T : TxtC K mg A tm) : FnOk P w K mg base CX0 1 f fd ["size", "place"] sp_unit_row := by
  refine F.ok sc_unit_row (fun vs H Q E h => ?_) (fun cdv A outer s H vs Q E hr h => ?_)
  · obtain ⟨n, k, rfl, _⟩ := h
    rfl
  · obtain ⟨n, k, rfl, hn, q⟩ := h
    refine ⟨_, (pss_one (ps_ret (pe_lc (own := [("at", 2)]) (g := gName 2) rfl sc_unit_row.nd (pi_range1 (by rfl) T.m_range (pa_cons (pv 0) pa_nil)) (blkOk_by (N := ["size", "place", "at"]) (sc := defScope s_unit_row) (by decide +kernel)) (fun _ _ _ _ _ => pg_name (i := 2) sc_unit_row.nd rfl (.inl rfl)) (fun _ _ _ _ _ => pts_nil) (fun _ _ _ _ _ => (pe_ifExp (pt_cmpR op_eq (pv 2) (pv 1) (nomark _)) pe_int pe_int))))), ?_⟩
    have e : dRow (uRow n k) = .lst ((List.range n).map fun i => D.int (if i = k then 1 else 0)) := by
      unfold dRow uRow
      rw [List.map_map]
      rfl
    rw [e] at q
    refine lcF_range (n := n) (fun H1 _ R r => ⟨_, rfl, r⟩) (by omega) (fun i hi H1 s1 R r => ?_) H (Same.refl H) Q q
    simp only [w_seq, w_next, w_ret, w_asg, w_ifs, w_drop, w_brk, w_cont, w_name, w_var, w_c, w_op, w_un, w_I, w_I0, w_U, w_eq, w_scII, w_scBB, w_scSS, w_scNN, w_zi, w_zb, w_zn, w_zs, V.int.injEq, V.bl.injEq, V.str.injEq, V.ref.injEq, w_ne, w_test, w_B, w_and, w_or, w_not, w_andV, w_orV, w_notV, w_if, w_isN, w_nil, w_cons, w_cb, w_call, w_tup, w_lst, w_sub, w_intI, w_intB, w_isTyH, w_typ, w_isH, w_ixH, w_lenH, w_absH, w_listH, w_strH, w_bm, w_chain, w_exB, w_exV, w_start, k_ii, k_ib, k_is, k_il, k_it, k_bi, k_bb, k_bs, k_bl, k_bt, k_ni, k_nb, k_ns, k_nl, k_nt, k_si, k_sb, k_ss, k_sl, k_st, k_li, k_lb, k_ls, k_ll, k_lt, k_ti, k_tb, k_ts, k_tl, k_tt, w_st1, w_st2, w_st3, w_st5, atI_s0, atI_s1, atI_s2, atI_s3, atI_s4, atI_s5, List.map_cons, List.map_nil, List.length_cons, List.length_nil, List.replicate, List.cons_append, List.nil_append, List.append_nil, List.getElem?_cons_zero, List.getElem?_cons_succ, List.set_cons_zero, List.set_cons_succ, Nat.sub_self, Nat.reduceAdd, Nat.reduceSub, List.replicate_zero, decide_eq_true_eq, Bool.true_eq_false, Bool.false_eq_true, if_true, if_false, reduceIte, Bool.not_eq_true', decide_eq_false_iff_not, Bool.not_true, Bool.not_false, exists_eq_left', true_and, and_true, Option.some.injEq, reduceCtorEq, decide_true, decide_false, not_true_eq_false, not_false_eq_true, sizeLine_eq, Nat.reduceLeDiff, Bool.or_false, Bool.or_true, Bool.false_or, Bool.true_or, wp1, wp2, w_par, w_par2, w_tsl, w_nopart, w_part, w_exI]
    refine ite2 (fun z => ?_) (fun z => ?_)
    · have z' : i = k := by omega
      rw [if_pos z'] at r
      exact r _ _ (Fr.int (Same.refl _))
    · have z' : ¬ i = k := by omega
      rw [if_neg z'] at r
      exact r _ _ (Fr.int (Same.refl _))
/-- the columns of rows of ints -/
def sp_columns_of (K : PySem.W.Frag) : Sp := fun vs H Q _ => ∃ (wd : Nat) (m : List (List Int)) (v : V) (as : List Addr), vs = [.int wd, v] ∧ wd < 1000 ∧ Rep H (dMat m) v as ∧ (∀ r ∈ m, wd ≤ r.length) ∧ ∀ y H', Fr H H' (dMat (cols wd m)) y → Q y H'
theorem ok_columns_of (F : Fun K "columns_of" "columns_of" s_columns_of f fd) (T : TxtC K mg A tm) : FnOk P w K mg base CX0 1 f fd ["width", "rows"] (sp_columns_of K) := by
  refine F.ok sc_columns_of (fun vs H Q E h => ?_) (fun cdv A outer s H vs Q E hr h => ?_)
  · obtain ⟨wd, m, v, as, rfl, _⟩ := h
    rfl
  · obtain ⟨wd, m, v, as, rfl, hw, hm, hlen, q⟩ := h
    obtain ⟨a, va, bs, rfl, ea, la, zm, rm, row⟩ := rep_mat hm
    refine ⟨_, (pss_one (ps_ret (pe_lc (own := [("place", 2)]) (te := tLc (iList K (tVar 1)) (gName 3) tYes (tOp rIxH (tVar 3) (tVar 2)) [3]) (g := gName 2) rfl sc_columns_of.nd (pi_range1 (by rfl) T.m_range (pa_cons (pv 0) pa_nil)) (blkOk_by (N := ["width", "rows", "place", "row"]) (sc := defScope s_columns_of) (by decide +kernel)) (fun _ _ _ _ _ => pg_name (i := 2) sc_columns_of.nd rfl (.inr rfl)) (fun _ _ _ _ _ => pts_nil) (fun _ _ _ _ _ => (by exact (pe_lc (own := [("row", 3)]) (g := gName 3) rfl sc_columns_of.nd (pi_list (pv 1)) (blkOk_by (N := ["width", "rows", "place", "row"]) (by kernel_rfl)) (fun _ _ _ _ _ => pg_name (i := 3) sc_columns_of.nd rfl (.inl rfl)) (fun _ _ _ _ _ => pts_nil) (fun _ _ _ _ _ => (pe_ix ix_H (pv 3) (pv 2) (fun _ _ => rfl))))))))), ?_⟩
    have e : dMat (cols wd m) = .lst ((List.range wd).map fun p => D.lst (m.map fun r => D.int (r.getD p 0))) := by
      unfold dMat cols dRow
      rw [List.map_map]
      refine congrArg D.lst (List.map_congr_left fun p _ => ?_)
      show D.lst ((m.map fun r => r.getD p 0).map D.int) = _
      rw [List.map_map]
      rfl
    rw [e] at q
    refine lcF_range (n := wd) (fun H1 _ R r => ⟨_, rfl, r⟩) (by omega) (fun p hp => ?_) H (Same.refl H) Q q
    refine lcF_list (a := a) (xs := va) (fun H1 _ R r => ⟨_, rfl, r⟩) (Or.inl (Or.inl ea)) (by rw [List.length_map, la]) (by omega) (fun k x d hk hd H1 s1 R r => ?_)
    rw [List.getElem?_map] at hd
    obtain ⟨rw', hrw⟩ : ∃ rw', m[k]? = some rw' := ⟨_, List.getElem?_eq_getElem (by have := (List.getElem?_eq_some_iff.mp hk).1; omega)⟩
    rw [hrw] at hd
    have hd := Option.some.inj hd
    subst hd
    obtain ⟨b, eb, hb⟩ := row k rw' hrw
    rw [hk] at eb
    have eb := Option.some.inj eb
    subst eb
    have lp : p < rw'.length := Nat.lt_of_lt_of_le hp (hlen rw' (List.mem_of_getElem? hrw))
    have ix : atI (rw'.map V.int) (p : Int) = some (.int (rw'.getD p 0)) := by
      refine atI_nat ?_
      rw [List.getElem?_map, List.getElem?_eq_getElem lp, List.getD_eq_getElem?_getD, List.getElem?_eq_getElem lp]
      rfl
    simp only [w_seq, w_next, w_ret, w_asg, w_ifs, w_drop, w_brk, w_cont, w_name, w_var, w_c, w_op, w_un, w_I, w_I0, w_U, w_eq, w_scII, w_scBB, w_scSS, w_scNN, w_zi, w_zb, w_zn, w_zs, V.int.injEq, V.bl.injEq, V.str.injEq, V.ref.injEq, w_ne, w_test, w_B, w_and, w_or, w_not, w_andV, w_orV, w_notV, w_if, w_isN, w_nil, w_cons, w_cb, w_call, w_tup, w_lst, w_sub, w_intI, w_intB, w_isTyH, w_typ, w_isH, w_ixH, w_lenH, w_absH, w_listH, w_strH, w_bm, w_chain, w_exB, w_exV, w_start, k_ii, k_ib, k_is, k_il, k_it, k_bi, k_bb, k_bs, k_bl, k_bt, k_ni, k_nb, k_ns, k_nl, k_nt, k_si, k_sb, k_ss, k_sl, k_st, k_li, k_lb, k_ls, k_ll, k_lt, k_ti, k_tb, k_ts, k_tl, k_tt, w_st1, w_st2, w_st3, w_st5, atI_s0, atI_s1, atI_s2, atI_s3, atI_s4, atI_s5, List.map_cons, List.map_nil, List.length_cons, List.length_nil, List.replicate, List.cons_append, List.nil_append, List.append_nil, List.getElem?_cons_zero, List.getElem?_cons_succ, List.set_cons_zero, List.set_cons_succ, Nat.sub_self, Nat.reduceAdd, Nat.reduceSub, List.replicate_zero, decide_eq_true_eq, Bool.true_eq_false, Bool.false_eq_true, if_true, if_false, reduceIte, Bool.not_eq_true', decide_eq_false_iff_not, Bool.not_true, Bool.not_false, exists_eq_left', true_and, and_true, Option.some.injEq, reduceCtorEq, decide_true, decide_false, not_true_eq_false, not_false_eq_true, sizeLine_eq, Nat.reduceLeDiff, Bool.or_false, Bool.or_true, Bool.false_or, Bool.true_or, wp1, wp2, w_par, w_par2, w_tsl, w_nopart, w_part, w_exI, seqAt_l (s1 _ _ hb), ix]
    exact r _ _ (Fr.int (Same.refl _))
/-- rows put together -/
def sp_join_rows (K : PySem.W.Frag) : Sp := fun vs H Q _ => ∃ (m n : List (List Int)) (v u : V) (as bs : List Addr), vs = [v, u] ∧ Rep H (dMat m) v as ∧ Rep H (dMat n) u bs ∧ m.length = n.length ∧ (∀ r ∈ m, r.length < 1000) ∧ (∀ r ∈ n, r.length < 1000) ∧ ∀ y H', Fr H H' (dMat (List.zipWith (· ++ ·) m n)) y → Q y H'
theorem ok_join_rows (F : Fun K "join_rows" "join_rows" s_join_rows f fd) (T : TxtC K mg A tm) : FnOk P w K mg base CX0 1 f fd ["a", "b"] (sp_join_rows K) := by
  refine F.ok sc_join_rows (fun vs H Q E h => ?_) (fun cdv A outer s H vs Q E hr h => ?_)
  · obtain ⟨m, n, v, u, as, bs, rfl, _⟩ := h
    rfl
  · obtain ⟨m, n, v, u, as, bs, rfl, hm, hn, hl, b1, b2, q⟩ := h
    obtain ⟨a, va, ca, rfl, ea, la, zm, rm, rowm⟩ := rep_mat hm
    obtain ⟨b, vb, cb, rfl, eb, lb, zn, rn, rown⟩ := rep_mat hn
    refine ⟨_, (pss_one (ps_ret (pe_lc (own := [("left", 2), ("right", 3)]) (g := gTup K 2 (gCons (gName 2) (gCons (gName 3) gNil))) rfl sc_join_rows.nd (pi_zip (by rfl) T.m_zip (pa_cons (pv 0) (pa_cons (pv 1) pa_nil))) (blkOk_by (N := ["a", "b", "left", "right"]) (sc := defScope s_join_rows) (by decide +kernel)) (fun _ _ _ _ _ => by exact (pg_tup rfl (by exact pgs_cons (by exact pg_name (i := 2) sc_join_rows.nd rfl (.inl rfl)) (by exact pgs_cons (by exact pg_name (i := 3) sc_join_rows.nd rfl (.inl rfl)) pgs_nil)))) (fun _ _ _ _ _ => pts_nil) (fun _ _ _ _ _ => (pe_op op_cat (pv 2) (pv 3)))))), ?_⟩
    have e : dMat (List.zipWith (· ++ ·) m n) = .lst ((List.zipWith (· ++ ·) m n).map dRow) := rfl
    rw [e] at q
    have hlz : (List.zipWith (· ++ ·) m n).length = m.length := by
      rw [List.length_zipWith, hl, Nat.min_self]
    refine lcF_zip (i := 2) (j := 3) (a := a) (b := b) (xs := va) (ys := vb) (by decide) (fun H1 _ R r => ⟨_, rfl, _, rfl, r⟩) (Or.inl (Or.inl ea)) (Or.inl (Or.inl eb)) (by rw [List.length_map, hlz, la]) (by rw [List.length_map, hlz, lb, hl]) (by omega) (fun k x y d hx hy hd H1 s1 R r => ?_) H (Same.refl H) Q q
    have hk : k < va.length := (List.getElem?_eq_some_iff.mp hx).1
    obtain ⟨r1, h1⟩ : ∃ r1, m[k]? = some r1 := ⟨_, List.getElem?_eq_getElem (by omega)⟩
    obtain ⟨r2, h2⟩ : ∃ r2, n[k]? = some r2 := ⟨_, List.getElem?_eq_getElem (by omega)⟩
    obtain ⟨c1, e1, g1⟩ := rowm k r1 h1
    obtain ⟨c2, e2, g2⟩ := rown k r2 h2
    rw [hx] at e1
    rw [hy] at e2
    have e1 := Option.some.inj e1
    have e2 := Option.some.inj e2
    subst e1 e2
    have hd' : d = dRow (r1 ++ r2) := by
      rw [List.getElem?_map, List.getElem?_zipWith, h1, h2] at hd
      exact (Option.some.inj hd).symm
    subst hd'
    have l1 := b1 r1 (List.mem_of_getElem? h1)
    have l2 := b2 r2 (List.mem_of_getElem? h2)
    simp only [w_seq, w_next, w_ret, w_asg, w_ifs, w_drop, w_brk, w_cont, w_name, w_var, w_c, w_op, w_un, w_I, w_I0, w_U, w_eq, w_scII, w_scBB, w_scSS, w_scNN, w_zi, w_zb, w_zn, w_zs, V.int.injEq, V.bl.injEq, V.str.injEq, V.ref.injEq, w_ne, w_test, w_B, w_and, w_or, w_not, w_andV, w_orV, w_notV, w_if, w_isN, w_nil, w_cons, w_cb, w_call, w_tup, w_lst, w_sub, w_intI, w_intB, w_isTyH, w_typ, w_isH, w_ixH, w_lenH, w_absH, w_listH, w_strH, w_bm, w_chain, w_exB, w_exV, w_start, k_ii, k_ib, k_is, k_il, k_it, k_bi, k_bb, k_bs, k_bl, k_bt, k_ni, k_nb, k_ns, k_nl, k_nt, k_si, k_sb, k_ss, k_sl, k_st, k_li, k_lb, k_ls, k_ll, k_lt, k_ti, k_tb, k_ts, k_tl, k_tt, w_st1, w_st2, w_st3, w_st5, atI_s0, atI_s1, atI_s2, atI_s3, atI_s4, atI_s5, List.map_cons, List.map_nil, List.length_cons, List.length_nil, List.replicate, List.cons_append, List.nil_append, List.append_nil, List.getElem?_cons_zero, List.getElem?_cons_succ, List.set_cons_zero, List.set_cons_succ, Nat.sub_self, Nat.reduceAdd, Nat.reduceSub, List.replicate_zero, decide_eq_true_eq, Bool.true_eq_false, Bool.false_eq_true, if_true, if_false, reduceIte, Bool.not_eq_true', decide_eq_false_iff_not, Bool.not_true, Bool.not_false, exists_eq_left', true_and, and_true, Option.some.injEq, reduceCtorEq, decide_true, decide_false, not_true_eq_false, not_false_eq_true, sizeLine_eq, Nat.reduceLeDiff, Bool.or_false, Bool.or_true, Bool.false_or, Bool.true_or, wp1, wp2, w_par, w_par2, w_tsl, w_nopart, w_part, w_exI, w_cat (s1 _ _ g1) (s1 _ _ g2)]
    refine ⟨by rw [List.length_map, List.length_map]; omega, fun p hp => r _ _ ⟨same_new hp, [p], ?_, List.nodup_cons.mpr ⟨fun h => (nomatch h), List.nodup_nil⟩, fun a ha => by rw [List.mem_singleton.mp ha]; exact hp⟩⟩
    unfold dRow
    simp only [Rep]
    refine ⟨p, _, [], rfl, upd_same, ?_, rfl, by rw [List.length_map, List.length_append]; omega⟩
    rw [← List.map_append]
    exact reps_of_ints _
end
end Mt


namespace Mt
open PySem PySem.Spec PyProof.Rows L2 L2H
/-! ### the ring matrix and the trail -/
def ringF : Nat → Nat → Nat → List (List Int)
  | 0, _, _ => []
  | f + 1, l, c => if l = 0 ∨ c = 0 then (List.range l).map fun _ => [] else if l ≤ c then List.zipWith (· ++ ·) ((List.range l).map (uRow l)) (ringF f l (c - l)) else cols l (ringF f c l)
def okF : Nat → Nat → Nat → Bool
  | 0, _, _ => false
  | f + 1, l, c => if l = 0 ∨ c = 0 then true else if l ≤ c then okF f l (c - l) else okF f c l
theorem ring_shape : ∀ (f l c : Nat), okF f l c = true → (ringF f l c).length = l ∧ ∀ r ∈ ringF f l c, r.length = c ∨ l = 0
  | 0, l, c, h => by simp [okF] at h
  | f + 1, l, c, h => by
    unfold okF at h
    unfold ringF
    by_cases h0 : l = 0 ∨ c = 0
    · rw [if_pos h0]
      refine ⟨by rw [List.length_map, List.length_range], fun r hr => ?_⟩
      obtain ⟨_, _, rfl⟩ := List.mem_map.mp hr
      rcases h0 with h0 | h0
      · exact Or.inr h0
      · exact Or.inl h0.symm
    · rw [if_neg h0] at h ⊢
      by_cases h1 : l ≤ c
      · rw [if_pos h1] at h ⊢
        obtain ⟨e1, e2⟩ := ring_shape f l (c - l) h
        refine ⟨by rw [List.length_zipWith, List.length_map, List.length_range, e1, Nat.min_self], fun r hr => Or.inl ?_⟩
        obtain ⟨k, hk⟩ := List.mem_iff_getElem?.mp hr
        rw [List.getElem?_zipWith] at hk
        cases ha : ((List.range l).map (uRow l))[k]? with
        | none => rw [ha] at hk; cases hk
        | some a =>
          cases hb : (ringF f l (c - l))[k]? with
          | none => rw [ha, hb] at hk; cases hk
          | some b =>
            rw [ha, hb] at hk
            have hk := Option.some.inj hk
            obtain ⟨i, _, rfl⟩ := List.mem_map.mp (List.mem_of_getElem? ha)
            have := e2 b (List.mem_of_getElem? hb)
            rw [← hk, List.length_append]
            unfold uRow
            rw [List.length_map, List.length_range]
            omega
      · rw [if_neg h1] at h ⊢
        obtain ⟨e1, e2⟩ := ring_shape f c l h
        unfold cols
        refine ⟨by rw [List.length_map, List.length_range], fun r hr => Or.inl ?_⟩
        obtain ⟨i, _, rfl⟩ := List.mem_map.mp hr
        rw [List.length_map, e1]
theorem Fr.mat {H H' : Hp} {d : D} {y : V} (f : Fr H H' d y) : ∃ as, Rep H' d y as ∧ as.Nodup ∧ ∀ a ∈ as, H a = none := f.rep
theorem Fr.trans {H H1 H2 : Hp} {d : D} {y : V} (s : Same H H1) (f : Fr H1 H2 d y) : Fr H H2 d y := by
  obtain ⟨s2, as, r, n, k⟩ := f
  exact ⟨s.trans s2, as, r, n, fun a ha => s.free (k a ha)⟩
theorem fr_row {H : Hp} {p : Addr} {r : List Int} (hp : H p = none) (hz : r.length < 1000000) : Fr H (upd H p (.lst (r.map V.int))) (dRow r) (.ref p) := by
  refine ⟨same_new hp, [p], ?_, List.nodup_cons.mpr ⟨fun h => (nomatch h), List.nodup_nil⟩, fun a ha => by rw [List.mem_singleton.mp ha]; exact hp⟩
  unfold dRow
  simp only [Rep]
  exact ⟨p, _, [], rfl, upd_same, reps_of_ints r, rfl, by rw [List.length_map]; exact hz⟩
theorem evF_nil {σ : L2.St} {H : Hp} : EvF (tLst tNil) σ H (dRow []) := fun H1 s1 Q q => ⟨by decide, fun p hp => q _ _ (fr_row (r := []) hp (by decide))⟩
section
variable {P : Program} {w : World} {K : PySem.W.Frag} {mg : Str → Option Value} {base : Heap} {f : Addr} {fd : FuncData} {A : Ad} {tm : Tok}
theorem evF_unit {σ : L2.St} {H : Hp} {ta : TA} {n k : Nat} (hta : ∀ H1, Same H H1 → ∀ R : List V → Hp → Prop, R [.int n, .int k] H1 → ta σ H1 R) (hn : n < 1000) : EvF (tCall sp_unit_row [] E0 ta) σ H (dRow (uRow n k)) := fun H1 s1 Q q => hta H1 s1 _ ⟨n, k, rfl, hn, q⟩
def sp_ring (n : Nat) : Sp := fun vs H Q _ => ∃ l c : Nat, vs = [.int l, .int c] ∧ l < 1000 ∧ c < 1000 ∧ okF n l c = true ∧ ∀ y H', Fr H H' (dMat (ringF n l c)) y → Q y H'
theorem ok_ring_step (F : Fun K "ring_matrix" "ring_matrix" s_ring_matrix f fd) (T : TxtC K mg A tm) (k n : Nat) (hk : 1 ≤ k) (C_ring_matrix : Cal P w K mg base "ring_matrix" k ["letters", "checks"] (sp_ring n)) (C_unit_row : Cal P w K mg base "unit_row" 1 ["size", "place"] sp_unit_row)
    (C_join_rows : Cal P w K mg base "join_rows" 1 ["a", "b"] (sp_join_rows K)) (C_columns_of : Cal P w K mg base "columns_of" 1 ["width", "rows"] (sp_columns_of K)) : FnOk P w K mg base CX0 (k + 1) f fd ["letters", "checks"] (sp_ring (n + 1)) := by
  refine F.ok sc_ring_matrix (fun vs H Q E h => ?_) (fun cdv A outer s H vs Q E hr h => ?_)
  · obtain ⟨l, c, rfl, _⟩ := h
    rfl
  · obtain ⟨l, c, rfl, hl, hc, hok, q⟩ := h
    refine ⟨_, (pss_cons (ps_if (PW.pt (pw_or (pt_cmpR op_eq (pv 0) pe_int (nomark _)) (pw_or1 (pt_cmpR op_eq (pv 1) pe_int (nomark _))))) (pss_one (ps_ret (pe_lc (own := [("_", 3)]) (g := gName 3) rfl sc_ring_matrix.nd (pi_range1 (by rfl) T.m_range (pa_cons (pv 0) pa_nil)) (blkOk_by (N := ["letters", "checks", "units", "_", "place"]) (sc := defScope s_ring_matrix) (by decide +kernel)) (fun _ _ _ _ _ => pg_name (i := 3) sc_ring_matrix.nd rfl (.inl rfl)) (fun _ _ _ _ _ => pts_nil) (fun _ _ _ _ _ => (pe_lst pa_nil))))) pss_nil)
      (pss_cons (ps_if (pt_cmpR op_ge (pv 1) (pv 0) (nomark _)) (pss_cons (ps_setLc (i := 2) (own := [("place", 4)]) (g := gName 4) rfl sc_ring_matrix.nd rfl rfl (sw_true rfl rfl rfl (by decide +kernel)) (pi_range1 (by rfl) T.m_range (pa_cons (pv 0) pa_nil)) (blkOk_by (N := ["letters", "checks", "units", "_", "place"]) (sc := defScope s_ring_matrix) (by decide +kernel)) (fun _ _ _ _ _ => pg_name (i := 4) sc_ring_matrix.nd rfl (.inl rfl)) (fun _ _ _ _ _ => pts_nil) (fun _ _ _ _ _ => (p_call C_unit_row hr (pa_cons (pv 0) (pa_cons (pv 4) pa_nil)) (by omega))))
      (pss_one (ps_ret (p_call C_join_rows hr (pa_cons (pv 2) (pa_cons (p_call C_ring_matrix hr (pa_cons (pv 0) (pa_cons (pe_op op_sub (pv 1) (pv 0)) pa_nil)) (by omega)) pa_nil)) (by omega))))) pss_nil)
      (pss_one (ps_ret (p_call C_columns_of hr (pa_cons (pv 0) (pa_cons (p_call C_ring_matrix hr (pa_cons (pv 1) (pa_cons (pv 0) pa_nil)) (by omega)) pa_nil)) (by omega)))))), ?_⟩
    unfold okF at hok
    unfold ringF at q
    have c0 : (l = 0 ∨ c = 0) → tLc (iRng1 (tCons (tVar 0) tNil)) (gName 3) tYes (tLst tNil) [3] [some (V.int l), some (V.int c), none, none, none] H Q := fun z => by
      rw [if_pos z] at q
      have e : dMat ((List.range l).map fun _ => ([] : List Int)) = .lst ((List.range l).map fun _ => dRow []) := by
        unfold dMat
        rw [List.map_map]
        rfl
      rw [e] at q
      exact lcF_range (n := l) (fun H1 _ R r => ⟨_, rfl, r⟩) (by omega) (fun i hi => evF_nil) H (Same.refl H) Q q
    simp only [w_seq, w_next, w_ret, w_asg, w_ifs, w_drop, w_brk, w_cont, w_name, w_var, w_c, w_op, w_un, w_I, w_I0, w_U, w_eq, w_scII, w_scBB, w_scSS, w_scNN, w_zi, w_zb, w_zn, w_zs, V.int.injEq, V.bl.injEq, V.str.injEq, V.ref.injEq, w_ne, w_test, w_B, w_and, w_or, w_not, w_andV, w_orV, w_notV, w_if, w_isN, w_nil, w_cons, w_cb, w_call, w_tup, w_lst, w_sub, w_intI, w_intB, w_isTyH, w_typ, w_isH, w_ixH, w_lenH, w_absH, w_listH, w_strH, w_bm, w_chain, w_exB, w_exV, w_start, k_ii, k_ib, k_is, k_il, k_it, k_bi, k_bb, k_bs, k_bl, k_bt, k_ni, k_nb, k_ns, k_nl, k_nt, k_si, k_sb, k_ss, k_sl, k_st, k_li, k_lb, k_ls, k_ll, k_lt, k_ti, k_tb, k_ts, k_tl, k_tt, w_st1, w_st2, w_st3, w_st5, atI_s0, atI_s1, atI_s2, atI_s3, atI_s4, atI_s5, List.map_cons, List.map_nil, List.length_cons, List.length_nil, List.replicate, List.cons_append, List.nil_append, List.append_nil, List.getElem?_cons_zero, List.getElem?_cons_succ, List.set_cons_zero, List.set_cons_succ, Nat.sub_self, Nat.reduceAdd, Nat.reduceSub, List.replicate_zero, decide_eq_true_eq, Bool.true_eq_false, Bool.false_eq_true, if_true, if_false, reduceIte, Bool.not_eq_true', decide_eq_false_iff_not, Bool.not_true, Bool.not_false, exists_eq_left', true_and, and_true, Option.some.injEq, reduceCtorEq, decide_true, decide_false, not_true_eq_false, not_false_eq_true, sizeLine_eq, Nat.reduceLeDiff, Bool.or_false, Bool.or_true, Bool.false_or, Bool.true_or, wp1, wp2, w_par, w_par2, w_tsl, w_nopart, w_part, w_exI]
    refine ite2 (fun z => c0 (Or.inl (by omega))) (fun z1 => ite2 (fun z => c0 (Or.inr (by omega))) (fun z2 => ?_))
    have z0 : ¬ (l = 0 ∨ c = 0) := by omega
    rw [if_neg z0] at q hok
    refine ite2 (fun z => ?_) (fun z => ?_)
    · have z' : l ≤ c := by omega
      rw [if_pos z'] at q hok
      obtain ⟨g1, g2⟩ := ring_shape n l (c - l) hok
      have eu : D.lst ((List.range l).map fun k => dRow (uRow l k)) = dMat ((List.range l).map (uRow l)) := by
        unfold dMat
        rw [List.map_map]
        rfl
      refine lcF_range (n := l) (f := fun k => dRow (uRow l k)) (fun H1 _ R r => ⟨_, rfl, r⟩) (by omega) (fun i hi => evF_unit (fun H1 _ R r => ?_) hl) H (Same.refl H) _ (fun y H1 f1 => ?_)
      · simp only [w_seq, w_next, w_ret, w_asg, w_ifs, w_drop, w_brk, w_cont, w_name, w_var, w_c, w_op, w_un, w_I, w_I0, w_U, w_eq, w_scII, w_scBB, w_scSS, w_scNN, w_zi, w_zb, w_zn, w_zs, V.int.injEq, V.bl.injEq, V.str.injEq, V.ref.injEq, w_ne, w_test, w_B, w_and, w_or, w_not, w_andV, w_orV, w_notV, w_if, w_isN, w_nil, w_cons, w_cb, w_call, w_tup, w_lst, w_sub, w_intI, w_intB, w_isTyH, w_typ, w_isH, w_ixH, w_lenH, w_absH, w_listH, w_strH, w_bm, w_chain, w_exB, w_exV, w_start, k_ii, k_ib, k_is, k_il, k_it, k_bi, k_bb, k_bs, k_bl, k_bt, k_ni, k_nb, k_ns, k_nl, k_nt, k_si, k_sb, k_ss, k_sl, k_st, k_li, k_lb, k_ls, k_ll, k_lt, k_ti, k_tb, k_ts, k_tl, k_tt, w_st1, w_st2, w_st3, w_st5, atI_s0, atI_s1, atI_s2, atI_s3, atI_s4, atI_s5, List.map_cons, List.map_nil, List.length_cons, List.length_nil, List.replicate, List.cons_append, List.nil_append, List.append_nil, List.getElem?_cons_zero, List.getElem?_cons_succ, List.set_cons_zero, List.set_cons_succ, Nat.sub_self, Nat.reduceAdd, Nat.reduceSub, List.replicate_zero, decide_eq_true_eq, Bool.true_eq_false, Bool.false_eq_true, if_true, if_false, reduceIte, Bool.not_eq_true', decide_eq_false_iff_not, Bool.not_true, Bool.not_false, exists_eq_left', true_and, and_true, Option.some.injEq, reduceCtorEq, decide_true, decide_false, not_true_eq_false, not_false_eq_true, sizeLine_eq, Nat.reduceLeDiff, Bool.or_false, Bool.or_true, Bool.false_or, Bool.true_or, wp1, wp2, w_par, w_par2, w_tsl, w_nopart, w_part, w_exI]
        exact r
      rw [eu] at f1
      obtain ⟨as, r1, _, _⟩ := f1.rep
      refine ⟨l, c - l, by rw [show (c : Int) - (l : Int) = ((c - l : Nat) : Int) by omega], hl, by omega, hok, fun y2 H2 f2 => ?_⟩
      obtain ⟨bs, r2, _, _⟩ := f2.rep
      refine ⟨_, _, y, y2, as, bs, rfl, rep_same f2.same r1, r2, by rw [List.length_map, List.length_range, g1], fun r hr => ?_, fun r hr => ?_, fun y3 H3 f3 => q _ _ (f3.trans (f1.same.trans f2.same))⟩
      · obtain ⟨i, _, rfl⟩ := List.mem_map.mp hr
        unfold uRow
        rw [List.length_map, List.length_range]
        exact hl
      · have := g2 r hr
        omega
    · have z' : ¬ l ≤ c := by omega
      rw [if_neg z'] at q hok
      obtain ⟨g1, g2⟩ := ring_shape n c l hok
      refine ⟨c, l, rfl, hc, hl, hok, fun y H1 f1 => ?_⟩
      obtain ⟨as, r1, _, _⟩ := f1.rep
      refine ⟨l, _, y, as, rfl, hl, r1, fun r hr => ?_, fun y2 H2 f2 => q _ _ (f2.trans f1.same)⟩
      have := g2 r hr
      omega
theorem ok_ring (F : Fun K "ring_matrix" "ring_matrix" s_ring_matrix f fd) (T : TxtC K mg A tm) (gm : mg "ring_matrix" = some (.ref f)) (b : Binds K fd ["letters", "checks"] []) (C_unit_row : Cal P w K mg base "unit_row" 1 ["size", "place"] sp_unit_row)
    (C_join_rows : Cal P w K mg base "join_rows" 1 ["a", "b"] (sp_join_rows K)) (C_columns_of : Cal P w K mg base "columns_of" 1 ["width", "rows"] (sp_columns_of K)) : ∀ n : Nat, FnOk P w K mg base CX0 (n + 1) f fd ["letters", "checks"] (sp_ring n)
  | 0 => ⟨fun vs H Q E h => (by
      obtain ⟨l, c, _, _, _, h, _⟩ := h
      cases h), fun A outer s H args us vs Q E _ _ _ _ h => (by
      obtain ⟨l, c, _, _, _, h, _⟩ := h
      cases h)⟩
  | n + 1 => ok_ring_step F T (n + 1) n (by omega) ⟨f, fd, ok_ring F T gm b C_unit_row C_join_rows C_columns_of n, gm, F.kp, b⟩ C_unit_row C_join_rows C_columns_of
/-- ring_checks of two values -/
def sp_ring_checks (C : Addr) : Sp := fun vs H Q E => ∃ a b n m, vs = [a, b] ∧ zTyV a H = some n ∧ zTyV b H = some m ∧ (∀ l c : Nat, a = .int l → b = .int c → l ≤ 12 → c ≤ 12 → ∀ y H', Fr H H' (dMat (ringF 30 l c)) y → Q y H') ∧
  (okRing a b = false → ∀ d, H d = none → E (.ref C) (some d) (upd H d (.xd [("argument", .str (ringArg a))])))
theorem okRing_is {a b : V} (h : okRing a b = true) : ∃ l c : Nat, a = .int l ∧ b = .int c ∧ l ≤ 12 ∧ c ≤ 12 := by
  unfold okRing at h
  rw [Bool.and_eq_true] at h
  obtain ⟨h1, h2⟩ := h
  have one : ∀ v : V, wholeB v 0 12 = true → ∃ l : Nat, v = .int l ∧ l ≤ 12 := fun v hv => by
    cases v with
    | int i =>
      have hv : (decide (0 ≤ i) && decide (i ≤ 12)) = true := hv
      rw [Bool.and_eq_true, decide_eq_true_eq, decide_eq_true_eq] at hv
      exact ⟨i.toNat, by rw [Int.toNat_of_nonneg hv.1], by omega⟩
    | _ => cases hv
  obtain ⟨l, e1, k1⟩ := one a h1
  obtain ⟨c, e2, k2⟩ := one b h2
  exact ⟨l, c, e1, e2, k1, k2⟩
theorem okF_30 : ∀ l c : Nat, l ≤ 12 → c ≤ 12 → okF 30 l c = true := by
  have h : ∀ l : Fin 13, ∀ c : Fin 13, okF 30 l c = true := by decide +kernel
  exact fun l c h1 h2 => h ⟨l, by omega⟩ ⟨c, by omega⟩
theorem ok_ring_checks (F : Fun K "ring_checks" "ring_checks" s_ring_checks f fd) (T : TxtC K mg A tm) (C_check_ring : CalX P w K mg base "check_ring" 4 ["letters", "checks"] (sp_check_ring A.bn)) (C_ring_matrix : Cal P w K mg base "ring_matrix" 31 ["letters", "checks"] (sp_ring 30)) :
    FnOk P w K mg base (CN P w) 32 f fd ["letters", "checks"] (sp_ring_checks A.bn) := by
  refine okN F sc_ring_checks (fun vs H Q E h => ?_) (fun cdv Ar outer s H vs Q E hr h => ?_)
  · obtain ⟨a, b, n, m, rfl, _⟩ := h
    rfl
  · obtain ⟨a, b, n, m, rfl, h1, h2, q, qe⟩ := h
    refine ⟨_, (pss_cons (ps_expr (p_callX C_check_ring hr (L2N.takes_of rfl rfl rfl rfl) (pa_cons (pv 0) (pa_cons (pv 1) pa_nil))))
      (pss_one (ps_ret (p_call C_ring_matrix hr (pa_cons (pv 0) (pa_cons (pv 1) pa_nil)))))), ?_⟩
    simp only [w_seq, w_next, w_ret, w_asg, w_ifs, w_drop, w_brk, w_cont, w_name, w_var, w_c, w_op, w_un, w_I, w_I0, w_U, w_eq, w_scII, w_scBB, w_scSS, w_scNN, w_zi, w_zb, w_zn, w_zs, V.int.injEq, V.bl.injEq, V.str.injEq, V.ref.injEq, w_ne, w_test, w_B, w_and, w_or, w_not, w_andV, w_orV, w_notV, w_if, w_isN, w_nil, w_cons, w_cb, w_call, w_tup, w_lst, w_sub, w_intI, w_intB, w_isTyH, w_typ, w_isH, w_ixH, w_lenH, w_absH, w_listH, w_strH, w_bm, w_chain, w_exB, w_exV, w_start, k_ii, k_ib, k_is, k_il, k_it, k_bi, k_bb, k_bs, k_bl, k_bt, k_ni, k_nb, k_ns, k_nl, k_nt, k_si, k_sb, k_ss, k_sl, k_st, k_li, k_lb, k_ls, k_ll, k_lt, k_ti, k_tb, k_ts, k_tl, k_tt, w_st1, w_st2, w_st3, w_st5, atI_s0, atI_s1, atI_s2, atI_s3, atI_s4, atI_s5, List.map_cons, List.map_nil, List.length_cons, List.length_nil, List.replicate, List.cons_append, List.nil_append, List.append_nil, List.getElem?_cons_zero, List.getElem?_cons_succ, List.set_cons_zero, List.set_cons_succ, Nat.sub_self, Nat.reduceAdd, Nat.reduceSub, List.replicate_zero, decide_eq_true_eq, Bool.true_eq_false, Bool.false_eq_true, if_true, if_false, reduceIte, Bool.not_eq_true', decide_eq_false_iff_not, Bool.not_true, Bool.not_false, exists_eq_left', true_and, and_true, Option.some.injEq, reduceCtorEq, decide_true, decide_false, not_true_eq_false, not_false_eq_true, sizeLine_eq, Nat.reduceLeDiff, Bool.or_false, Bool.or_true, Bool.false_or, Bool.true_or, wp1, wp2, w_par, w_par2, w_tsl, w_nopart, w_part, w_exI, w_callS]
    refine ⟨a, b, n, m, rfl, h1, h2, fun hk => ?_, fun hk d hd => qe hk d hd⟩
    obtain ⟨l, c, rfl, rfl, k1, k2⟩ := okRing_is hk
    exact ⟨l, c, rfl, by omega, by omega, okF_30 l c k1 k2, fun y H' f => q l c rfl rfl k1 k2 y H' f⟩
end
end Mt


namespace Mt
open PySem PySem.Spec PyProof.Rows L2 L2H
def dStep (l c : Nat) (s : Str) : D := .tup [.int l, .int c, .str s]
def trailF : Nat → Nat → Nat → List D
  | 0, _, _ => []
  | f + 1, l, c => if l = 0 ∨ c = 0 then [dStep l c "end"] else if l ≤ c then dStep l c "copy" :: trailF f l (c - l) else dStep l c "turn" :: trailF f c l
theorem fr_step {H : Hp} {p : Addr} {l c : Nat} {s : Str} (hp : H p = none) : Fr H (upd H p (.tup [.int l, .int c, .str s])) (dStep l c s) (.ref p) := by
  refine ⟨same_new hp, [], ?_, List.nodup_nil, fun a ha => nomatch ha⟩
  unfold dStep
  simp only [Rep, Reps]
  exact ⟨p, _, [], rfl, upd_same, ⟨_, _, [], [], rfl, ⟨rfl, rfl⟩, ⟨_, _, [], [], rfl, ⟨rfl, rfl⟩, ⟨_, _, [], [], rfl, ⟨rfl, rfl⟩, ⟨rfl, rfl⟩, rfl⟩, rfl⟩, rfl⟩, rfl, (by show 3 < 1000000; decide)⟩
/-- the list so far with one more, as a list of its own -/
theorem cat_fr {H H1 H2 H3 : Hp} {D' p : Addr} {ds : List D} {d : D} {y : V} (g : Grow H D' ds H1) (f : Fr H1 H2 d y) (s3 : Same H2 H3) (hz : ds.length < 999999) (hp : H3 p = none) : ∃ acc, H3 D' = some (.lst acc) ∧ acc.length < 1000000 ∧ Fr H (upd H3 p (.lst (acc ++ [y]))) (.lst (ds ++ [d])) (.ref p) := by
  obtain ⟨acc, as, s1, e1, r1, n1, f1⟩ := g
  obtain ⟨s2, bs, r2, n2, f2⟩ := f
  have sp : Same H3 (upd H3 p (.lst (acc ++ [y]))) := same_new hp
  have all : Same H H3 := s1.trans (s2.trans s3)
  have fb : ∀ b ∈ bs, H b = none := fun b hb => s1.free (f2 b hb)
  have la := reps_len r1
  have np : ∀ b, (∃ xs, H3 b = some (.lst xs)) → b ≠ p := fun b ⟨xs, e⟩ z => by
    rw [z, hp] at e
    cases e
  have ra := reps_same (s2.trans s3) r1
  have rb := rep_same s3 r2
  refine ⟨acc, s3 _ _ (s2 _ _ e1), by omega, all.trans sp, p :: (as ++ bs), ?_, ?_, fun a ha => ?_⟩
  · simp only [Rep]
    exact ⟨p, _, as ++ bs, rfl, upd_same, reps_snoc (reps_same sp ra) (rep_same sp rb), rfl, by rw [List.length_append, List.length_singleton]; omega⟩
  · refine List.nodup_cons.mpr ⟨fun h => ?_, List.nodup_append.mpr ⟨n1, n2, fun a ha b hb e => ?_⟩⟩
    · rcases List.mem_append.mp h with h | h
      · exact np p (reps_some _ _ _ ra p h) rfl
      · exact np p (rep_some _ _ _ rb p h) rfl
    · subst e
      obtain ⟨xs, hx⟩ := reps_some _ _ _ r1 a ha
      rw [f2 a hb] at hx
      cases hx
  · cases ha with
    | head => exact all.free hp
    | tail _ ha =>
      rcases List.mem_append.mp ha with ha | ha
      · exact (f1 a ha).1
      · exact fb a ha
theorem trail_len : ∀ f l c : Nat, (trailF f l c).length ≤ f
  | 0, _, _ => Nat.le_refl _
  | f + 1, l, c => by
    unfold trailF
    split
    · exact Nat.succ_le_succ (Nat.zero_le _)
    · split
      · exact Nat.succ_le_succ (trail_len f _ _)
      · exact Nat.succ_le_succ (trail_len f _ _)
/-- .. + [step]: the two new things laid, then the sum -/
theorem end_fr {H H1 : Hp} {D' : Addr} {ds : List D} {l c : Nat} {s : Str} {Q : VK} (hD : H D' = none) (g : Grow H D' ds H1) (hz : ds.length < 999999) (q : ∀ y H', Fr H H' (.lst (ds ++ [dStep l c s])) y → Q y H') (p : Addr) (hp : H1 p = none) (p1 : Addr) (hp1 : upd H1 p (.tup [.int l, .int c, .str s]) p1 = none) :
    rCat (.ref D') (.ref p1) (upd (upd H1 p (.tup [.int l, .int c, .str s])) p1 (.lst [.ref p])) Q := by
  have s2 : Same (upd H1 p (.tup [.int l, .int c, .str s])) (upd (upd H1 p (.tup [.int l, .int c, .str s])) p1 (.lst [.ref p])) := same_new hp1
  have e1 : (upd (upd H1 p (.tup [.int l, .int c, .str s])) p1 (.lst [.ref p])) p1 = some (.lst [.ref p]) := upd_same
  obtain ⟨acc, as, k1, k2, k3, k4, k5⟩ := id g
  have e2 := s2 _ _ (same_new (o := .tup [.int l, .int c, .str s]) hp _ _ k2)
  have la := reps_len k3
  rw [w_cat e2 e1]
  refine ⟨by rw [sizeLine_eq, List.length_singleton]; omega, fun p2 hp2 => ?_⟩
  obtain ⟨acc', a1, a2, a3⟩ := cat_fr g (fr_step (l := l) (c := c) (s := s) hp) s2 hz hp2
  rw [e2] at a1
  cases a1
  exact q _ _ a3
/-- the list so far takes one more step -/
theorem app_fr {H H1 : Hp} {D' : Addr} {ds : List D} {l c : Nat} {s : Str} {R : Hp → Prop} (hD : H D' = none) (g : Grow H D' ds H1) (hz : ds.length < 999999) (q : ∀ H', Grow H D' (ds ++ [dStep l c s]) H' → R H') (p : Addr) (hp : H1 p = none) :
    rAppend (.ref D') [.ref p] (upd H1 p (.tup [.int l, .int c, .str s])) fun _ H' => R H' := by
  obtain ⟨acc, e1, e2, e3⟩ := grow_s hD g (fr_step (l := l) (c := c) (s := s) hp) (by omega)
  rw [w_append e1]
  exact ⟨e2, q _ e3⟩
abbrev s_law_steps : Stmt := topS 37
theorem sc_law_steps : FnScope ["letters", "checks", "found", "k", "held"] ["letters", "checks"] (defScope s_law_steps) := ⟨rfl, rfl, rfl, by decide +kernel, rfl, by decide +kernel, by decide +kernel⟩

section
variable {P : Program} {w : World} {K : PySem.W.Frag} {mg : Str → Option Value} {base : Heap} {f : Addr} {fd : FuncData} {A : Ad} {tm : Tok}
def sp_ring_trail (C : Addr) : Sp := fun vs H Q E => ∃ a b n m, vs = [a, b] ∧ zTyV a H = some n ∧ zTyV b H = some m ∧ (∀ l c : Nat, a = .int l → b = .int c → l ≤ 12 → c ≤ 12 → ∀ y H', Fr H H' (.lst (trailF 30 l c)) y → Q y H') ∧
  (okRing a b = false → ∀ d, H d = none → E (.ref C) (some d) (upd H d (.xd [("argument", .str (ringArg a))])))
theorem ok_ring_trail (F : Fun K "ring_trail" "ring_trail" s_ring_trail f fd) (T : TxtC K mg A tm) (C_check_ring : CalX P w K mg base "check_ring" 4 ["letters", "checks"] (sp_check_ring A.bn)) :
    FnOk P w K mg base (CN P w) 5 f fd ["letters", "checks"] (sp_ring_trail A.bn) := by
  refine okN F sc_ring_trail (fun vs H Q E h => ?_) (fun cdv Ar outer s H vs Q E hr h => ?_)
  · obtain ⟨a, b, n, m, rfl, _⟩ := h
    rfl
  · obtain ⟨a, b, n, m, rfl, h1, h2, q, qe⟩ := h
    refine ⟨_, (pss_cons (ps_expr (p_callX C_check_ring hr (L2N.takes_of rfl rfl rfl rfl) (pa_cons (pv 0) (pa_cons (pv 1) pa_nil))))
      (pss_cons (ps_set (i := 2) sc_ring_trail.nd rfl (.inl rfl) (pe_lst pa_nil))
      (pss_cons (ps_while (passes_of rfl) (PW.pt (pw_and (pt_cmpR op_gt (pv 0) pe_int (nomark _)) (pw_and1 (pt_cmpR op_gt (pv 1) pe_int (nomark _))))) (pss_one (ps_if (pt_cmpR op_ge (pv 1) (pv 0) (nomark _)) (pss_cons (ps_expr (pe_bm PySem.F.plainAttrs_list PySem.F.slot_list_append PySem.F.type_list_append mt_append (pv 2) (pa_cons (pe_tup (pa_cons (pv 0) (pa_cons (pv 1) (pa_cons pe_str pa_nil)))) pa_nil)))
      (pss_one (ps_set (i := 1) sc_ring_trail.nd rfl (.inl rfl) (pe_op op_sub (pv 1) (pv 0))))) (pss_cons (ps_expr (pe_bm PySem.F.plainAttrs_list PySem.F.slot_list_append PySem.F.type_list_append mt_append (pv 2) (pa_cons (pe_tup (pa_cons (pv 0) (pa_cons (pv 1) (pa_cons pe_str pa_nil)))) pa_nil)))
      (pss_one (ps_par (i := 0) (j := 1) (by rfl) sc_ring_trail.nd rfl rfl (by decide) rfl rfl (pa_cons (pv 1) (pa_cons (pv 0) pa_nil)) (by rfl)))))))
      (pss_one (ps_ret (pe_op op_cat (pv 2) (pe_lst (pa_cons (pe_tup (pa_cons (pv 0) (pa_cons (pv 1) (pa_cons pe_str pa_nil)))) pa_nil)))))))), ?_⟩
    simp only [w_seq, w_next, w_ret, w_asg, w_ifs, w_drop, w_brk, w_cont, w_name, w_var, w_c, w_op, w_un, w_I, w_I0, w_U, w_eq, w_scII, w_scBB, w_scSS, w_scNN, w_zi, w_zb, w_zn, w_zs, V.int.injEq, V.bl.injEq, V.str.injEq, V.ref.injEq, w_ne, w_test, w_B, w_and, w_or, w_not, w_andV, w_orV, w_notV, w_if, w_isN, w_nil, w_cons, w_cb, w_call, w_tup, w_lst, w_sub, w_intI, w_intB, w_isTyH, w_typ, w_isH, w_ixH, w_lenH, w_absH, w_listH, w_strH, w_bm, w_chain, w_exB, w_exV, w_start, k_ii, k_ib, k_is, k_il, k_it, k_bi, k_bb, k_bs, k_bl, k_bt, k_ni, k_nb, k_ns, k_nl, k_nt, k_si, k_sb, k_ss, k_sl, k_st, k_li, k_lb, k_ls, k_ll, k_lt, k_ti, k_tb, k_ts, k_tl, k_tt, w_st1, w_st2, w_st3, w_st5, atI_s0, atI_s1, atI_s2, atI_s3, atI_s4, atI_s5, List.map_cons, List.map_nil, List.length_cons, List.length_nil, List.replicate, List.cons_append, List.nil_append, List.append_nil, List.getElem?_cons_zero, List.getElem?_cons_succ, List.set_cons_zero, List.set_cons_succ, Nat.sub_self, Nat.reduceAdd, Nat.reduceSub, List.replicate_zero, decide_eq_true_eq, Bool.true_eq_false, Bool.false_eq_true, if_true, if_false, reduceIte, Bool.not_eq_true', decide_eq_false_iff_not, Bool.not_true, Bool.not_false, exists_eq_left', true_and, and_true, Option.some.injEq, reduceCtorEq, decide_true, decide_false, not_true_eq_false, not_false_eq_true, sizeLine_eq, Nat.reduceLeDiff, Bool.or_false, Bool.or_true, Bool.false_or, Bool.true_or, wp1, wp2, w_par, w_par2, w_tsl, w_nopart, w_part, w_exI, w_callS]
    refine ⟨a, b, n, m, rfl, h1, h2, fun hk => ?_, fun hk d hd => qe hk d hd⟩
    obtain ⟨l, c, rfl, rfl, k1, k2⟩ := okRing_is hk
    have q := q l c rfl rfl k1 k2
    intro tr htr
    refine ⟨fun k σ H' => ∃ (l' c' : Nat) (ds : List D), σ = [some (.int l'), some (.int c'), some (.ref tr)] ∧ okF k l' c' = true ∧ ds.length + k ≤ 30 ∧ ds ++ trailF k l' c' = trailF 30 l c ∧ Grow H tr ds H', ⟨30, l, c, [], rfl, okF_30 l c k1 k2, by decide, rfl, grow_0 htr⟩, ?_⟩
    rintro k σ H1 ⟨l', c', ds, rfl, hok, hz, ht, g⟩
    obtain ⟨acc, as, s1, e1, r1, n1, f1⟩ := id g
    cases k with
    | zero => cases hok
    | succ k =>
      unfold okF at hok
      unfold trailF at ht
      simp only [w_seq, w_next, w_ret, w_asg, w_ifs, w_drop, w_brk, w_cont, w_name, w_var, w_c, w_op, w_un, w_I, w_I0, w_U, w_eq, w_scII, w_scBB, w_scSS, w_scNN, w_zi, w_zb, w_zn, w_zs, V.int.injEq, V.bl.injEq, V.str.injEq, V.ref.injEq, w_ne, w_test, w_B, w_and, w_or, w_not, w_andV, w_orV, w_notV, w_if, w_isN, w_nil, w_cons, w_cb, w_call, w_tup, w_lst, w_sub, w_intI, w_intB, w_isTyH, w_typ, w_isH, w_ixH, w_lenH, w_absH, w_listH, w_strH, w_bm, w_chain, w_exB, w_exV, w_start, k_ii, k_ib, k_is, k_il, k_it, k_bi, k_bb, k_bs, k_bl, k_bt, k_ni, k_nb, k_ns, k_nl, k_nt, k_si, k_sb, k_ss, k_sl, k_st, k_li, k_lb, k_ls, k_ll, k_lt, k_ti, k_tb, k_ts, k_tl, k_tt, w_st1, w_st2, w_st3, w_st5, atI_s0, atI_s1, atI_s2, atI_s3, atI_s4, atI_s5, List.map_cons, List.map_nil, List.length_cons, List.length_nil, List.replicate, List.cons_append, List.nil_append, List.append_nil, List.getElem?_cons_zero, List.getElem?_cons_succ, List.set_cons_zero, List.set_cons_succ, Nat.sub_self, Nat.reduceAdd, Nat.reduceSub, List.replicate_zero, decide_eq_true_eq, Bool.true_eq_false, Bool.false_eq_true, if_true, if_false, reduceIte, Bool.not_eq_true', decide_eq_false_iff_not, Bool.not_true, Bool.not_false, exists_eq_left', true_and, and_true, Option.some.injEq, reduceCtorEq, decide_true, decide_false, not_true_eq_false, not_false_eq_true, sizeLine_eq, Nat.reduceLeDiff, Bool.or_false, Bool.or_true, Bool.false_or, Bool.true_or, wp1, wp2, w_par, w_par2, w_tsl, w_nopart, w_part, w_exI, w_tyL e1]
      have stop : (l' = 0 ∨ c' = 0) → ∀ (p : Addr), H1 p = none → ∀ (p_1 : Addr), upd H1 p (.tup [.int l', .int c', .str "end"]) p_1 = none → rCat (.ref tr) (.ref p_1) (upd (upd H1 p (.tup [.int l', .int c', .str "end"])) p_1 (.lst [.ref p])) Q := fun z => by
        rw [if_pos z] at ht
        refine end_fr htr g (by omega) fun y H' f => ?_
        rw [ht] at f
        exact q y H' f
      refine ite2 (fun z1 => ite2 (fun z2 => ?_) (fun z2 => stop (Or.inr (by omega)))) (fun z1 => stop (Or.inl (by omega)))
      have z0 : ¬ (l' = 0 ∨ c' = 0) := by omega
      rw [if_neg z0] at ht hok
      refine ⟨_, fun σ' H' h => h, ite2 (fun z => ?_) (fun z => ?_)⟩
      · have z' : l' ≤ c' := by omega
        rw [if_pos z'] at ht hok
        refine app_fr htr g (by omega) fun H' g' => ?_
        refine ⟨k, Nat.lt_succ_self k, l', c' - l', _, by rw [show (c' : Int) - (l' : Int) = ((c' - l' : Nat) : Int) by omega], hok, by rw [List.length_append, List.length_singleton]; omega, ?_, g'⟩
        rw [List.append_assoc]
        exact ht
      · have z' : ¬ l' ≤ c' := by omega
        rw [if_neg z'] at ht hok
        refine app_fr htr g (by omega) fun H' g' => ?_
        refine ⟨k, Nat.lt_succ_self k, c', l', _, rfl, hok, by rw [List.length_append, List.length_singleton]; omega, ?_, g'⟩
        rw [List.append_assoc]
        exact ht
/-- the law's own steps -/
def sp_steps : Sp := fun vs H Q _ => ∃ l c : Nat, vs = [.int l, .int c] ∧ l ≤ 12 ∧ c ≤ 12 ∧ ∀ y H', Fr H H' (.lst (trailF 30 l c)) y → Q y H'
theorem ok_steps (F : Fun K "_law_steps" "_law_steps" s_law_steps f fd) (T : TxtC K mg A tm) : FnOk P w K mg base CX0 1 f fd ["letters", "checks"] sp_steps := by
  refine F.ok sc_law_steps (fun vs H Q E h => ?_) (fun cdv Ar outer s H vs Q E hr h => ?_)
  · obtain ⟨l, c, rfl, _⟩ := h
    rfl
  · obtain ⟨l, c, rfl, k1, k2, q⟩ := h
    refine ⟨_, (pss_cons (ps_set (i := 2) sc_law_steps.nd rfl (.inl rfl) (pe_lst pa_nil))
      (pss_cons (ps_for PassesOwn.never rfl (pi_range1 (by rfl) T.m_range (pa_cons pe_int pa_nil)) (pg_name (i := 3) sc_law_steps.nd rfl (.inl rfl)) (pss_cons (ps_if (PW.pt (pw_or (pt_cmpR op_eq (pv 0) pe_int (nomark _)) (pw_or1 (pt_cmpR op_eq (pv 1) pe_int (nomark _))))) (pss_one (ps_ret (pe_op op_cat (pv 2) (pe_lst (pa_cons (pe_tup (pa_cons (pv 0) (pa_cons (pv 1) (pa_cons pe_str pa_nil)))) pa_nil))))) pss_nil)
      (pss_one (ps_if (pt_cmpR op_ge (pv 1) (pv 0) (nomark _)) (pss_cons (ps_expr (pe_bm PySem.F.plainAttrs_list PySem.F.slot_list_append PySem.F.type_list_append mt_append (pv 2) (pa_cons (pe_tup (pa_cons (pv 0) (pa_cons (pv 1) (pa_cons pe_str pa_nil)))) pa_nil)))
      (pss_one (ps_set (i := 1) sc_law_steps.nd rfl (.inl rfl) (pe_op op_sub (pv 1) (pv 0))))) (pss_cons (ps_expr (pe_bm PySem.F.plainAttrs_list PySem.F.slot_list_append PySem.F.type_list_append mt_append (pv 2) (pa_cons (pe_tup (pa_cons (pv 0) (pa_cons (pv 1) (pa_cons pe_str pa_nil)))) pa_nil)))
      (pss_cons (ps_set (i := 4) sc_law_steps.nd rfl (.inl rfl) (pv 0))
      (pss_cons (ps_set (i := 0) sc_law_steps.nd rfl (.inl rfl) (pv 1))
      (pss_one (ps_set (i := 1) sc_law_steps.nd rfl (.inl rfl) (pv 4))))))))))
      (pss_one (ps_ret (pv 2))))), ?_⟩
    simp only [w_seq, w_next, w_ret, w_asg, w_ifs, w_drop, w_brk, w_cont, w_name, w_var, w_c, w_op, w_un, w_I, w_I0, w_U, w_eq, w_scII, w_scBB, w_scSS, w_scNN, w_zi, w_zb, w_zn, w_zs, V.int.injEq, V.bl.injEq, V.str.injEq, V.ref.injEq, w_ne, w_test, w_B, w_and, w_or, w_not, w_andV, w_orV, w_notV, w_if, w_isN, w_nil, w_cons, w_cb, w_call, w_tup, w_lst, w_sub, w_intI, w_intB, w_isTyH, w_typ, w_isH, w_ixH, w_lenH, w_absH, w_listH, w_strH, w_bm, w_chain, w_exB, w_exV, w_start, k_ii, k_ib, k_is, k_il, k_it, k_bi, k_bb, k_bs, k_bl, k_bt, k_ni, k_nb, k_ns, k_nl, k_nt, k_si, k_sb, k_ss, k_sl, k_st, k_li, k_lb, k_ls, k_ll, k_lt, k_ti, k_tb, k_ts, k_tl, k_tt, w_st1, w_st2, w_st3, w_st5, atI_s0, atI_s1, atI_s2, atI_s3, atI_s4, atI_s5, List.map_cons, List.map_nil, List.length_cons, List.length_nil, List.replicate, List.cons_append, List.nil_append, List.append_nil, List.getElem?_cons_zero, List.getElem?_cons_succ, List.set_cons_zero, List.set_cons_succ, Nat.sub_self, Nat.reduceAdd, Nat.reduceSub, List.replicate_zero, decide_eq_true_eq, Bool.true_eq_false, Bool.false_eq_true, if_true, if_false, reduceIte, Bool.not_eq_true', decide_eq_false_iff_not, Bool.not_true, Bool.not_false, exists_eq_left', true_and, and_true, Option.some.injEq, reduceCtorEq, decide_true, decide_false, not_true_eq_false, not_false_eq_true, sizeLine_eq, Nat.reduceLeDiff, Bool.or_false, Bool.or_true, Bool.false_or, Bool.true_or, wp1, wp2, w_par, w_par2, w_tsl, w_nopart, w_part, w_exI]
    intro tr htr
    refine ⟨40, rfl, by decide, by decide, fun i m σ H' => ∃ (l' c' : Nat) (ds : List D) (y z : Option V), σ = [some (.int l'), some (.int c'), some (.ref tr), y, z] ∧ i ≤ 30 ∧ okF (30 - i) l' c' = true ∧ ds.length ≤ i ∧ ds ++ trailF (30 - i) l' c' = trailF 30 l c ∧ Grow H tr ds H' ∧ m = 40 - i, ⟨40, l, c, [], none, none, rfl, by decide, okF_30 l c k1 k2, Nat.le_refl _, rfl, grow_0 htr, rfl⟩, ?_⟩
    rintro i m σ H1 ⟨l', c', ds, y, z, rfl, hi, hok, hz, ht, g, hm⟩
    obtain ⟨acc, as, s1, e1, r1, n1, f1⟩ := id g
    refine Or.inr ⟨by show i < 40; omega, fun σ' H' => ∃ (l' c' : Nat) (ds : List D) (y z : Option V), σ' = [some (.int l'), some (.int c'), some (.ref tr), y, z] ∧ i + 1 ≤ 30 ∧ okF (30 - (i + 1)) l' c' = true ∧ ds.length ≤ i + 1 ∧ ds ++ trailF (30 - (i + 1)) l' c' = trailF 30 l c ∧ Grow H tr ds H', fun σ' H' h => ?_, fun x H' hx => ?_⟩
    · obtain ⟨a, b, ds', y', z', e1, e2, e3, e4, e5, e6⟩ := h
      exact ⟨40 - (i + 1), by omega, a, b, ds', y', z', e1, e2, e3, e4, e5, e6, rfl⟩
    · obtain ⟨rfl, rfl⟩ := hx
      have hi30 : i ≠ 30 := fun e => by
        rw [e] at hok
        cases hok
      obtain ⟨k, hk⟩ : ∃ k, 30 - i = k + 1 := ⟨30 - i - 1, by omega⟩
      rw [hk] at hok ht
      unfold okF at hok
      unfold trailF at ht
      have hk' : 30 - (i + 1) = k := by omega
      rw [hk']
      have stop : (l' = 0 ∨ c' = 0) → ∀ (p : Addr), H' p = none → ∀ (p_1 : Addr), upd H' p (.tup [.int l', .int c', .str "end"]) p_1 = none → rCat (.ref tr) (.ref p_1) (upd (upd H' p (.tup [.int l', .int c', .str "end"])) p_1 (.lst [.ref p])) Q := fun z => by
        rw [if_pos z] at ht
        refine end_fr htr g (by omega) fun y H' f => ?_
        rw [ht] at f
        exact q y H' f
      simp only [w_seq, w_next, w_ret, w_asg, w_ifs, w_drop, w_brk, w_cont, w_name, w_var, w_c, w_op, w_un, w_I, w_I0, w_U, w_eq, w_scII, w_scBB, w_scSS, w_scNN, w_zi, w_zb, w_zn, w_zs, V.int.injEq, V.bl.injEq, V.str.injEq, V.ref.injEq, w_ne, w_test, w_B, w_and, w_or, w_not, w_andV, w_orV, w_notV, w_if, w_isN, w_nil, w_cons, w_cb, w_call, w_tup, w_lst, w_sub, w_intI, w_intB, w_isTyH, w_typ, w_isH, w_ixH, w_lenH, w_absH, w_listH, w_strH, w_bm, w_chain, w_exB, w_exV, w_start, k_ii, k_ib, k_is, k_il, k_it, k_bi, k_bb, k_bs, k_bl, k_bt, k_ni, k_nb, k_ns, k_nl, k_nt, k_si, k_sb, k_ss, k_sl, k_st, k_li, k_lb, k_ls, k_ll, k_lt, k_ti, k_tb, k_ts, k_tl, k_tt, w_st1, w_st2, w_st3, w_st5, atI_s0, atI_s1, atI_s2, atI_s3, atI_s4, atI_s5, List.map_cons, List.map_nil, List.length_cons, List.length_nil, List.replicate, List.cons_append, List.nil_append, List.append_nil, List.getElem?_cons_zero, List.getElem?_cons_succ, List.set_cons_zero, List.set_cons_succ, Nat.sub_self, Nat.reduceAdd, Nat.reduceSub, List.replicate_zero, decide_eq_true_eq, Bool.true_eq_false, Bool.false_eq_true, if_true, if_false, reduceIte, Bool.not_eq_true', decide_eq_false_iff_not, Bool.not_true, Bool.not_false, exists_eq_left', true_and, and_true, Option.some.injEq, reduceCtorEq, decide_true, decide_false, not_true_eq_false, not_false_eq_true, sizeLine_eq, Nat.reduceLeDiff, Bool.or_false, Bool.or_true, Bool.false_or, Bool.true_or, wp1, wp2, w_par, w_par2, w_tsl, w_nopart, w_part, w_exI, w_tyL e1]
      refine ite2 (fun z1 => stop (Or.inl (by omega))) (fun z1 => ite2 (fun z2 => stop (Or.inr (by omega))) (fun z2 => ?_))
      have z0 : ¬ (l' = 0 ∨ c' = 0) := by omega
      rw [if_neg z0] at ht hok
      refine ite2 (fun z => ?_) (fun z => ?_)
      · have z' : l' ≤ c' := by omega
        rw [if_pos z'] at ht hok
        refine app_fr htr g (by omega) fun H'' g' => ⟨l', c' - l', _, _, _, by rw [show (c' : Int) - (l' : Int) = ((c' - l' : Nat) : Int) by omega], by omega, hok, by rw [List.length_append, List.length_singleton]; omega, ?_, g'⟩
        rw [List.append_assoc]
        exact ht
      · have z' : ¬ l' ≤ c' := by omega
        rw [if_neg z'] at ht hok
        refine app_fr htr g (by omega) fun H'' g' => ⟨c', l', _, _, _, rfl, by omega, hok, by rw [List.length_append, List.length_singleton]; omega, ?_, g'⟩
        rw [List.append_assoc]
        exact ht
end
end Mt

namespace Mt
open PySem PySem.Spec PyProof.Rows L2 L2H
/-! ### the mathematics of the trail -/
def tF : Nat → Nat → Nat → List (Nat × Nat × Str)
  | 0, _, _ => []
  | f + 1, l, c => if l = 0 ∨ c = 0 then [(l, c, "end")] else if l ≤ c then (l, c, "copy") :: tF f l (c - l) else (l, c, "turn") :: tF f c l
def dS (t : Nat × Nat × Str) : D := dStep t.1 t.2.1 t.2.2
theorem trail_tF : ∀ f l c : Nat, trailF f l c = (tF f l c).map dS
  | 0, _, _ => rfl
  | f + 1, l, c => by
    unfold trailF tF
    split
    · rfl
    · split
      · rw [trail_tF f]
        rfl
      · rw [trail_tF f]
        rfl
theorem fuel1 : ∀ g l c : Nat, okF g l c = true → okF (g + 1) l c = true ∧ tF (g + 1) l c = tF g l c ∧ ringF (g + 1) l c = ringF g l c
  | 0, l, c, h => by cases h
  | g + 1, l, c, h => by
    unfold okF at h
    have q1 : ∀ g l c : Nat, tF (g + 1) l c = if l = 0 ∨ c = 0 then [(l, c, ("end" : Str))] else if l ≤ c then (l, c, ("copy" : Str)) :: tF g l (c - l) else (l, c, ("turn" : Str)) :: tF g c l := fun _ _ _ => rfl
    have q2 : ∀ g l c : Nat, ringF (g + 1) l c = if l = 0 ∨ c = 0 then (List.range l).map fun _ => [] else if l ≤ c then List.zipWith (· ++ ·) ((List.range l).map (uRow l)) (ringF g l (c - l)) else cols l (ringF g c l) := fun _ _ _ => rfl
    rw [show okF (g + 1 + 1) l c = if l = 0 ∨ c = 0 then true else if l ≤ c then okF (g + 1) l (c - l) else okF (g + 1) c l from rfl, q1 (g + 1) l c, q1 g l c, q2 (g + 1) l c, q2 g l c]
    by_cases h0 : l = 0 ∨ c = 0
    · rw [if_pos h0, if_pos h0, if_pos h0, if_pos h0, if_pos h0]
      exact ⟨rfl, rfl, rfl⟩
    · rw [if_neg h0] at h ⊢
      rw [if_neg h0, if_neg h0, if_neg h0, if_neg h0]
      by_cases h1 : l ≤ c
      · rw [if_pos h1] at h ⊢
        rw [if_pos h1, if_pos h1, if_pos h1, if_pos h1]
        obtain ⟨e1, e2, e3⟩ := fuel1 g l (c - l) h
        rw [e2, e3]
        exact ⟨e1, rfl, rfl⟩
      · rw [if_neg h1] at h ⊢
        rw [if_neg h1, if_neg h1, if_neg h1, if_neg h1]
        obtain ⟨e1, e2, e3⟩ := fuel1 g c l h
        rw [e2, e3]
        exact ⟨e1, rfl, rfl⟩
theorem fuel : ∀ k g l c : Nat, okF g l c = true → okF (g + k) l c = true ∧ tF (g + k) l c = tF g l c ∧ ringF (g + k) l c = ringF g l c
  | 0, g, l, c, h => ⟨h, rfl, rfl⟩
  | k + 1, g, l, c, h => by
    obtain ⟨e1, e2, e3⟩ := fuel k g l c h
    obtain ⟨f1, f2, f3⟩ := fuel1 (g + k) l c e1
    exact ⟨f1, f2.trans e2, f3.trans e3⟩
theorem tF_head {g l c : Nat} (h : okF g l c = true) : ∃ s r, tF g l c = (l, c, s) :: r := by
  cases g with
  | zero => cases h
  | succ g =>
    unfold tF
    split
    · exact ⟨_, _, rfl⟩
    · split
      · exact ⟨_, _, rfl⟩
      · exact ⟨_, _, rfl⟩
/-- the rest of a trail is a trail -/
theorem tF_drop : ∀ (j g l c : Nat), okF g l c = true → l ≤ 12 → c ≤ 12 → j < (tF g l c).length → ∃ a b, (tF g l c).drop j = tF (g - j) a b ∧ okF (g - j) a b = true ∧ a ≤ 12 ∧ b ≤ 12 ∧ j < g
  | 0, g, l, c, h, k1, k2, hj => ⟨l, c, rfl, h, k1, k2, by
    cases g with
    | zero => cases h
    | succ g => exact Nat.succ_pos g⟩
  | j + 1, 0, l, c, h, k1, k2, hj => by cases h
  | j + 1, g + 1, l, c, h, k1, k2, hj => by
    unfold okF at h
    have q1 : tF (g + 1) l c = if l = 0 ∨ c = 0 then [(l, c, ("end" : Str))] else if l ≤ c then (l, c, ("copy" : Str)) :: tF g l (c - l) else (l, c, ("turn" : Str)) :: tF g c l := rfl
    rw [q1] at hj ⊢
    by_cases h0 : l = 0 ∨ c = 0
    · rw [if_pos h0] at hj
      exact absurd hj (by rw [List.length_singleton]; omega)
    · rw [if_neg h0] at h hj ⊢
      by_cases h1 : l ≤ c
      · rw [if_pos h1] at h hj ⊢
        rw [List.length_cons] at hj
        obtain ⟨a, b, e1, e2, e3, e4, e5⟩ := tF_drop j g l (c - l) h k1 (by omega) (by omega)
        rw [Nat.add_sub_add_right]
        exact ⟨a, b, e1, e2, e3, e4, by omega⟩
      · rw [if_neg h1] at h hj ⊢
        rw [List.length_cons] at hj
        obtain ⟨a, b, e1, e2, e3, e4, e5⟩ := tF_drop j g c l h k2 k1 (by omega)
        rw [Nat.add_sub_add_right]
        exact ⟨a, b, e1, e2, e3, e4, by omega⟩
end Mt


namespace Mt
open PySem PySem.Spec PyProof.Rows L2 L2H
abbrev s_law_unit : Stmt := topS 35
theorem sc_law_unit : FnScope ["width", "at", "k"] ["width", "at"] (defScope s_law_unit) := ⟨rfl, rfl, rfl, by decide +kernel, rfl, by decide +kernel, by decide +kernel⟩

abbrev s_law_columns_of : Stmt := topS 38
theorem sc_law_columns_of : FnScope ["width", "rows", "at", "row"] ["width", "rows"] (defScope s_law_columns_of) := ⟨rfl, rfl, rfl, by decide +kernel, rfl, by decide +kernel, by decide +kernel⟩

abbrev s_law_back : Stmt := topS 39
theorem sc_law_back : FnScope ["steps", "found", "step", "k"] ["steps"] (defScope s_law_back) := ⟨rfl, rfl, rfl, by decide +kernel, rfl, by decide +kernel, by decide +kernel⟩

/-- what a for over an iterator asks -/
def ForQ (J : It) (g : TG) (tb : TS) (D : Ends) (σ : L2H.St) (H : Hp) : Prop := ∃ W : Nat → Nat → L2H.St → Hp → Prop, (∃ m, W 0 m σ H) ∧ ∀ i m σ H, W i m σ H →
  (J.stop i H ∧ D.nx σ H) ∨ (J.go i H ∧ ∃ N : L2H.St → Hp → Prop, (∀ σ' H', N σ' H' → ∃ m', m' < m ∧ W (i + 1) m' σ' H') ∧ ∀ x H', J.yld i H x H' → g x σ H' fun σ2 H2 => tb { D with nx := N, ct := N, bk := D.nx } σ2 H2)
theorem for_rev {K : PySem.W.Frag} {ta : TA} {g : TG} {tb : TS} {D : Ends} {σ : L2H.St} {H : Hp} (h : ta σ H fun vs H1 => ∃ (a : Addr) (xs : List V), vs = [.ref a] ∧ SqL K H1 a xs ∧ ForQ (Itv K a xs.length) g tb D σ H1) : tFor (iRev K ta) g tb D σ H := h
theorem rep_step {H : Hp} {l c : Nat} {s : Str} {v : V} {as : List Addr} (h : Rep H (dStep l c s) v as) : ∃ a, v = .ref a ∧ H a = some (.tup [.int l, .int c, .str s]) := by
  unfold dStep at h
  simp only [Rep, Reps] at h
  obtain ⟨a, vs, bs, rfl, e2, ⟨v1, r1, b1, c1, rfl, ⟨rfl, _⟩, ⟨v2, r2, b2, c2, rfl, ⟨rfl, _⟩, ⟨v3, r3, b3, c3, rfl, ⟨rfl, _⟩, ⟨rfl, _⟩, _⟩, _⟩, _⟩, _⟩ := h
  exact ⟨a, rfl, e2⟩
theorem tF_inj {g a b a' b' : Nat} (h : okF g a b = true) (h' : okF g a' b' = true) (e : tF g a b = tF g a' b') : a = a' ∧ b = b' := by
  obtain ⟨s, r, e1⟩ := tF_head h
  obtain ⟨s', r', e2⟩ := tF_head h'
  rw [e1, e2] at e
  injection e with e _
  injection e with e1 e
  injection e with e2 _
  exact ⟨e1, e2⟩
theorem tF_one {g a b : Nat} (h : okF g a b = true) (e : (tF g a b).length = 1) : (a = 0 ∨ b = 0) ∧ ringF g a b = (List.range a).map fun _ => [] := by
  cases g with
  | zero => cases h
  | succ g =>
    unfold okF at h
    have q1 : tF (g + 1) a b = if a = 0 ∨ b = 0 then [(a, b, ("end" : Str))] else if a ≤ b then (a, b, ("copy" : Str)) :: tF g a (b - a) else (a, b, ("turn" : Str)) :: tF g b a := rfl
    rw [q1] at e
    by_cases h0 : a = 0 ∨ b = 0
    · refine ⟨h0, ?_⟩
      show (if a = 0 ∨ b = 0 then _ else _) = _
      rw [if_pos h0]
    · rw [if_neg h0] at e h
      by_cases h1 : a ≤ b
      · rw [if_pos h1] at e h
        obtain ⟨s, r, e1⟩ := tF_head h
        rw [e1] at e
        simp at e
      · rw [if_neg h1] at e h
        obtain ⟨s, r, e1⟩ := tF_head h
        rw [e1] at e
        simp at e
section
variable {P : Program} {w : World} {K : PySem.W.Frag} {mg : Str → Option Value} {base : Heap} {f : Addr} {fd : FuncData} {A : Ad} {tm : Tok}
theorem ok_law_unit (F : Fun K "_law_unit" "_law_unit" s_law_unit f fd) (T : TxtC K mg A tm) : FnOk P w K mg base CX0 1 f fd ["width", "at"] sp_unit_row := by
  refine F.ok sc_law_unit (fun vs H Q E h => ?_) (fun cdv A outer s H vs Q E hr h => ?_)
  · obtain ⟨n, k, rfl, _⟩ := h
    rfl
  · obtain ⟨n, k, rfl, hn, q⟩ := h
    refine ⟨_, (pss_one (ps_ret (pe_lc (own := [("k", 2)]) (g := gName 2) rfl sc_law_unit.nd (pi_range1 (by rfl) T.m_range (pa_cons (pv 0) pa_nil)) (blkOk_by (N := ["width", "at", "k"]) (sc := defScope s_law_unit) (by decide +kernel)) (fun _ _ _ _ _ => pg_name (i := 2) sc_law_unit.nd rfl (.inl rfl)) (fun _ _ _ _ _ => pts_nil) (fun _ _ _ _ _ => (pe_callTy call_intH (by rfl) T.m_int (by decide +kernel) (pa_cons (pe_cmpR op_eq (pv 2) (pv 1) (nomark _)) pa_nil)))))), ?_⟩
    have e : dRow (uRow n k) = .lst ((List.range n).map fun i => D.int (if i = k then 1 else 0)) := by
      unfold dRow uRow
      rw [List.map_map]
      rfl
    rw [e] at q
    refine lcF_range (n := n) (fun H1 _ R r => ⟨_, rfl, r⟩) (by omega) (fun i hi H1 s1 R r => ?_) H (Same.refl H) Q q
    simp only [w_seq, w_next, w_ret, w_asg, w_ifs, w_drop, w_brk, w_cont, w_name, w_var, w_c, w_op, w_un, w_I, w_I0, w_U, w_eq, w_scII, w_scBB, w_scSS, w_scNN, w_zi, w_zb, w_zn, w_zs, V.int.injEq, V.bl.injEq, V.str.injEq, V.ref.injEq, w_ne, w_test, w_B, w_and, w_or, w_not, w_andV, w_orV, w_notV, w_if, w_isN, w_nil, w_cons, w_cb, w_call, w_tup, w_lst, w_sub, w_intI, w_intB, w_isTyH, w_typ, w_isH, w_ixH, w_lenH, w_absH, w_listH, w_strH, w_bm, w_chain, w_exB, w_exV, w_start, k_ii, k_ib, k_is, k_il, k_it, k_bi, k_bb, k_bs, k_bl, k_bt, k_ni, k_nb, k_ns, k_nl, k_nt, k_si, k_sb, k_ss, k_sl, k_st, k_li, k_lb, k_ls, k_ll, k_lt, k_ti, k_tb, k_ts, k_tl, k_tt, w_st1, w_st2, w_st3, w_st5, atI_s0, atI_s1, atI_s2, atI_s3, atI_s4, atI_s5, List.map_cons, List.map_nil, List.length_cons, List.length_nil, List.replicate, List.cons_append, List.nil_append, List.append_nil, List.getElem?_cons_zero, List.getElem?_cons_succ, List.set_cons_zero, List.set_cons_succ, Nat.sub_self, Nat.reduceAdd, Nat.reduceSub, List.replicate_zero, decide_eq_true_eq, Bool.true_eq_false, Bool.false_eq_true, if_true, if_false, reduceIte, Bool.not_eq_true', decide_eq_false_iff_not, Bool.not_true, Bool.not_false, exists_eq_left', true_and, and_true, Option.some.injEq, reduceCtorEq, decide_true, decide_false, not_true_eq_false, not_false_eq_true, sizeLine_eq, Nat.reduceLeDiff, Bool.or_false, Bool.or_true, Bool.false_or, Bool.true_or, wp1, wp2, w_par, w_par2, w_tsl, w_nopart, w_part, w_exI]
    by_cases z : i = k
    · rw [if_pos z] at r
      rw [if_pos (show (i : Int) = (k : Int) by omega)]
      exact r _ _ (Fr.int (Same.refl _))
    · rw [if_neg z] at r
      rw [if_neg (show ¬ (i : Int) = (k : Int) by omega)]
      exact r _ _ (Fr.int (Same.refl _))
theorem ok_law_columns_of (F : Fun K "_law_columns_of" "_law_columns_of" s_law_columns_of f fd) (T : TxtC K mg A tm) : FnOk P w K mg base CX0 1 f fd ["width", "rows"] (sp_columns_of K) := by
  refine F.ok sc_law_columns_of (fun vs H Q E h => ?_) (fun cdv A outer s H vs Q E hr h => ?_)
  · obtain ⟨wd, m, v, as, rfl, _⟩ := h
    rfl
  · obtain ⟨wd, m, v, as, rfl, hw, hm, hlen, q⟩ := h
    obtain ⟨a, va, bs, rfl, ea, la, zm, rm, row⟩ := rep_mat hm
    refine ⟨_, (pss_one (ps_ret (pe_lc (own := [("at", 2)]) (te := tLc (iList K (tVar 1)) (gName 3) tYes (tOp rIxH (tVar 3) (tVar 2)) [3]) (g := gName 2) rfl sc_law_columns_of.nd (pi_range1 (by rfl) T.m_range (pa_cons (pv 0) pa_nil)) (blkOk_by (N := ["width", "rows", "at", "row"]) (sc := defScope s_law_columns_of) (by decide +kernel)) (fun _ _ _ _ _ => pg_name (i := 2) sc_law_columns_of.nd rfl (.inr rfl)) (fun _ _ _ _ _ => pts_nil) (fun _ _ _ _ _ => (by exact (pe_lc (own := [("row", 3)]) (g := gName 3) rfl sc_law_columns_of.nd (pi_list (pv 1)) (blkOk_by (N := ["width", "rows", "at", "row"]) (by kernel_rfl)) (fun _ _ _ _ _ => pg_name (i := 3) sc_law_columns_of.nd rfl (.inl rfl)) (fun _ _ _ _ _ => pts_nil) (fun _ _ _ _ _ => (pe_ix ix_H (pv 3) (pv 2) (fun _ _ => rfl))))))))), ?_⟩
    have e : dMat (cols wd m) = .lst ((List.range wd).map fun p => D.lst (m.map fun r => D.int (r.getD p 0))) := by
      unfold dMat cols dRow
      rw [List.map_map]
      refine congrArg D.lst (List.map_congr_left fun p _ => ?_)
      show D.lst ((m.map fun r => r.getD p 0).map D.int) = _
      rw [List.map_map]
      rfl
    rw [e] at q
    refine lcF_range (n := wd) (fun H1 _ R r => ⟨_, rfl, r⟩) (by omega) (fun p hp => ?_) H (Same.refl H) Q q
    refine lcF_list (a := a) (xs := va) (fun H1 _ R r => ⟨_, rfl, r⟩) (Or.inl (Or.inl ea)) (by rw [List.length_map, la]) (by omega) (fun k x d hk hd H1 s1 R r => ?_)
    rw [List.getElem?_map] at hd
    obtain ⟨rw', hrw⟩ : ∃ rw', m[k]? = some rw' := ⟨_, List.getElem?_eq_getElem (by have := (List.getElem?_eq_some_iff.mp hk).1; omega)⟩
    rw [hrw] at hd
    have hd := Option.some.inj hd
    subst hd
    obtain ⟨b, eb, hb⟩ := row k rw' hrw
    rw [hk] at eb
    have eb := Option.some.inj eb
    subst eb
    have lp : p < rw'.length := Nat.lt_of_lt_of_le hp (hlen rw' (List.mem_of_getElem? hrw))
    have ix : atI (rw'.map V.int) (p : Int) = some (.int (rw'.getD p 0)) := by
      refine atI_nat ?_
      rw [List.getElem?_map, List.getElem?_eq_getElem lp, List.getD_eq_getElem?_getD, List.getElem?_eq_getElem lp]
      rfl
    simp only [w_seq, w_next, w_ret, w_asg, w_ifs, w_drop, w_brk, w_cont, w_name, w_var, w_c, w_op, w_un, w_I, w_I0, w_U, w_eq, w_scII, w_scBB, w_scSS, w_scNN, w_zi, w_zb, w_zn, w_zs, V.int.injEq, V.bl.injEq, V.str.injEq, V.ref.injEq, w_ne, w_test, w_B, w_and, w_or, w_not, w_andV, w_orV, w_notV, w_if, w_isN, w_nil, w_cons, w_cb, w_call, w_tup, w_lst, w_sub, w_intI, w_intB, w_isTyH, w_typ, w_isH, w_ixH, w_lenH, w_absH, w_listH, w_strH, w_bm, w_chain, w_exB, w_exV, w_start, k_ii, k_ib, k_is, k_il, k_it, k_bi, k_bb, k_bs, k_bl, k_bt, k_ni, k_nb, k_ns, k_nl, k_nt, k_si, k_sb, k_ss, k_sl, k_st, k_li, k_lb, k_ls, k_ll, k_lt, k_ti, k_tb, k_ts, k_tl, k_tt, w_st1, w_st2, w_st3, w_st5, atI_s0, atI_s1, atI_s2, atI_s3, atI_s4, atI_s5, List.map_cons, List.map_nil, List.length_cons, List.length_nil, List.replicate, List.cons_append, List.nil_append, List.append_nil, List.getElem?_cons_zero, List.getElem?_cons_succ, List.set_cons_zero, List.set_cons_succ, Nat.sub_self, Nat.reduceAdd, Nat.reduceSub, List.replicate_zero, decide_eq_true_eq, Bool.true_eq_false, Bool.false_eq_true, if_true, if_false, reduceIte, Bool.not_eq_true', decide_eq_false_iff_not, Bool.not_true, Bool.not_false, exists_eq_left', true_and, and_true, Option.some.injEq, reduceCtorEq, decide_true, decide_false, not_true_eq_false, not_false_eq_true, sizeLine_eq, Nat.reduceLeDiff, Bool.or_false, Bool.or_true, Bool.false_or, Bool.true_or, wp1, wp2, w_par, w_par2, w_tsl, w_nopart, w_part, w_exI, seqAt_l (s1 _ _ hb), ix]
    exact r _ _ (Fr.int (Same.refl _))
/-- the matrix of a trail, gone back -/
def sp_back : Sp := fun vs H Q _ => ∃ (g l c : Nat) (v : V) (as : List Addr), vs = [v] ∧ Rep H (.lst ((tF g l c).map dS)) v as ∧ okF g l c = true ∧ l ≤ 12 ∧ c ≤ 12 ∧ g ≤ 30 ∧ ∀ y H', Fr H H' (dMat (ringF g l c)) y → Q y H'
theorem ok_back (F : Fun K "_law_back" "_law_back" s_law_back f fd) (T : TxtC K mg A tm) (C_law_unit : Cal P w K mg base "_law_unit" 1 ["width", "at"] sp_unit_row) (C_law_columns_of : Cal P w K mg base "_law_columns_of" 1 ["width", "rows"] (sp_columns_of K)) :
    FnOk P w K mg base CX0 2 f fd ["steps"] sp_back := by
  refine F.ok sc_law_back (fun vs H Q E h => ?_) (fun cdv Ar outer s H vs Q E hr h => ?_)
  · obtain ⟨g, l, c, v, as, rfl, _⟩ := h
    rfl
  · obtain ⟨g, l, c, v, as, rfl, hv, hok, k1, k2, hg, q⟩ := h
    simp only [Rep, List.length_map] at hv
    obtain ⟨sa, sv, bs, rfl, es, rs, _, _⟩ := hv
    have ls : sv.length = (tF g l c).length := by rw [reps_len rs, List.length_map]
    have item : ∀ (j : Nat) (t : Nat × Nat × Str), (tF g l c)[j]? = some t → ∃ a, sv[j]? = some (.ref a) ∧ H a = some (.tup [.int t.1, .int t.2.1, .str t.2.2]) := fun j t hj => by
      obtain ⟨x, xs, e1, e2⟩ := reps_at (i := j) (d := dS t) rs (by rw [List.getElem?_map, hj] <;> rfl)
      obtain ⟨a, rfl, e3⟩ := rep_step e2
      exact ⟨a, e1, e3⟩
    -- the last step
    have lT : 0 < (tF g l c).length := by
      obtain ⟨s0, r0, e0⟩ := tF_head hok
      rw [e0]
      exact Nat.succ_pos _
    obtain ⟨n1, hn1⟩ : ∃ n1, (tF g l c).length = n1 + 1 := ⟨(tF g l c).length - 1, by omega⟩
    have hgz : (tF g l c).length ≤ g := by
      have := trail_len g l c
      rw [trail_tF, List.length_map] at this
      exact this
    obtain ⟨a0, b0, d0, o0, x0, y0, z0⟩ := tF_drop n1 g l c hok k1 k2 (by omega)
    have one : (tF (g - n1) a0 b0).length = 1 := by
      rw [← d0, List.length_drop]
      omega
    obtain ⟨_, ring0⟩ := tF_one o0 one
    obtain ⟨s0, r0, h0⟩ := tF_head o0
    have at0 : (tF g l c)[n1]? = some (a0, b0, s0) := by
      have e : (List.drop n1 (tF g l c))[0]? = some (a0, b0, s0) := by
        rw [d0, h0]
        rfl
      rw [List.getElem?_drop] at e
      exact e
    obtain ⟨t0, i0, ht0⟩ := item n1 _ at0
    have neg1 : atI sv (-1) = some (.ref t0) := atI_neg1 (by rw [ls, hn1]) i0
    refine ⟨_, (pss_cons (ps_set (i := 1) sc_law_back.nd rfl (.inr rfl) (pe_lc (own := [("k", 3)]) (g := gName 3) rfl sc_law_back.nd (pi_range1 (by rfl) T.m_range (pa_cons (pe_ix ix_H (pe_ix ix_H (pv 0) (pe_un un_neg pe_int) (fun _ _ => rfl)) pe_int (fun _ _ => rfl)) pa_nil)) (blkOk_by (N := ["steps", "found", "step", "k"]) (sc := defScope s_law_back) (by decide +kernel)) (fun _ _ _ _ _ => pg_name (i := 3) sc_law_back.nd rfl (.inl rfl)) (fun _ _ _ _ _ => pts_nil) (fun _ _ _ _ _ => (pe_lst pa_nil))))
      (pss_cons (ps_for PassesOwn.never rfl (pi_reversed (by rfl) T.m_reversed (pa_cons (pe_slice sl_H (pv 0) po_none (po_some (pe_un un_neg pe_int))) pa_nil)) (pg_name (i := 2) sc_law_back.nd rfl (.inr rfl)) (pss_one (ps_if (pt_cmpR op_eq (pe_ix ix_H (pv 2) pe_int (fun _ _ => rfl)) pe_str (nomark _)) (pss_one (ps_set (i := 1) sc_law_back.nd rfl (.inr rfl) (pe_lc (own := [("k", 3)]) (g := gName 3) rfl sc_law_back.nd (pi_range1 (by rfl) T.m_range (pa_cons (pe_ix ix_H (pv 2) pe_int (fun _ _ => rfl)) pa_nil)) (blkOk_by (N := ["steps", "found", "step", "k"]) (sc := defScope s_law_back) (by decide +kernel)) (fun _ _ _ _ _ => pg_name (i := 3) sc_law_back.nd rfl (.inl rfl)) (fun _ _ _ _ _ => pts_nil) (fun _ _ _ _ _ => (pe_op op_cat (p_call C_law_unit hr (pa_cons (pe_ix ix_H (pv 2) pe_int (fun _ _ => rfl)) (pa_cons (pv 3) pa_nil))) (pe_ix ix_H (pv 1) (pv 3) (fun _ _ => rfl))))))) (pss_one (ps_set (i := 1) sc_law_back.nd rfl (.inr rfl) (p_call C_law_columns_of hr (pa_cons (pe_ix ix_H (pv 2) pe_int (fun _ _ => rfl)) (pa_cons (pv 1) pa_nil))))))))
      (pss_one (ps_ret (pv 1))))), ?_⟩
    have e0 : D.lst ((List.range a0).map fun _ => dRow []) = dMat (ringF (g - n1) a0 b0) := by
      rw [ring0]
      unfold dMat
      rw [List.map_map]
      rfl
    simp only [w_seq, w_next, w_ret, w_asg, w_ifs, w_drop, w_brk, w_cont, w_name, w_var, w_c, w_op, w_un, w_I, w_I0, w_U, w_eq, w_scII, w_scBB, w_scSS, w_scNN, w_zi, w_zb, w_zn, w_zs, V.int.injEq, V.bl.injEq, V.str.injEq, V.ref.injEq, w_ne, w_test, w_B, w_and, w_or, w_not, w_andV, w_orV, w_notV, w_if, w_isN, w_nil, w_cons, w_cb, w_call, w_tup, w_lst, w_sub, w_intI, w_intB, w_isTyH, w_typ, w_isH, w_ixH, w_lenH, w_absH, w_listH, w_strH, w_bm, w_chain, w_exB, w_exV, w_start, k_ii, k_ib, k_is, k_il, k_it, k_bi, k_bb, k_bs, k_bl, k_bt, k_ni, k_nb, k_ns, k_nl, k_nt, k_si, k_sb, k_ss, k_sl, k_st, k_li, k_lb, k_ls, k_ll, k_lt, k_ti, k_tb, k_ts, k_tl, k_tt, w_st1, w_st2, w_st3, w_st5, atI_s0, atI_s1, atI_s2, atI_s3, atI_s4, atI_s5, List.map_cons, List.map_nil, List.length_cons, List.length_nil, List.replicate, List.cons_append, List.nil_append, List.append_nil, List.getElem?_cons_zero, List.getElem?_cons_succ, List.set_cons_zero, List.set_cons_succ, Nat.sub_self, Nat.reduceAdd, Nat.reduceSub, List.replicate_zero, decide_eq_true_eq, Bool.true_eq_false, Bool.false_eq_true, if_true, if_false, reduceIte, Bool.not_eq_true', decide_eq_false_iff_not, Bool.not_true, Bool.not_false, exists_eq_left', true_and, and_true, Option.some.injEq, reduceCtorEq, decide_true, decide_false, not_true_eq_false, not_false_eq_true, sizeLine_eq, Nat.reduceLeDiff, Bool.or_false, Bool.or_true, Bool.false_or, Bool.true_or, wp1, wp2, w_par, w_par2, w_tsl, w_nopart, w_part, w_exI]
    refine lcF_range (n := a0) (f := fun _ => dRow []) (fun H1 s1 R r => ?_) (by omega) (fun i hi => evF_nil) H (Same.refl H) _ (fun y1 H1 f1 => ?_)
    · have z1 : atI [V.int a0, V.int b0, V.str s0] 0 = some (.int a0) := rfl
      simp only [w_seq, w_next, w_ret, w_asg, w_ifs, w_drop, w_brk, w_cont, w_name, w_var, w_c, w_op, w_un, w_I, w_I0, w_U, w_eq, w_scII, w_scBB, w_scSS, w_scNN, w_zi, w_zb, w_zn, w_zs, V.int.injEq, V.bl.injEq, V.str.injEq, V.ref.injEq, w_ne, w_test, w_B, w_and, w_or, w_not, w_andV, w_orV, w_notV, w_if, w_isN, w_nil, w_cons, w_cb, w_call, w_tup, w_lst, w_sub, w_intI, w_intB, w_isTyH, w_typ, w_isH, w_ixH, w_lenH, w_absH, w_listH, w_strH, w_bm, w_chain, w_exB, w_exV, w_start, k_ii, k_ib, k_is, k_il, k_it, k_bi, k_bb, k_bs, k_bl, k_bt, k_ni, k_nb, k_ns, k_nl, k_nt, k_si, k_sb, k_ss, k_sl, k_st, k_li, k_lb, k_ls, k_ll, k_lt, k_ti, k_tb, k_ts, k_tl, k_tt, w_st1, w_st2, w_st3, w_st5, atI_s0, atI_s1, atI_s2, atI_s3, atI_s4, atI_s5, List.map_cons, List.map_nil, List.length_cons, List.length_nil, List.replicate, List.cons_append, List.nil_append, List.append_nil, List.getElem?_cons_zero, List.getElem?_cons_succ, List.set_cons_zero, List.set_cons_succ, Nat.sub_self, Nat.reduceAdd, Nat.reduceSub, List.replicate_zero, decide_eq_true_eq, Bool.true_eq_false, Bool.false_eq_true, if_true, if_false, reduceIte, Bool.not_eq_true', decide_eq_false_iff_not, Bool.not_true, Bool.not_false, exists_eq_left', true_and, and_true, Option.some.injEq, reduceCtorEq, decide_true, decide_false, not_true_eq_false, not_false_eq_true, sizeLine_eq, Nat.reduceLeDiff, Bool.or_false, Bool.or_true, Bool.false_or, Bool.true_or, wp1, wp2, w_par, w_par2, w_tsl, w_nopart, w_part, w_exI, seqAt_l (s1 _ _ es), neg1, seqAt_t (s1 _ _ ht0), z1]
      exact r
    rw [e0] at f1
    have cut : cutV sv none (some (-1)) = sv.take n1 := by
      unfold cutV
      rw [show HT.sIx sv.length 0 none = 0 from rfl, show HT.sIx sv.length sv.length (some (-1)) = n1 by
        show (if (-1 : Int) < 0 then ((-1 : Int) + (sv.length : Int)).toNat else min (-1 : Int).toNat sv.length) = n1
        rw [if_pos (by decide)]
        omega]
      rfl
    refine for_rev ?_
    simp only [w_seq, w_next, w_ret, w_asg, w_ifs, w_drop, w_brk, w_cont, w_name, w_var, w_c, w_op, w_un, w_I, w_I0, w_U, w_eq, w_scII, w_scBB, w_scSS, w_scNN, w_zi, w_zb, w_zn, w_zs, V.int.injEq, V.bl.injEq, V.str.injEq, V.ref.injEq, w_ne, w_test, w_B, w_and, w_or, w_not, w_andV, w_orV, w_notV, w_if, w_isN, w_nil, w_cons, w_cb, w_call, w_tup, w_lst, w_sub, w_intI, w_intB, w_isTyH, w_typ, w_isH, w_ixH, w_lenH, w_absH, w_listH, w_strH, w_bm, w_chain, w_exB, w_exV, w_start, k_ii, k_ib, k_is, k_il, k_it, k_bi, k_bb, k_bs, k_bl, k_bt, k_ni, k_nb, k_ns, k_nl, k_nt, k_si, k_sb, k_ss, k_sl, k_st, k_li, k_lb, k_ls, k_ll, k_lt, k_ti, k_tb, k_ts, k_tl, k_tt, w_st1, w_st2, w_st3, w_st5, atI_s0, atI_s1, atI_s2, atI_s3, atI_s4, atI_s5, List.map_cons, List.map_nil, List.length_cons, List.length_nil, List.replicate, List.cons_append, List.nil_append, List.append_nil, List.getElem?_cons_zero, List.getElem?_cons_succ, List.set_cons_zero, List.set_cons_succ, Nat.sub_self, Nat.reduceAdd, Nat.reduceSub, List.replicate_zero, decide_eq_true_eq, Bool.true_eq_false, Bool.false_eq_true, if_true, if_false, reduceIte, Bool.not_eq_true', decide_eq_false_iff_not, Bool.not_true, Bool.not_false, exists_eq_left', true_and, and_true, Option.some.injEq, reduceCtorEq, decide_true, decide_false, not_true_eq_false, not_false_eq_true, sizeLine_eq, Nat.reduceLeDiff, Bool.or_false, Bool.or_true, Bool.false_or, Bool.true_or, wp1, wp2, w_par, w_par2, w_tsl, w_nopart, w_part, w_exI]
    refine ⟨sa, sv, rfl, Or.inl (f1.same _ _ es), fun p hp => ?_⟩
    have sp : Same H1 (upd H1 p (.lst (sv.take n1))) := same_new hp
    rw [cut]
    have ltk : (sv.take n1).length = n1 := by rw [List.length_take]; omega
    refine ⟨p, sv.take n1, rfl, Or.inl (Or.inl upd_same), ?_⟩
    rw [ltk]
    refine ⟨fun i m σ H' => m = n1 - i ∧ i ≤ n1 ∧ ∃ (a b : Nat) (y : V) (z : Option V), σ = [some (.ref sa), some y, z, none] ∧ (tF g l c).drop (n1 - i) = tF (g - (n1 - i)) a b ∧ okF (g - (n1 - i)) a b = true ∧ a ≤ 12 ∧ b ≤ 12 ∧ H' p = some (.lst (sv.take n1)) ∧ Same H1 H' ∧ Fr H H' (dMat (ringF (g - (n1 - i)) a b)) y,
      ⟨n1, rfl, Nat.zero_le _, a0, b0, y1, none, rfl, d0, o0, x0, y0, upd_same, sp, ?_⟩, ?_⟩
    · obtain ⟨s1, as1, r1, n1', f1'⟩ := f1
      exact ⟨s1.trans sp, as1, rep_same sp r1, n1', f1'⟩
    rintro i m σ H2 ⟨rfl, hi, a, b, y, z, rfl, hd, ho, ka, kb, hp2, s12, fr⟩
    by_cases hlt : i < n1
    · -- one step back
      obtain ⟨j, hj⟩ : ∃ j, n1 - i = j + 1 := ⟨n1 - i - 1, by omega⟩
      obtain ⟨a', b', d', o', ka', kb', jg⟩ := tF_drop j g l c hok k1 k2 (by omega)
      rw [hj] at hd ho fr
      obtain ⟨u, hu⟩ : ∃ u, g - j = u + 1 := ⟨g - j - 1, by omega⟩
      have hu' : g - (j + 1) = u := by omega
      rw [hu] at d' o'
      rw [hu'] at hd ho fr
      obtain ⟨s', r', h'⟩ := tF_head o'
      have atj : (tF g l c)[j]? = some (a', b', s') := by
        have e : (List.drop j (tF g l c))[0]? = some (a', b', s') := by
          rw [d', h']
          rfl
        rw [List.getElem?_drop] at e
        exact e
      obtain ⟨tj, ij, htj⟩ := item j _ atj
      have tl : r' = (tF g l c).drop (j + 1) := by
        rw [List.drop_add_one_eq_tail_drop, d', h']
        rfl
      have itj : (sv.take n1)[n1 - 1 - i]? = some (.ref tj) := by
        rw [show n1 - 1 - i = j by omega, List.getElem?_take_of_lt (by omega)]
        exact ij
      have htj2 : H2 tj = some (.tup [.int a', .int b', .str s']) := s12 _ _ (f1.same _ _ htj)
      refine Or.inr ⟨⟨hlt, sv.take n1, _, Or.inl (Or.inl hp2), itj⟩, fun σ' H' => ∃ (a b : Nat) (y : V) (z : Option V), σ' = [some (.ref sa), some y, z, none] ∧ (tF g l c).drop j = tF (g - j) a b ∧ okF (g - j) a b = true ∧ a ≤ 12 ∧ b ≤ 12 ∧ H' p = some (.lst (sv.take n1)) ∧ Same H1 H' ∧ Fr H H' (dMat (ringF (g - j) a b)) y, fun σ' H' hN => ?_, fun x H' hx => ?_⟩
      · obtain ⟨a2, b2, y2, z2, e1, e2, e3, e4, e5, e6, e7, e8⟩ := hN
        have : n1 - (i + 1) = j := by omega
        exact ⟨n1 - (i + 1), by omega, rfl, hlt, a2, b2, y2, z2, e1, by rw [this]; exact e2, by rw [this]; exact e3, e4, e5, e6, e7, by rw [this]; exact e8⟩
      · obtain ⟨rfl, hx⟩ := hx
        have ex := Option.some.inj ((hx _ (Or.inl (Or.inl hp2))).symm.trans itj)
        subst ex
        have o1 := o'
        unfold okF at o'
        have q1 : tF (u + 1) a' b' = if a' = 0 ∨ b' = 0 then [(a', b', ("end" : Str))] else if a' ≤ b' then (a', b', ("copy" : Str)) :: tF u a' (b' - a') else (a', b', ("turn" : Str)) :: tF u b' a' := rfl
        have q2 : ringF (u + 1) a' b' = if a' = 0 ∨ b' = 0 then (List.range a').map fun _ => [] else if a' ≤ b' then List.zipWith (· ++ ·) ((List.range a').map (uRow a')) (ringF u a' (b' - a')) else cols a' (ringF u b' a') := rfl
        have two : ¬ (a' = 0 ∨ b' = 0) := fun z0 => by
          rw [if_pos z0] at q1
          have : ((tF g l c).drop j).length = 1 := by
            rw [d', q1]
            rfl
          rw [List.length_drop] at this
          omega
        rw [if_neg two] at q1 q2 o'
        have c2 : atI [V.int a', V.int b', V.str s'] 2 = some (.str s') := rfl
        have c0 : atI [V.int a', V.int b', V.str s'] 0 = some (.int a') := rfl
        by_cases hab : a' ≤ b'
        · rw [if_pos hab] at q1 q2 o'
          have hs : s' = "copy" := by
            rw [h'] at q1
            injection q1 with q1 _
            injection q1 with _ q1
            injection q1
          have hr : r' = tF u a' (b' - a') := by
            rw [h'] at q1
            injection q1
          obtain ⟨ea, eb⟩ := tF_inj ho o' (by rw [← hd, ← tl, hr])
          subst ea
          subst hs
          obtain ⟨g1, g2⟩ := ring_shape u a b ho
          obtain ⟨as2, r2, _, _⟩ := fr.rep
          obtain ⟨fa, fv, fb, rfl, ef, lf, zf, rf, rowf⟩ := rep_mat r2
          simp only [w_seq, w_next, w_ret, w_asg, w_ifs, w_drop, w_brk, w_cont, w_name, w_var, w_c, w_op, w_un, w_I, w_I0, w_U, w_eq, w_scII, w_scBB, w_scSS, w_scNN, w_zi, w_zb, w_zn, w_zs, V.int.injEq, V.bl.injEq, V.str.injEq, V.ref.injEq, w_ne, w_test, w_B, w_and, w_or, w_not, w_andV, w_orV, w_notV, w_if, w_isN, w_nil, w_cons, w_cb, w_call, w_tup, w_lst, w_sub, w_intI, w_intB, w_isTyH, w_typ, w_isH, w_ixH, w_lenH, w_absH, w_listH, w_strH, w_bm, w_chain, w_exB, w_exV, w_start, k_ii, k_ib, k_is, k_il, k_it, k_bi, k_bb, k_bs, k_bl, k_bt, k_ni, k_nb, k_ns, k_nl, k_nt, k_si, k_sb, k_ss, k_sl, k_st, k_li, k_lb, k_ls, k_ll, k_lt, k_ti, k_tb, k_ts, k_tl, k_tt, w_st1, w_st2, w_st3, w_st5, atI_s0, atI_s1, atI_s2, atI_s3, atI_s4, atI_s5, List.map_cons, List.map_nil, List.length_cons, List.length_nil, List.replicate, List.cons_append, List.nil_append, List.append_nil, List.getElem?_cons_zero, List.getElem?_cons_succ, List.set_cons_zero, List.set_cons_succ, Nat.sub_self, Nat.reduceAdd, Nat.reduceSub, List.replicate_zero, decide_eq_true_eq, Bool.true_eq_false, Bool.false_eq_true, if_true, if_false, reduceIte, Bool.not_eq_true', decide_eq_false_iff_not, Bool.not_true, Bool.not_false, exists_eq_left', true_and, and_true, Option.some.injEq, reduceCtorEq, decide_true, decide_false, not_true_eq_false, not_false_eq_true, sizeLine_eq, Nat.reduceLeDiff, Bool.or_false, Bool.or_true, Bool.false_or, Bool.true_or, wp1, wp2, w_par, w_par2, w_tsl, w_nopart, w_part, w_exI, seqAt_t htj2, c2]
          have eM : dMat (List.zipWith (· ++ ·) ((List.range a).map (uRow a)) (ringF u a b)) = .lst ((List.range a).map fun k => dRow (uRow a k ++ (ringF u a b).getD k [])) := by
            unfold dMat
            refine congrArg D.lst (List.ext_getElem? fun k => ?_)
            rw [List.getElem?_map, List.getElem?_zipWith, List.getElem?_map, List.getElem?_map]
            by_cases hk : k < a
            · obtain ⟨r, hr⟩ : ∃ r, (ringF u a b)[k]? = some r := ⟨_, List.getElem?_eq_getElem (by omega)⟩
              rw [List.getElem?_range hk, hr]
              show some (dRow (uRow a k ++ r)) = some (dRow (uRow a k ++ (ringF u a b).getD k []))
              rw [List.getD_eq_getElem?_getD, hr]
              rfl
            · rw [List.getElem?_eq_none (l := List.range a) (by rw [List.length_range]; omega)]
              rfl
          subst eb
          refine lcF_range (n := a) (f := fun k => dRow (uRow a k ++ (ringF u a (b' - a)).getD k [])) (fun H3 s3 R r => ?_) (by omega) (fun i hi H4 s4 Q4 q4 => ?_) H' (Same.refl H') _ (fun y3 H3 f3 => ?_)
          · simp only [w_seq, w_next, w_ret, w_asg, w_ifs, w_drop, w_brk, w_cont, w_name, w_var, w_c, w_op, w_un, w_I, w_I0, w_U, w_eq, w_scII, w_scBB, w_scSS, w_scNN, w_zi, w_zb, w_zn, w_zs, V.int.injEq, V.bl.injEq, V.str.injEq, V.ref.injEq, w_ne, w_test, w_B, w_and, w_or, w_not, w_andV, w_orV, w_notV, w_if, w_isN, w_nil, w_cons, w_cb, w_call, w_tup, w_lst, w_sub, w_intI, w_intB, w_isTyH, w_typ, w_isH, w_ixH, w_lenH, w_absH, w_listH, w_strH, w_bm, w_chain, w_exB, w_exV, w_start, k_ii, k_ib, k_is, k_il, k_it, k_bi, k_bb, k_bs, k_bl, k_bt, k_ni, k_nb, k_ns, k_nl, k_nt, k_si, k_sb, k_ss, k_sl, k_st, k_li, k_lb, k_ls, k_ll, k_lt, k_ti, k_tb, k_ts, k_tl, k_tt, w_st1, w_st2, w_st3, w_st5, atI_s0, atI_s1, atI_s2, atI_s3, atI_s4, atI_s5, List.map_cons, List.map_nil, List.length_cons, List.length_nil, List.replicate, List.cons_append, List.nil_append, List.append_nil, List.getElem?_cons_zero, List.getElem?_cons_succ, List.set_cons_zero, List.set_cons_succ, Nat.sub_self, Nat.reduceAdd, Nat.reduceSub, List.replicate_zero, decide_eq_true_eq, Bool.true_eq_false, Bool.false_eq_true, if_true, if_false, reduceIte, Bool.not_eq_true', decide_eq_false_iff_not, Bool.not_true, Bool.not_false, exists_eq_left', true_and, and_true, Option.some.injEq, reduceCtorEq, decide_true, decide_false, not_true_eq_false, not_false_eq_true, sizeLine_eq, Nat.reduceLeDiff, Bool.or_false, Bool.or_true, Bool.false_or, Bool.true_or, wp1, wp2, w_par, w_par2, w_tsl, w_nopart, w_part, w_exI, seqAt_t (s3 _ _ htj2), c0]
            exact r
          · simp only [w_seq, w_next, w_ret, w_asg, w_ifs, w_drop, w_brk, w_cont, w_name, w_var, w_c, w_op, w_un, w_I, w_I0, w_U, w_eq, w_scII, w_scBB, w_scSS, w_scNN, w_zi, w_zb, w_zn, w_zs, V.int.injEq, V.bl.injEq, V.str.injEq, V.ref.injEq, w_ne, w_test, w_B, w_and, w_or, w_not, w_andV, w_orV, w_notV, w_if, w_isN, w_nil, w_cons, w_cb, w_call, w_tup, w_lst, w_sub, w_intI, w_intB, w_isTyH, w_typ, w_isH, w_ixH, w_lenH, w_absH, w_listH, w_strH, w_bm, w_chain, w_exB, w_exV, w_start, k_ii, k_ib, k_is, k_il, k_it, k_bi, k_bb, k_bs, k_bl, k_bt, k_ni, k_nb, k_ns, k_nl, k_nt, k_si, k_sb, k_ss, k_sl, k_st, k_li, k_lb, k_ls, k_ll, k_lt, k_ti, k_tb, k_ts, k_tl, k_tt, w_st1, w_st2, w_st3, w_st5, atI_s0, atI_s1, atI_s2, atI_s3, atI_s4, atI_s5, List.map_cons, List.map_nil, List.length_cons, List.length_nil, List.replicate, List.cons_append, List.nil_append, List.append_nil, List.getElem?_cons_zero, List.getElem?_cons_succ, List.set_cons_zero, List.set_cons_succ, Nat.sub_self, Nat.reduceAdd, Nat.reduceSub, List.replicate_zero, decide_eq_true_eq, Bool.true_eq_false, Bool.false_eq_true, if_true, if_false, reduceIte, Bool.not_eq_true', decide_eq_false_iff_not, Bool.not_true, Bool.not_false, exists_eq_left', true_and, and_true, Option.some.injEq, reduceCtorEq, decide_true, decide_false, not_true_eq_false, not_false_eq_true, sizeLine_eq, Nat.reduceLeDiff, Bool.or_false, Bool.or_true, Bool.false_or, Bool.true_or, wp1, wp2, w_par, w_par2, w_tsl, w_nopart, w_part, w_exI, seqAt_t (s4 _ _ htj2), c0]
            refine ⟨a, i, rfl, by omega, fun y5 H5 f5 => ?_⟩
            obtain ⟨as5, r5, _, _⟩ := f5.rep
            obtain ⟨b5, rfl, e5, _, _⟩ := rep_row r5
            obtain ⟨rr, hrr⟩ : ∃ rr, (ringF u a (b' - a))[i]? = some rr := ⟨_, List.getElem?_eq_getElem (by omega)⟩
            obtain ⟨rb, e6, e7⟩ := rowf i rr hrr
            have ixv : atI fv (i : Int) = some (.ref rb) := atI_nat e6
            have lr := g2 rr (List.mem_of_getElem? hrr)
            have lu : (uRow a i).length = a := by
              unfold uRow
              rw [List.length_map, List.length_range]
            have s5 : Same H' H5 := s4.trans f5.same
            simp only [w_seq, w_next, w_ret, w_asg, w_ifs, w_drop, w_brk, w_cont, w_name, w_var, w_c, w_op, w_un, w_I, w_I0, w_U, w_eq, w_scII, w_scBB, w_scSS, w_scNN, w_zi, w_zb, w_zn, w_zs, V.int.injEq, V.bl.injEq, V.str.injEq, V.ref.injEq, w_ne, w_test, w_B, w_and, w_or, w_not, w_andV, w_orV, w_notV, w_if, w_isN, w_nil, w_cons, w_cb, w_call, w_tup, w_lst, w_sub, w_intI, w_intB, w_isTyH, w_typ, w_isH, w_ixH, w_lenH, w_absH, w_listH, w_strH, w_bm, w_chain, w_exB, w_exV, w_start, k_ii, k_ib, k_is, k_il, k_it, k_bi, k_bb, k_bs, k_bl, k_bt, k_ni, k_nb, k_ns, k_nl, k_nt, k_si, k_sb, k_ss, k_sl, k_st, k_li, k_lb, k_ls, k_ll, k_lt, k_ti, k_tb, k_ts, k_tl, k_tt, w_st1, w_st2, w_st3, w_st5, atI_s0, atI_s1, atI_s2, atI_s3, atI_s4, atI_s5, List.map_cons, List.map_nil, List.length_cons, List.length_nil, List.replicate, List.cons_append, List.nil_append, List.append_nil, List.getElem?_cons_zero, List.getElem?_cons_succ, List.set_cons_zero, List.set_cons_succ, Nat.sub_self, Nat.reduceAdd, Nat.reduceSub, List.replicate_zero, decide_eq_true_eq, Bool.true_eq_false, Bool.false_eq_true, if_true, if_false, reduceIte, Bool.not_eq_true', decide_eq_false_iff_not, Bool.not_true, Bool.not_false, exists_eq_left', true_and, and_true, Option.some.injEq, reduceCtorEq, decide_true, decide_false, not_true_eq_false, not_false_eq_true, sizeLine_eq, Nat.reduceLeDiff, Bool.or_false, Bool.or_true, Bool.false_or, Bool.true_or, wp1, wp2, w_par, w_par2, w_tsl, w_nopart, w_part, w_exI, seqAt_l (s5 _ _ ef), ixv, w_cat e5 (s5 _ _ e7)]
            refine ⟨by rw [List.length_map, List.length_map]; omega, fun p5 hp5 => q4 _ _ ?_⟩
            rw [← List.map_append]
            have eg : (ringF u a (b' - a)).getD i [] = rr := by
              rw [List.getD_eq_getElem?_getD, hrr]
              rfl
            rw [eg]
            exact Fr.trans f5.same (fr_row hp5 (by rw [List.length_append]; omega))
          · rw [← eM, ← q2, ← hu] at f3
            refine ⟨a, b', y3, _, rfl, by rw [hu]; exact d', by rw [hu]; exact o1, ka', kb', f3.same _ _ hp2, s12.trans f3.same, Fr.trans (f1.same.trans s12) f3⟩
        · rw [if_neg hab] at q1 q2 o'
          have hs : s' = "turn" := by
            rw [h'] at q1
            injection q1 with q1 _
            injection q1 with _ q1
            injection q1
          have hr : r' = tF u b' a' := by
            rw [h'] at q1
            injection q1
          obtain ⟨ea, eb⟩ := tF_inj ho o' (by rw [← hd, ← tl, hr])
          subst ea
          subst eb
          subst hs
          obtain ⟨g1, g2⟩ := ring_shape u a b ho
          obtain ⟨as2, r2, _, _⟩ := fr.rep
          have ne : ("turn" : Str) ≠ "copy" := by decide
          simp only [w_seq, w_next, w_ret, w_asg, w_ifs, w_drop, w_brk, w_cont, w_name, w_var, w_c, w_op, w_un, w_I, w_I0, w_U, w_eq, w_scII, w_scBB, w_scSS, w_scNN, w_zi, w_zb, w_zn, w_zs, V.int.injEq, V.bl.injEq, V.str.injEq, V.ref.injEq, w_ne, w_test, w_B, w_and, w_or, w_not, w_andV, w_orV, w_notV, w_if, w_isN, w_nil, w_cons, w_cb, w_call, w_tup, w_lst, w_sub, w_intI, w_intB, w_isTyH, w_typ, w_isH, w_ixH, w_lenH, w_absH, w_listH, w_strH, w_bm, w_chain, w_exB, w_exV, w_start, k_ii, k_ib, k_is, k_il, k_it, k_bi, k_bb, k_bs, k_bl, k_bt, k_ni, k_nb, k_ns, k_nl, k_nt, k_si, k_sb, k_ss, k_sl, k_st, k_li, k_lb, k_ls, k_ll, k_lt, k_ti, k_tb, k_ts, k_tl, k_tt, w_st1, w_st2, w_st3, w_st5, atI_s0, atI_s1, atI_s2, atI_s3, atI_s4, atI_s5, List.map_cons, List.map_nil, List.length_cons, List.length_nil, List.replicate, List.cons_append, List.nil_append, List.append_nil, List.getElem?_cons_zero, List.getElem?_cons_succ, List.set_cons_zero, List.set_cons_succ, Nat.sub_self, Nat.reduceAdd, Nat.reduceSub, List.replicate_zero, decide_eq_true_eq, Bool.true_eq_false, Bool.false_eq_true, if_true, if_false, reduceIte, Bool.not_eq_true', decide_eq_false_iff_not, Bool.not_true, Bool.not_false, exists_eq_left', true_and, and_true, Option.some.injEq, reduceCtorEq, decide_true, decide_false, not_true_eq_false, not_false_eq_true, sizeLine_eq, Nat.reduceLeDiff, Bool.or_false, Bool.or_true, Bool.false_or, Bool.true_or, wp1, wp2, w_par, w_par2, w_tsl, w_nopart, w_part, w_exI, seqAt_t htj2, c2, c0, ne]
          refine ⟨b, ringF u a b, y, as2, rfl, by omega, r2, fun r hr => ?_, fun y3 H3 f3 => ?_⟩
          · have := g2 r hr
            omega
          · rw [← q2, ← hu] at f3
            refine ⟨b, a, y3, _, rfl, by rw [hu]; exact d', by rw [hu]; exact o1, ka', kb', f3.same _ _ hp2, s12.trans f3.same, Fr.trans (f1.same.trans s12) f3⟩
    · have e : i = n1 := by omega
      subst e
      rw [Nat.sub_self] at hd fr ho
      obtain ⟨ea, eb⟩ := tF_inj ho hok hd.symm
      subst ea
      subst eb
      refine Or.inl ⟨Nat.le_refl _, ?_⟩
      simp only [w_seq, w_next, w_ret, w_asg, w_ifs, w_drop, w_brk, w_cont, w_name, w_var, w_c, w_op, w_un, w_I, w_I0, w_U, w_eq, w_scII, w_scBB, w_scSS, w_scNN, w_zi, w_zb, w_zn, w_zs, V.int.injEq, V.bl.injEq, V.str.injEq, V.ref.injEq, w_ne, w_test, w_B, w_and, w_or, w_not, w_andV, w_orV, w_notV, w_if, w_isN, w_nil, w_cons, w_cb, w_call, w_tup, w_lst, w_sub, w_intI, w_intB, w_isTyH, w_typ, w_isH, w_ixH, w_lenH, w_absH, w_listH, w_strH, w_bm, w_chain, w_exB, w_exV, w_start, k_ii, k_ib, k_is, k_il, k_it, k_bi, k_bb, k_bs, k_bl, k_bt, k_ni, k_nb, k_ns, k_nl, k_nt, k_si, k_sb, k_ss, k_sl, k_st, k_li, k_lb, k_ls, k_ll, k_lt, k_ti, k_tb, k_ts, k_tl, k_tt, w_st1, w_st2, w_st3, w_st5, atI_s0, atI_s1, atI_s2, atI_s3, atI_s4, atI_s5, List.map_cons, List.map_nil, List.length_cons, List.length_nil, List.replicate, List.cons_append, List.nil_append, List.append_nil, List.getElem?_cons_zero, List.getElem?_cons_succ, List.set_cons_zero, List.set_cons_succ, Nat.sub_self, Nat.reduceAdd, Nat.reduceSub, List.replicate_zero, decide_eq_true_eq, Bool.true_eq_false, Bool.false_eq_true, if_true, if_false, reduceIte, Bool.not_eq_true', decide_eq_false_iff_not, Bool.not_true, Bool.not_false, exists_eq_left', true_and, and_true, Option.some.injEq, reduceCtorEq, decide_true, decide_false, not_true_eq_false, not_false_eq_true, sizeLine_eq, Nat.reduceLeDiff, Bool.or_false, Bool.or_true, Bool.false_or, Bool.true_or, wp1, wp2, w_par, w_par2, w_tsl, w_nopart, w_part, w_exI]
      exact q _ _ fr
end
end Mt


namespace Mt
open PySem PySem.Spec PyProof.Rows L2 L2H
section
variable {P : Program} {w : World} {K : PySem.W.Frag} {mg : Str → Option Value} {base : Heap} {f : Addr} {fd : FuncData} {A : Ad} {tm : Tok}
/-- what is known of the class of the errors of numbers -/
structure BnOk (K : PySem.W.Frag) (A : Ad) : Prop where
  xc : XcC K A.bn
  no : PySem.W.findIn K (.ref A.bn) "argument" = some none
  kk : Kinds K A A.bn true false false
  ex : PySem.W.exmOne K (.ref A.bn) (.ref A.me) = some true
def sp_ask : Sp := fun vs H Q _ => ∃ (wd : Str) (a b : V) (n m : String), vs = [.str wd, a, b] ∧ zTyV a H = some n ∧ zTyV b H = some m ∧
  (∀ l c : Nat, a = .int l → b = .int c → l ≤ 12 → c ≤ 12 → ∀ y H', Fr H H' (if wd = "trail" then .lst (trailF 30 l c) else dMat (ringF 30 l c)) y → Q y H') ∧
  (okRing a b = false → ∀ y H', Fr H H' (.tup [.str "BadNumber", .str (ringArg a)]) y → Q y H')
theorem ok_law_ask (F : Fun K "_law_ask" "_law_ask" s_law_ask f fd) (T : TxtC K mg A tm) (B : BnOk K A) (C_ring_trail : CalX P w K mg base "ring_trail" 5 ["letters", "checks"] (sp_ring_trail A.bn)) (C_ring_checks : CalX P w K mg base "ring_checks" 32 ["letters", "checks"] (sp_ring_checks A.bn)) (C_law_kind : CalE P w K mg base "_law_kind" 1 ["error"] (sp_kind K A)) :
    FnOk P w K mg base CX0 33 f fd ["word", "letters", "checks"] sp_ask := by
  refine F.ok sc_law_ask (fun vs H Q E h => ?_) (fun cdv Ar outer s H vs Q E hr h => ?_)
  · obtain ⟨wd, a, b, n, m, rfl, _⟩ := h
    rfl
  · obtain ⟨wd, a, b, n, m, rfl, h1, h2, q, qe⟩ := h
    refine ⟨_, (pss_one (L2N.ps_try_as (i := 3) (Wout := fun _ _ _ _ => False) rfl rfl sc_law_ask.nd rfl rfl ⟨rfl, by decide, .inl T.g_MendError⟩ takesN (fun W pn xe tk po => (pss_cons (ps_if (pt_cmpR op_eq (pv 0) pe_str (nomark _)) (pss_one (ps_ret (p_callX C_ring_trail hr tk (pa_cons (pv 1) (pa_cons (pv 2) pa_nil)) (by omega)))) pss_nil)
      (pss_one (ps_ret (p_callX C_ring_checks hr tk (pa_cons (pv 1) (pa_cons (pv 2) pa_nil)) (by omega)))))) (fun a oe cls d pn hz hf => (pss_one (ps_ret (p_callS C_law_kind hr hz hf (pa_cons (pv 3) pa_nil))))))), ?_⟩
    have esc : okRing a b = false → ∀ d, H d = none → wAs K (Value.ref A.me) 3 (fun a cls d => tRet (tCallE a cls d (sp_kind K A) (tCons (tVar 3) tNil))) (fun _ _ _ _ => False) { nx := fun x H' => Q V.non H', rt := Q } (.ref A.bn) (some d) [some (V.str wd), some a, some b, none] (upd H d (.xd [("argument", .str (ringArg a))])) := fun hk d hd => by
      refine ⟨true, B.ex, fun _ e he => ?_, fun z => nomatch z⟩
      simp only [w_seq, w_next, w_ret, w_asg, w_ifs, w_drop, w_brk, w_cont, w_name, w_var, w_c, w_op, w_un, w_I, w_I0, w_U, w_eq, w_scII, w_scBB, w_scSS, w_scNN, w_zi, w_zb, w_zn, w_zs, V.int.injEq, V.bl.injEq, V.str.injEq, V.ref.injEq, w_ne, w_test, w_B, w_and, w_or, w_not, w_andV, w_orV, w_notV, w_if, w_isN, w_nil, w_cons, w_cb, w_call, w_tup, w_lst, w_sub, w_intI, w_intB, w_isTyH, w_typ, w_isH, w_ixH, w_lenH, w_absH, w_listH, w_strH, w_bm, w_chain, w_exB, w_exV, w_start, k_ii, k_ib, k_is, k_il, k_it, k_bi, k_bb, k_bs, k_bl, k_bt, k_ni, k_nb, k_ns, k_nl, k_nt, k_si, k_sb, k_ss, k_sl, k_st, k_li, k_lb, k_ls, k_ll, k_lt, k_ti, k_tb, k_ts, k_tl, k_tt, w_st1, w_st2, w_st3, w_st5, atI_s0, atI_s1, atI_s2, atI_s3, atI_s4, atI_s5, List.map_cons, List.map_nil, List.length_cons, List.length_nil, List.replicate, List.cons_append, List.nil_append, List.append_nil, List.getElem?_cons_zero, List.getElem?_cons_succ, List.set_cons_zero, List.set_cons_succ, Nat.sub_self, Nat.reduceAdd, Nat.reduceSub, List.replicate_zero, decide_eq_true_eq, Bool.true_eq_false, Bool.false_eq_true, if_true, if_false, reduceIte, Bool.not_eq_true', decide_eq_false_iff_not, Bool.not_true, Bool.not_false, exists_eq_left', true_and, and_true, Option.some.injEq, reduceCtorEq, decide_true, decide_false, not_true_eq_false, not_false_eq_true, sizeLine_eq, Nat.reduceLeDiff, Bool.or_false, Bool.or_true, Bool.false_or, Bool.true_or, wp1, wp2, w_par, w_par2, w_tsl, w_nopart, w_part, w_exI, w_callE]
      intro oe z
      refine ⟨A.bn, d, .str (ringArg a), true, false, false, rfl, z, B.xc, B.no, B.kk, Or.inl rfl, upd_same, fun t H' s' ht et => ?_⟩
      have sd : Same H (upd H d (.xd [("argument", .str (ringArg a))])) := same_new hd
      refine qe hk (.ref t) H' ⟨sd.trans s', [], ?_, List.nodup_nil, fun a ha => nomatch ha⟩
      simp only [Rep, Reps]
      exact ⟨t, _, [], rfl, et, ⟨_, _, [], [], rfl, ⟨rfl, rfl⟩, ⟨_, _, [], [], rfl, ⟨rfl, rfl⟩, ⟨rfl, rfl⟩, rfl⟩, rfl⟩, rfl, by show 2 < 1000000; decide⟩
    simp only [w_seq, w_next, w_ret, w_asg, w_ifs, w_drop, w_brk, w_cont, w_name, w_var, w_c, w_op, w_un, w_I, w_I0, w_U, w_eq, w_scII, w_scBB, w_scSS, w_scNN, w_zi, w_zb, w_zn, w_zs, V.int.injEq, V.bl.injEq, V.str.injEq, V.ref.injEq, w_ne, w_test, w_B, w_and, w_or, w_not, w_andV, w_orV, w_notV, w_if, w_isN, w_nil, w_cons, w_cb, w_call, w_tup, w_lst, w_sub, w_intI, w_intB, w_isTyH, w_typ, w_isH, w_ixH, w_lenH, w_absH, w_listH, w_strH, w_bm, w_chain, w_exB, w_exV, w_start, k_ii, k_ib, k_is, k_il, k_it, k_bi, k_bb, k_bs, k_bl, k_bt, k_ni, k_nb, k_ns, k_nl, k_nt, k_si, k_sb, k_ss, k_sl, k_st, k_li, k_lb, k_ls, k_ll, k_lt, k_ti, k_tb, k_ts, k_tl, k_tt, w_st1, w_st2, w_st3, w_st5, atI_s0, atI_s1, atI_s2, atI_s3, atI_s4, atI_s5, List.map_cons, List.map_nil, List.length_cons, List.length_nil, List.replicate, List.cons_append, List.nil_append, List.append_nil, List.getElem?_cons_zero, List.getElem?_cons_succ, List.set_cons_zero, List.set_cons_succ, Nat.sub_self, Nat.reduceAdd, Nat.reduceSub, List.replicate_zero, decide_eq_true_eq, Bool.true_eq_false, Bool.false_eq_true, if_true, if_false, reduceIte, Bool.not_eq_true', decide_eq_false_iff_not, Bool.not_true, Bool.not_false, exists_eq_left', true_and, and_true, Option.some.injEq, reduceCtorEq, decide_true, decide_false, not_true_eq_false, not_false_eq_true, sizeLine_eq, Nat.reduceLeDiff, Bool.or_false, Bool.or_true, Bool.false_or, Bool.true_or, wp1, wp2, w_par, w_par2, w_tsl, w_nopart, w_part, w_exI, w_callS]
    by_cases hw : wd = "trail"
    · rw [if_pos hw]
      refine ⟨a, b, n, m, rfl, h1, h2, fun l c e1 e2 k1 k2 y H' f => q l c e1 e2 k1 k2 y H' ?_, fun hk d hd => esc hk d hd⟩
      rw [if_pos hw]
      exact f
    · rw [if_neg hw]
      refine ⟨a, b, n, m, rfl, h1, h2, fun l c e1 e2 k1 k2 y H' f => q l c e1 e2 k1 k2 y H' ?_, fun hk d hd => esc hk d hd⟩
      rw [if_neg hw]
      exact f
end
end Mt


namespace Mt
open PySem PySem.Spec PyProof.Rows L2 L2H
abbrev s_law_walked : Stmt := topS 40
theorem sc_law_walked : FnScope ["letters", "checks", "steps", "k", "pair"] ["letters", "checks"] (defScope s_law_walked) := ⟨rfl, rfl, rfl, by decide +kernel, rfl, by decide +kernel, by decide +kernel⟩

theorem for_rng {ta : TA} {g : TG} {tb : TS} {D : Ends} {σ : L2.St} {H : Hp} (h : ta σ H fun vs H1 => ∃ j : Int, vs = [.int j] ∧ -(2 ^ 62) ≤ j ∧ j < 2 ^ 62 ∧ ForQ (Itr 0 j.toNat) g tb D σ H1) : tFor (iRng1 ta) g tb D σ H := h
theorem forN {n : Nat} {g : TG} {tb : TS} {D : Ends} {σ : L2.St} {H : Hp} (hn : n < 1000000) (Pv : Nat → L2.St → Hp → Prop) (h0 : Pv 0 σ H)
    (hs : ∀ i σ H, i < n → Pv i σ H → g (.int i) σ H fun σ2 H2 => tb { D with nx := Pv (i + 1), ct := Pv (i + 1), bk := D.nx } σ2 H2) (hd : ∀ σ H, Pv n σ H → D.nx σ H) : ∃ j : Int, [V.int n] = [V.int j] ∧ -(2 ^ 62) ≤ j ∧ j < 2 ^ 62 ∧ ForQ (Itr 0 j.toNat) g tb D σ H :=
  ⟨n, rfl, by omega, by omega, for_range (lo := 0) (n := n) Pv h0 (fun i σ H hi p => by rw [Int.zero_add]; exact hs i σ H hi p) hd⟩
theorem okRing_nat {a b : Nat} (ka : a ≤ 12) (kb : b ≤ 12) : okRing (.int a) (.int b) = true := by
  show ((decide ((0 : Int) ≤ a) && decide ((a : Int) ≤ 12)) && (decide ((0 : Int) ≤ b) && decide ((b : Int) ≤ 12))) = true
  rw [decide_eq_true (show (0 : Int) ≤ a by omega), decide_eq_true (show (a : Int) ≤ 12 by omega), decide_eq_true (show (0 : Int) ≤ b by omega), decide_eq_true (show (b : Int) ≤ 12 by omega)]
  rfl
theorem u_ask {wd : Str} {a b : Nat} {H : Hp} {Q : VK} {E : XK} (ka : a ≤ 12) (kb : b ≤ 12) (q : ∀ y H', Fr H H' (if wd = "trail" then .lst (trailF 30 a b) else dMat (ringF 30 a b)) y → Q y H') : sp_ask [.str wd, .int a, .int b] H Q E := by
  refine ⟨wd, .int a, .int b, "int", "int", rfl, rfl, rfl, fun l c e1 e2 _ _ y H' f => ?_, fun z => ?_⟩
  · have e1 := V.int.inj e1
    have e2 := V.int.inj e2
    obtain rfl : a = l := by omega
    obtain rfl : b = c := by omega
    exact q y H' f
  · rw [okRing_nat ka kb] at z
    cases z
theorem reps_drop {H : Hp} : ∀ {k : Nat} {ds : List D} {vs : List V} {as : List Addr}, Reps H ds vs as → ∃ bs, Reps H (ds.drop k) (vs.drop k) bs
  | 0, ds, vs, as, h => ⟨as, h⟩
  | k + 1, [], vs, as, h => by
    simp only [Reps] at h
    obtain ⟨rfl, rfl⟩ := h
    exact ⟨[], by simp [Reps]⟩
  | k + 1, d :: ds, vs, as, h => by
    simp only [Reps] at h
    obtain ⟨v, r, bs, cs, rfl, _, h, _⟩ := h
    exact reps_drop (k := k) h
theorem deps_le {n : Nat} : ∀ {ds : List D}, (∀ d ∈ ds, dep d ≤ n) → deps ds ≤ n
  | [], _ => by simp [deps]
  | d :: ds, h => by
    have h1 := h d (List.mem_cons_self ..)
    have h2 := deps_le fun x hx => h x (List.mem_cons_of_mem _ hx)
    simp only [deps]
    omega
theorem dep_steps {ts : List (Nat × Nat × Str)} : dep (.lst (ts.map dS)) ≤ 4 := by
  have : deps (ts.map dS) ≤ 1 := deps_le fun d hd => by
    obtain ⟨t, _, rfl⟩ := List.mem_map.mp hd
    exact Nat.le_refl 1
  simp only [dep]
  omega
theorem dep_mat {m : List (List Int)} : dep (dMat m) ≤ 4 := by
  have h2 : ∀ r : List Int, deps (r.map D.int) ≤ 0 := fun r => deps_le fun d hd => by
    obtain ⟨t, _, rfl⟩ := List.mem_map.mp hd
    exact Nat.le_refl 0
  have : deps (m.map dRow) ≤ 1 := deps_le fun d hd => by
    obtain ⟨t, _, rfl⟩ := List.mem_map.mp hd
    have := h2 t
    simp only [dRow, dep]
    omega
  simp only [dMat, dep]
  omega
section
variable {P : Program} {w : World} {K : PySem.W.Frag} {mg : Str → Option Value} {base : Heap} {f : Addr} {fd : FuncData} {A : Ad} {tm : Tok}
def sp_walked : Sp := fun vs H Q _ => ∃ l c : Nat, vs = [.int l, .int c] ∧ l ≤ 12 ∧ c ≤ 12 ∧ ∀ H', Same H H' → Q (.bl true) H'
theorem ok_walked (F : Fun K "_law_walked" "_law_walked" s_law_walked f fd) (T : TxtC K mg A tm) (C_law_steps : Cal P w K mg base "_law_steps" 1 ["letters", "checks"] sp_steps) (C_law_same : Cal P w K mg base "_law_same" 5 ["left", "right"] (sp_same 4)) (C_law_ask : Cal P w K mg base "_law_ask" 33 ["word", "letters", "checks"] sp_ask) (C_law_back : Cal P w K mg base "_law_back" 2 ["steps"] sp_back) :
    FnOk P w K mg base CX0 34 f fd ["letters", "checks"] sp_walked := by
  refine F.ok sc_law_walked (fun vs H Q E h => ?_) (fun cdv Ar outer s H vs Q E hr h => ?_)
  · obtain ⟨l, c, rfl, _⟩ := h
    rfl
  · obtain ⟨l, c, rfl, k1, k2, q⟩ := h
    refine ⟨_, (pss_cons (ps_set (i := 2) sc_law_walked.nd rfl (.inl rfl) (p_call C_law_steps hr (pa_cons (pv 0) (pa_cons (pv 1) pa_nil)) (by omega)))
      (pss_cons (ps_for PassesOwn.never rfl (pi_range1 (by rfl) T.m_range (pa_cons (pe_callB call_lenH (by rfl) T.m_len (by decide +kernel) (pa_cons (pv 2) pa_nil)) pa_nil)) (pg_name (i := 3) sc_law_walked.nd rfl (.inl rfl)) (pss_cons (ps_set (i := 4) sc_law_walked.nd rfl (.inl rfl) (pe_ix ix_H (pv 2) (pv 3) (fun _ _ => rfl)))
      (pss_cons (ps_if (pt_not (pt_val (p_call C_law_same hr (pa_cons (p_call C_law_ask hr (pa_cons pe_str (pa_cons (pe_ix ix_H (pv 4) pe_int (fun _ _ => rfl)) (pa_cons (pe_ix ix_H (pv 4) pe_int (fun _ _ => rfl)) pa_nil))) (by omega)) (pa_cons (pe_slice sl_H (pv 2) (po_some (pv 3)) po_none) pa_nil)) (by omega)))) (pss_one (ps_ret pe_bl)) pss_nil)
      (pss_one (ps_if (pt_not (pt_val (p_call C_law_same hr (pa_cons (p_call C_law_ask hr (pa_cons pe_str (pa_cons (pe_ix ix_H (pv 4) pe_int (fun _ _ => rfl)) (pa_cons (pe_ix ix_H (pv 4) pe_int (fun _ _ => rfl)) pa_nil))) (by omega)) (pa_cons (p_call C_law_back hr (pa_cons (pe_slice sl_H (pv 2) (po_some (pv 3)) po_none) pa_nil) (by omega)) pa_nil)) (by omega)))) (pss_one (ps_ret pe_bl)) pss_nil)))))
      (pss_one (ps_ret pe_bl)))), ?_⟩
    simp only [w_seq, w_next, w_ret, w_asg, w_ifs, w_drop, w_brk, w_cont, w_name, w_var, w_c, w_op, w_un, w_I, w_I0, w_U, w_eq, w_scII, w_scBB, w_scSS, w_scNN, w_zi, w_zb, w_zn, w_zs, V.int.injEq, V.bl.injEq, V.str.injEq, V.ref.injEq, w_ne, w_test, w_B, w_and, w_or, w_not, w_andV, w_orV, w_notV, w_if, w_isN, w_nil, w_cons, w_cb, w_call, w_tup, w_lst, w_sub, w_intI, w_intB, w_isTyH, w_typ, w_isH, w_ixH, w_lenH, w_absH, w_listH, w_strH, w_bm, w_chain, w_exB, w_exV, w_start, k_ii, k_ib, k_is, k_il, k_it, k_bi, k_bb, k_bs, k_bl, k_bt, k_ni, k_nb, k_ns, k_nl, k_nt, k_si, k_sb, k_ss, k_sl, k_st, k_li, k_lb, k_ls, k_ll, k_lt, k_ti, k_tb, k_ts, k_tl, k_tt, w_st1, w_st2, w_st3, w_st5, atI_s0, atI_s1, atI_s2, atI_s3, atI_s4, atI_s5, List.map_cons, List.map_nil, List.length_cons, List.length_nil, List.replicate, List.cons_append, List.nil_append, List.append_nil, List.getElem?_cons_zero, List.getElem?_cons_succ, List.set_cons_zero, List.set_cons_succ, Nat.sub_self, Nat.reduceAdd, Nat.reduceSub, List.replicate_zero, decide_eq_true_eq, Bool.true_eq_false, Bool.false_eq_true, if_true, if_false, reduceIte, Bool.not_eq_true', decide_eq_false_iff_not, Bool.not_true, Bool.not_false, exists_eq_left', true_and, and_true, Option.some.injEq, reduceCtorEq, decide_true, decide_false, not_true_eq_false, not_false_eq_true, sizeLine_eq, Nat.reduceLeDiff, Bool.or_false, Bool.or_true, Bool.false_or, Bool.true_or, wp1, wp2, w_par, w_par2, w_tsl, w_nopart, w_part, w_exI]
    refine ⟨l, c, rfl, k1, k2, fun y H1 f1 => ?_⟩
    have hok := okF_30 l c k1 k2
    rw [trail_tF] at f1
    obtain ⟨as1, r1, _, _⟩ := f1.rep
    simp only [Rep, List.length_map] at r1
    obtain ⟨sa, sv, bs, rfl, es, rs, _, lz⟩ := r1
    have ls : sv.length = (tF 30 l c).length := by rw [reps_len rs, List.length_map]
    refine for_rng ?_
    simp only [w_seq, w_next, w_ret, w_asg, w_ifs, w_drop, w_brk, w_cont, w_name, w_var, w_c, w_op, w_un, w_I, w_I0, w_U, w_eq, w_scII, w_scBB, w_scSS, w_scNN, w_zi, w_zb, w_zn, w_zs, V.int.injEq, V.bl.injEq, V.str.injEq, V.ref.injEq, w_ne, w_test, w_B, w_and, w_or, w_not, w_andV, w_orV, w_notV, w_if, w_isN, w_nil, w_cons, w_cb, w_call, w_tup, w_lst, w_sub, w_intI, w_intB, w_isTyH, w_typ, w_isH, w_ixH, w_lenH, w_absH, w_listH, w_strH, w_bm, w_chain, w_exB, w_exV, w_start, k_ii, k_ib, k_is, k_il, k_it, k_bi, k_bb, k_bs, k_bl, k_bt, k_ni, k_nb, k_ns, k_nl, k_nt, k_si, k_sb, k_ss, k_sl, k_st, k_li, k_lb, k_ls, k_ll, k_lt, k_ti, k_tb, k_ts, k_tl, k_tt, w_st1, w_st2, w_st3, w_st5, atI_s0, atI_s1, atI_s2, atI_s3, atI_s4, atI_s5, List.map_cons, List.map_nil, List.length_cons, List.length_nil, List.replicate, List.cons_append, List.nil_append, List.append_nil, List.getElem?_cons_zero, List.getElem?_cons_succ, List.set_cons_zero, List.set_cons_succ, Nat.sub_self, Nat.reduceAdd, Nat.reduceSub, List.replicate_zero, decide_eq_true_eq, Bool.true_eq_false, Bool.false_eq_true, if_true, if_false, reduceIte, Bool.not_eq_true', decide_eq_false_iff_not, Bool.not_true, Bool.not_false, exists_eq_left', true_and, and_true, Option.some.injEq, reduceCtorEq, decide_true, decide_false, not_true_eq_false, not_false_eq_true, sizeLine_eq, Nat.reduceLeDiff, Bool.or_false, Bool.or_true, Bool.false_or, Bool.true_or, wp1, wp2, w_par, w_par2, w_tsl, w_nopart, w_part, w_exI]
    refine ⟨sv, seqAt_l es, ?_⟩
    refine forN (n := sv.length) (by omega) (fun i σ H' => ∃ z1 z2 : Option V, σ = [some (.int l), some (.int c), some (.ref sa), z1, z2] ∧ Same H1 H') ⟨none, none, rfl, Same.refl _⟩ ?_ ?_
    · rintro i σ H2 hi ⟨z1, z2, rfl, s2⟩
      obtain ⟨a, b, d1, o1, ka, kb, jg⟩ := tF_drop i 30 l c hok k1 k2 (by omega)
      obtain ⟨s', r', h'⟩ := tF_head o1
      have ati : (tF 30 l c)[i]? = some (a, b, s') := by
        have e : (List.drop i (tF 30 l c))[0]? = some (a, b, s') := by
          rw [d1, h']
          rfl
        rw [List.getElem?_drop] at e
        exact e
      obtain ⟨x, xs, e1, e2⟩ := reps_at (i := i) (d := dS (a, b, s')) rs (by rw [List.getElem?_map, ati] <;> rfl)
      obtain ⟨t, rfl, e3⟩ := rep_step e2
      have ixv : atI sv (i : Int) = some (.ref t) := atI_nat e1
      have c0 : atI [V.int a, V.int b, V.str s'] 0 = some (.int a) := rfl
      have c1 : atI [V.int a, V.int b, V.str s'] 1 = some (.int b) := rfl
      obtain ⟨g1, g2, g3⟩ := fuel i (30 - i) a b o1
      rw [show 30 - i + i = 30 by omega] at g1 g2 g3
      have cut : cutV sv (some (i : Int)) none = sv.drop i := by
        unfold cutV
        rw [HT.sIx_nat, HT.sIx_none, Nat.min_eq_left (by omega), ← List.length_drop, List.take_length]
      obtain ⟨bsd, rsd⟩ := reps_drop (k := i) rs
      rw [← List.map_drop, d1] at rsd
      have ldr : (tF (30 - i) a b).length ≤ 30 := by
        have := trail_len (30 - i) a b
        rw [trail_tF, List.length_map] at this
        omega
      simp only [w_seq, w_next, w_ret, w_asg, w_ifs, w_drop, w_brk, w_cont, w_name, w_var, w_c, w_op, w_un, w_I, w_I0, w_U, w_eq, w_scII, w_scBB, w_scSS, w_scNN, w_zi, w_zb, w_zn, w_zs, V.int.injEq, V.bl.injEq, V.str.injEq, V.ref.injEq, w_ne, w_test, w_B, w_and, w_or, w_not, w_andV, w_orV, w_notV, w_if, w_isN, w_nil, w_cons, w_cb, w_call, w_tup, w_lst, w_sub, w_intI, w_intB, w_isTyH, w_typ, w_isH, w_ixH, w_lenH, w_absH, w_listH, w_strH, w_bm, w_chain, w_exB, w_exV, w_start, k_ii, k_ib, k_is, k_il, k_it, k_bi, k_bb, k_bs, k_bl, k_bt, k_ni, k_nb, k_ns, k_nl, k_nt, k_si, k_sb, k_ss, k_sl, k_st, k_li, k_lb, k_ls, k_ll, k_lt, k_ti, k_tb, k_ts, k_tl, k_tt, w_st1, w_st2, w_st3, w_st5, atI_s0, atI_s1, atI_s2, atI_s3, atI_s4, atI_s5, List.map_cons, List.map_nil, List.length_cons, List.length_nil, List.replicate, List.cons_append, List.nil_append, List.append_nil, List.getElem?_cons_zero, List.getElem?_cons_succ, List.set_cons_zero, List.set_cons_succ, Nat.sub_self, Nat.reduceAdd, Nat.reduceSub, List.replicate_zero, decide_eq_true_eq, Bool.true_eq_false, Bool.false_eq_true, if_true, if_false, reduceIte, Bool.not_eq_true', decide_eq_false_iff_not, Bool.not_true, Bool.not_false, exists_eq_left', true_and, and_true, Option.some.injEq, reduceCtorEq, decide_true, decide_false, not_true_eq_false, not_false_eq_true, sizeLine_eq, Nat.reduceLeDiff, Bool.or_false, Bool.or_true, Bool.false_or, Bool.true_or, wp1, wp2, w_par, w_par2, w_tsl, w_nopart, w_part, w_exI, seqAt_l (s2 _ _ es), ixv, seqAt_t (s2 _ _ e3), c0, c1]
      refine u_ask ka kb fun y3 H3 f3 => ?_
      rw [if_pos rfl, trail_tF, g2] at f3
      obtain ⟨as3, r3, _, _⟩ := f3.rep
      have s3 : Same H1 H3 := s2.trans f3.same
      rw [w_slH (s3 _ _ es), cut]
      intro p hp
      have s4 : Same H3 (upd H3 p (.lst (sv.drop i))) := same_new hp
      refine ⟨.lst ((tF (30 - i) a b).map dS), y3, .ref p, as3, p :: bsd, rfl, dep_steps, rep_same s4 r3, ?_, fun H5 s5 => ?_⟩
      · simp only [Rep]
        exact ⟨p, _, bsd, rfl, upd_same, reps_same (s3.trans s4) rsd, rfl, by rw [List.length_map]; omega⟩
      have s15 : Same H1 H5 := s3.trans (s4.trans s5)
      simp only [w_seq, w_next, w_ret, w_asg, w_ifs, w_drop, w_brk, w_cont, w_name, w_var, w_c, w_op, w_un, w_I, w_I0, w_U, w_eq, w_scII, w_scBB, w_scSS, w_scNN, w_zi, w_zb, w_zn, w_zs, V.int.injEq, V.bl.injEq, V.str.injEq, V.ref.injEq, w_ne, w_test, w_B, w_and, w_or, w_not, w_andV, w_orV, w_notV, w_if, w_isN, w_nil, w_cons, w_cb, w_call, w_tup, w_lst, w_sub, w_intI, w_intB, w_isTyH, w_typ, w_isH, w_ixH, w_lenH, w_absH, w_listH, w_strH, w_bm, w_chain, w_exB, w_exV, w_start, k_ii, k_ib, k_is, k_il, k_it, k_bi, k_bb, k_bs, k_bl, k_bt, k_ni, k_nb, k_ns, k_nl, k_nt, k_si, k_sb, k_ss, k_sl, k_st, k_li, k_lb, k_ls, k_ll, k_lt, k_ti, k_tb, k_ts, k_tl, k_tt, w_st1, w_st2, w_st3, w_st5, atI_s0, atI_s1, atI_s2, atI_s3, atI_s4, atI_s5, List.map_cons, List.map_nil, List.length_cons, List.length_nil, List.replicate, List.cons_append, List.nil_append, List.append_nil, List.getElem?_cons_zero, List.getElem?_cons_succ, List.set_cons_zero, List.set_cons_succ, Nat.sub_self, Nat.reduceAdd, Nat.reduceSub, List.replicate_zero, decide_eq_true_eq, Bool.true_eq_false, Bool.false_eq_true, if_true, if_false, reduceIte, Bool.not_eq_true', decide_eq_false_iff_not, Bool.not_true, Bool.not_false, exists_eq_left', true_and, and_true, Option.some.injEq, reduceCtorEq, decide_true, decide_false, not_true_eq_false, not_false_eq_true, sizeLine_eq, Nat.reduceLeDiff, Bool.or_false, Bool.or_true, Bool.false_or, Bool.true_or, wp1, wp2, w_par, w_par2, w_tsl, w_nopart, w_part, w_exI, seqAt_t (s15 _ _ e3), c0, c1]
      refine u_ask ka kb fun y6 H6 f6 => ?_
      rw [if_neg (by decide), g3] at f6
      obtain ⟨as6, r6, _, _⟩ := f6.rep
      have s6 : Same H1 H6 := s15.trans f6.same
      rw [w_slH (s6 _ _ es), cut]
      intro p7 hp7
      have s7 : Same H6 (upd H6 p7 (.lst (sv.drop i))) := same_new hp7
      refine ⟨30 - i, a, b, .ref p7, p7 :: bsd, rfl, ?_, o1, ka, kb, by omega, fun y8 H8 f8 => ?_⟩
      · simp only [Rep]
        exact ⟨p7, _, bsd, rfl, upd_same, reps_same (s6.trans s7) rsd, rfl, by rw [List.length_map]; omega⟩
      obtain ⟨as8, r8, _, _⟩ := f8.rep
      refine ⟨dMat (ringF (30 - i) a b), y6, y8, as6, as8, rfl, dep_mat, rep_same (s7.trans f8.same) r6, r8, fun H9 s9 => ?_⟩
      simp only [w_seq, w_next, w_ret, w_asg, w_ifs, w_drop, w_brk, w_cont, w_name, w_var, w_c, w_op, w_un, w_I, w_I0, w_U, w_eq, w_scII, w_scBB, w_scSS, w_scNN, w_zi, w_zb, w_zn, w_zs, V.int.injEq, V.bl.injEq, V.str.injEq, V.ref.injEq, w_ne, w_test, w_B, w_and, w_or, w_not, w_andV, w_orV, w_notV, w_if, w_isN, w_nil, w_cons, w_cb, w_call, w_tup, w_lst, w_sub, w_intI, w_intB, w_isTyH, w_typ, w_isH, w_ixH, w_lenH, w_absH, w_listH, w_strH, w_bm, w_chain, w_exB, w_exV, w_start, k_ii, k_ib, k_is, k_il, k_it, k_bi, k_bb, k_bs, k_bl, k_bt, k_ni, k_nb, k_ns, k_nl, k_nt, k_si, k_sb, k_ss, k_sl, k_st, k_li, k_lb, k_ls, k_ll, k_lt, k_ti, k_tb, k_ts, k_tl, k_tt, w_st1, w_st2, w_st3, w_st5, atI_s0, atI_s1, atI_s2, atI_s3, atI_s4, atI_s5, List.map_cons, List.map_nil, List.length_cons, List.length_nil, List.replicate, List.cons_append, List.nil_append, List.append_nil, List.getElem?_cons_zero, List.getElem?_cons_succ, List.set_cons_zero, List.set_cons_succ, Nat.sub_self, Nat.reduceAdd, Nat.reduceSub, List.replicate_zero, decide_eq_true_eq, Bool.true_eq_false, Bool.false_eq_true, if_true, if_false, reduceIte, Bool.not_eq_true', decide_eq_false_iff_not, Bool.not_true, Bool.not_false, exists_eq_left', true_and, and_true, Option.some.injEq, reduceCtorEq, decide_true, decide_false, not_true_eq_false, not_false_eq_true, sizeLine_eq, Nat.reduceLeDiff, Bool.or_false, Bool.or_true, Bool.false_or, Bool.true_or, wp1, wp2, w_par, w_par2, w_tsl, w_nopart, w_part, w_exI]
      exact ⟨_, _, rfl, s6.trans (s7.trans (f8.same.trans s9))⟩
    · rintro σ H2 ⟨z1, z2, rfl, s2⟩
      simp only [w_seq, w_next, w_ret, w_asg, w_ifs, w_drop, w_brk, w_cont, w_name, w_var, w_c, w_op, w_un, w_I, w_I0, w_U, w_eq, w_scII, w_scBB, w_scSS, w_scNN, w_zi, w_zb, w_zn, w_zs, V.int.injEq, V.bl.injEq, V.str.injEq, V.ref.injEq, w_ne, w_test, w_B, w_and, w_or, w_not, w_andV, w_orV, w_notV, w_if, w_isN, w_nil, w_cons, w_cb, w_call, w_tup, w_lst, w_sub, w_intI, w_intB, w_isTyH, w_typ, w_isH, w_ixH, w_lenH, w_absH, w_listH, w_strH, w_bm, w_chain, w_exB, w_exV, w_start, k_ii, k_ib, k_is, k_il, k_it, k_bi, k_bb, k_bs, k_bl, k_bt, k_ni, k_nb, k_ns, k_nl, k_nt, k_si, k_sb, k_ss, k_sl, k_st, k_li, k_lb, k_ls, k_ll, k_lt, k_ti, k_tb, k_ts, k_tl, k_tt, w_st1, w_st2, w_st3, w_st5, atI_s0, atI_s1, atI_s2, atI_s3, atI_s4, atI_s5, List.map_cons, List.map_nil, List.length_cons, List.length_nil, List.replicate, List.cons_append, List.nil_append, List.append_nil, List.getElem?_cons_zero, List.getElem?_cons_succ, List.set_cons_zero, List.set_cons_succ, Nat.sub_self, Nat.reduceAdd, Nat.reduceSub, List.replicate_zero, decide_eq_true_eq, Bool.true_eq_false, Bool.false_eq_true, if_true, if_false, reduceIte, Bool.not_eq_true', decide_eq_false_iff_not, Bool.not_true, Bool.not_false, exists_eq_left', true_and, and_true, Option.some.injEq, reduceCtorEq, decide_true, decide_false, not_true_eq_false, not_false_eq_true, sizeLine_eq, Nat.reduceLeDiff, Bool.or_false, Bool.or_true, Bool.false_or, Bool.true_or, wp1, wp2, w_par, w_par2, w_tsl, w_nopart, w_part, w_exI]
      exact q _ (f1.same.trans s2)
end
end Mt

namespace Mt
open PySem PySem.Spec PyProof.Rows L2 L2H
abbrev s_law_not_number : Stmt := topS 33
theorem sc_law_not_number : FnScope ["store", "low", "high", "found"] ["store", "low", "high"] (defScope s_law_not_number) := ⟨rfl, rfl, rfl, by decide +kernel, rfl, by decide +kernel, by decide +kernel⟩

section
variable {P : Program} {w : World} {K : PySem.W.Frag} {mg : Str → Option Value} {base : Heap} {f : Addr} {fd : FuncData} {A : Ad} {tm : Tok}
theorem u_take {G : Hp} {s : Addr} {t : Sto} {m : Int} {Q : VK} {E : XK} (hs : G s = none) (ok : StOk G t) (hm : m < 1073741824) (q : ∀ (r : Int) (t' : Sto), StOk G t' → 0 ≤ r → (r < m ∨ (m < 2 ∧ r = 0)) → Q (.int r) (Wr G s t')) : sp_take [.ref s, .int m] (Wr G s t) Q E :=
  ⟨G, s, t, m, rfl, rfl, hs, ok, hm, q⟩
theorem wr_new {G : Hp} {s p : Addr} {t : Sto} {o : HO} (hp : Wr G s t p = none) : p ≠ s ∧ G p = none ∧ upd (Wr G s t) p o = Wr (upd G p o) s t := by
  have ps : p ≠ s := fun e => by
    rw [e, wr_s] at hp
    cases hp
  refine ⟨ps, ?_, upd_comm (Ne.symm ps)⟩
  have h : upd G s (.lst (stV t)) p = none := hp
  rw [upd_ne ps] at h
  exact h
theorem stok_new {G : Hp} {p : Addr} {t : Sto} {o : HO} (hp : G p = none) (ok : StOk G t) : StOk (upd G p o) t := ⟨same_new hp _ _ ok.at_, ok.i0, ok.il, ok.g0, ok.gi⟩
theorem stok_same {G G' : Hp} {t : Sto} (s : Same G G') (ok : StOk G t) : StOk G' t := ⟨s _ _ ok.at_, ok.i0, ok.il, ok.g0, ok.gi⟩
theorem none_upd {G : Hp} {s p : Addr} {o : HO} (hs : G s = none) (ps : p ≠ s) : upd G p o s = none := by
  rw [upd_ne (Ne.symm ps)]
  exact hs
/-- one of the items of a list -/
def sp_pick : Sp := fun vs H Q _ => ∃ (G : Hp) (s : Addr) (t : Sto) (p : Addr) (xs : List V), vs = [.ref s, .ref p] ∧ H = Wr G s t ∧ G s = none ∧ StOk G t ∧ G p = some (.lst xs) ∧ 0 < xs.length ∧ xs.length < 1000000 ∧ ∀ v t', v ∈ xs → StOk G t' → Q v (Wr G s t')
theorem ok_pick (F : Fun K "_law_pick" "_law_pick" s_law_pick f fd) (T : Txt K mg) (C_law_take : Cal P w K mg base "_law_take" 2 ["store", "many"] sp_take) : FnOk P w K mg base CX0 3 f fd ["store", "choices"] sp_pick := by
  refine F.ok sc_law_pick (fun vs H Q E h => ?_) (fun cdv Ar outer s H vs Q E hr h => ?_)
  · obtain ⟨G, s, t, p, xs, rfl, _⟩ := h
    rfl
  · obtain ⟨G, st, t, p, xs, rfl, rfl, hs, ok, hp, h0, h1, q⟩ := h
    refine ⟨_, (pss_one (ps_ret (pe_ix ix_H (pv 1) (p_call C_law_take hr (pa_cons (pv 0) (pa_cons (pe_callB call_lenH (by rfl) T.m_len (by decide +kernel) (pa_cons (pv 1) pa_nil)) pa_nil))) (fun _ _ => rfl)))), ?_⟩
    have ps : p ≠ st := fun e => by
      rw [e, hs] at hp
      cases hp
    have hP : ∀ t', (Wr G st t') p = some (.lst xs) := fun t' => by
      show upd G st _ p = _
      rw [upd_ne ps]
      exact hp
    simp only [w_seq, w_next, w_ret, w_asg, w_ifs, w_drop, w_brk, w_cont, w_name, w_var, w_c, w_op, w_un, w_I, w_I0, w_U, w_eq, w_scII, w_scBB, w_scSS, w_scNN, w_zi, w_zb, w_zn, w_zs, V.int.injEq, V.bl.injEq, V.str.injEq, V.ref.injEq, w_ne, w_test, w_B, w_and, w_or, w_not, w_andV, w_orV, w_notV, w_if, w_isN, w_nil, w_cons, w_cb, w_call, w_tup, w_lst, w_sub, w_intI, w_intB, w_isTyH, w_typ, w_isH, w_ixH, w_lenH, w_absH, w_listH, w_strH, w_bm, w_chain, w_exB, w_exV, w_start, k_ii, k_ib, k_is, k_il, k_it, k_bi, k_bb, k_bs, k_bl, k_bt, k_ni, k_nb, k_ns, k_nl, k_nt, k_si, k_sb, k_ss, k_sl, k_st, k_li, k_lb, k_ls, k_ll, k_lt, k_ti, k_tb, k_ts, k_tl, k_tt, w_st1, w_st2, w_st3, w_st5, atI_s0, atI_s1, atI_s2, atI_s3, atI_s4, atI_s5, List.map_cons, List.map_nil, List.length_cons, List.length_nil, List.replicate, List.cons_append, List.nil_append, List.append_nil, List.getElem?_cons_zero, List.getElem?_cons_succ, List.set_cons_zero, List.set_cons_succ, Nat.sub_self, Nat.reduceAdd, Nat.reduceSub, List.replicate_zero, decide_eq_true_eq, Bool.true_eq_false, Bool.false_eq_true, if_true, if_false, reduceIte, Bool.not_eq_true', decide_eq_false_iff_not, Bool.not_true, Bool.not_false, exists_eq_left', true_and, and_true, Option.some.injEq, reduceCtorEq, decide_true, decide_false, not_true_eq_false, not_false_eq_true, sizeLine_eq, Nat.reduceLeDiff, Bool.or_false, Bool.or_true, Bool.false_or, Bool.true_or, wp1, wp2, w_par, w_par2, w_tsl, w_nopart, w_part, w_exI, seqAt_l (hP _)]
    refine u_take hs ok (by omega) fun r t' ok' r0 r1 => ?_
    obtain ⟨j, rfl⟩ : ∃ j : Nat, r = (j : Int) := ⟨r.toNat, by omega⟩
    have hj : j < xs.length := by omega
    have ixv : atI xs (j : Int) = some xs[j] := atI_nat (List.getElem?_eq_getElem hj)
    simp only [w_seq, w_next, w_ret, w_asg, w_ifs, w_drop, w_brk, w_cont, w_name, w_var, w_c, w_op, w_un, w_I, w_I0, w_U, w_eq, w_scII, w_scBB, w_scSS, w_scNN, w_zi, w_zb, w_zn, w_zs, V.int.injEq, V.bl.injEq, V.str.injEq, V.ref.injEq, w_ne, w_test, w_B, w_and, w_or, w_not, w_andV, w_orV, w_notV, w_if, w_isN, w_nil, w_cons, w_cb, w_call, w_tup, w_lst, w_sub, w_intI, w_intB, w_isTyH, w_typ, w_isH, w_ixH, w_lenH, w_absH, w_listH, w_strH, w_bm, w_chain, w_exB, w_exV, w_start, k_ii, k_ib, k_is, k_il, k_it, k_bi, k_bb, k_bs, k_bl, k_bt, k_ni, k_nb, k_ns, k_nl, k_nt, k_si, k_sb, k_ss, k_sl, k_st, k_li, k_lb, k_ls, k_ll, k_lt, k_ti, k_tb, k_ts, k_tl, k_tt, w_st1, w_st2, w_st3, w_st5, atI_s0, atI_s1, atI_s2, atI_s3, atI_s4, atI_s5, List.map_cons, List.map_nil, List.length_cons, List.length_nil, List.replicate, List.cons_append, List.nil_append, List.append_nil, List.getElem?_cons_zero, List.getElem?_cons_succ, List.set_cons_zero, List.set_cons_succ, Nat.sub_self, Nat.reduceAdd, Nat.reduceSub, List.replicate_zero, decide_eq_true_eq, Bool.true_eq_false, Bool.false_eq_true, if_true, if_false, reduceIte, Bool.not_eq_true', decide_eq_false_iff_not, Bool.not_true, Bool.not_false, exists_eq_left', true_and, and_true, Option.some.injEq, reduceCtorEq, decide_true, decide_false, not_true_eq_false, not_false_eq_true, sizeLine_eq, Nat.reduceLeDiff, Bool.or_false, Bool.or_true, Bool.false_or, Bool.true_or, wp1, wp2, w_par, w_par2, w_tsl, w_nopart, w_part, w_exI, seqAt_l (hP _), ixv]
    exact q _ _ (List.getElem_mem hj) ok'
def sp_edge : Sp := fun vs H Q _ => ∃ (G : Hp) (s : Addr) (t : Sto) (lo hi : Int), vs = [.ref s, .int lo, .int hi] ∧ H = Wr G s t ∧ G s = none ∧ StOk G t ∧ lo ≤ hi ∧ -1000000 < lo ∧ hi < 1000000 ∧ ∀ r t' G', Same G G' → G' s = none → StOk G' t' → lo ≤ r → r ≤ hi → Q (.int r) (Wr G' s t')
theorem ok_edge (F : Fun K "_law_edge" "_law_edge" s_law_edge f fd) (T : Txt K mg) (C_law_take : Cal P w K mg base "_law_take" 2 ["store", "many"] sp_take) : FnOk P w K mg base CX0 3 f fd ["store", "low", "high"] sp_edge := by
  refine F.ok sc_law_edge (fun vs H Q E h => ?_) (fun cdv Ar outer s H vs Q E hr h => ?_)
  · obtain ⟨G, s, t, lo, hi, rfl, _⟩ := h
    rfl
  · obtain ⟨G, st, t, lo, hi, rfl, rfl, hs, ok, h0, h1, h2, q⟩ := h
    refine ⟨_, (pss_cons (ps_if (pt_cmpR op_le (pv 2) (pv 1) (nomark _)) (pss_one (ps_ret (pv 1))) pss_nil)
      (pss_cons (ps_set (i := 3) sc_law_edge.nd rfl (.inl rfl) (p_call C_law_take hr (pa_cons (pv 0) (pa_cons pe_int pa_nil))))
      (pss_cons (ps_if (pt_cmpR op_eq (pv 3) pe_int (nomark _)) (pss_one (ps_ret (pv 1))) pss_nil)
      (pss_cons (ps_if (pt_cmpR op_eq (pv 3) pe_int (nomark _)) (pss_one (ps_ret (pv 2))) pss_nil)
      (pss_cons (ps_if (pt_cmpR op_eq (pv 3) pe_int (nomark _)) (pss_one (ps_ret (pe_ix ix_H (pe_lst (pa_cons (pe_op op_add (pv 1) pe_int) (pa_cons (pe_op op_sub (pv 2) pe_int) pa_nil))) (p_call C_law_take hr (pa_cons (pv 0) (pa_cons pe_int pa_nil))) (fun _ _ => rfl)))) pss_nil)
      (pss_one (ps_ret (pe_op op_add (pv 1) (p_call C_law_take hr (pa_cons (pv 0) (pa_cons (pe_op op_add (pe_op op_sub (pv 2) (pv 1)) pe_int) pa_nil))))))))))), ?_⟩
    simp only [w_seq, w_next, w_ret, w_asg, w_ifs, w_drop, w_brk, w_cont, w_name, w_var, w_c, w_op, w_un, w_I, w_I0, w_U, w_eq, w_scII, w_scBB, w_scSS, w_scNN, w_zi, w_zb, w_zn, w_zs, V.int.injEq, V.bl.injEq, V.str.injEq, V.ref.injEq, w_ne, w_test, w_B, w_and, w_or, w_not, w_andV, w_orV, w_notV, w_if, w_isN, w_nil, w_cons, w_cb, w_call, w_tup, w_lst, w_sub, w_intI, w_intB, w_isTyH, w_typ, w_isH, w_ixH, w_lenH, w_absH, w_listH, w_strH, w_bm, w_chain, w_exB, w_exV, w_start, k_ii, k_ib, k_is, k_il, k_it, k_bi, k_bb, k_bs, k_bl, k_bt, k_ni, k_nb, k_ns, k_nl, k_nt, k_si, k_sb, k_ss, k_sl, k_st, k_li, k_lb, k_ls, k_ll, k_lt, k_ti, k_tb, k_ts, k_tl, k_tt, w_st1, w_st2, w_st3, w_st5, atI_s0, atI_s1, atI_s2, atI_s3, atI_s4, atI_s5, List.map_cons, List.map_nil, List.length_cons, List.length_nil, List.replicate, List.cons_append, List.nil_append, List.append_nil, List.getElem?_cons_zero, List.getElem?_cons_succ, List.set_cons_zero, List.set_cons_succ, Nat.sub_self, Nat.reduceAdd, Nat.reduceSub, List.replicate_zero, decide_eq_true_eq, Bool.true_eq_false, Bool.false_eq_true, if_true, if_false, reduceIte, Bool.not_eq_true', decide_eq_false_iff_not, Bool.not_true, Bool.not_false, exists_eq_left', true_and, and_true, Option.some.injEq, reduceCtorEq, decide_true, decide_false, not_true_eq_false, not_false_eq_true, sizeLine_eq, Nat.reduceLeDiff, Bool.or_false, Bool.or_true, Bool.false_or, Bool.true_or, wp1, wp2, w_par, w_par2, w_tsl, w_nopart, w_part, w_exI]
    refine ite2 (fun z => q lo t G (Same.refl _) hs ok (Int.le_refl _) h0) (fun z => u_take hs ok (by decide) fun r t1 ok1 _ _ => ?_)
    simp only [w_seq, w_next, w_ret, w_asg, w_ifs, w_drop, w_brk, w_cont, w_name, w_var, w_c, w_op, w_un, w_I, w_I0, w_U, w_eq, w_scII, w_scBB, w_scSS, w_scNN, w_zi, w_zb, w_zn, w_zs, V.int.injEq, V.bl.injEq, V.str.injEq, V.ref.injEq, w_ne, w_test, w_B, w_and, w_or, w_not, w_andV, w_orV, w_notV, w_if, w_isN, w_nil, w_cons, w_cb, w_call, w_tup, w_lst, w_sub, w_intI, w_intB, w_isTyH, w_typ, w_isH, w_ixH, w_lenH, w_absH, w_listH, w_strH, w_bm, w_chain, w_exB, w_exV, w_start, k_ii, k_ib, k_is, k_il, k_it, k_bi, k_bb, k_bs, k_bl, k_bt, k_ni, k_nb, k_ns, k_nl, k_nt, k_si, k_sb, k_ss, k_sl, k_st, k_li, k_lb, k_ls, k_ll, k_lt, k_ti, k_tb, k_ts, k_tl, k_tt, w_st1, w_st2, w_st3, w_st5, atI_s0, atI_s1, atI_s2, atI_s3, atI_s4, atI_s5, List.map_cons, List.map_nil, List.length_cons, List.length_nil, List.replicate, List.cons_append, List.nil_append, List.append_nil, List.getElem?_cons_zero, List.getElem?_cons_succ, List.set_cons_zero, List.set_cons_succ, Nat.sub_self, Nat.reduceAdd, Nat.reduceSub, List.replicate_zero, decide_eq_true_eq, Bool.true_eq_false, Bool.false_eq_true, if_true, if_false, reduceIte, Bool.not_eq_true', decide_eq_false_iff_not, Bool.not_true, Bool.not_false, exists_eq_left', true_and, and_true, Option.some.injEq, reduceCtorEq, decide_true, decide_false, not_true_eq_false, not_false_eq_true, sizeLine_eq, Nat.reduceLeDiff, Bool.or_false, Bool.or_true, Bool.false_or, Bool.true_or, wp1, wp2, w_par, w_par2, w_tsl, w_nopart, w_part, w_exI]
    refine ite2 (fun _ => q lo t1 G (Same.refl _) hs ok1 (Int.le_refl _) h0) (fun _ => ite2 (fun _ => q hi t1 G (Same.refl _) hs ok1 h0 (Int.le_refl _)) (fun _ => ite2 (fun _ p hp => ?_) (fun _ => u_take hs ok1 (by omega) fun r2 t2 ok2 r0 r1 => ?_)))
    · obtain ⟨ps, gp, e⟩ := wr_new (o := .lst [V.int (lo + 1), V.int (hi - 1)]) hp
      rw [e]
      refine u_take (none_upd hs ps) (stok_new gp ok1) (by decide) fun r2 t2 ok2 r0 r1 => ?_
      have hP : (Wr (upd G p (.lst [V.int (lo + 1), V.int (hi - 1)])) st t2) p = some (.lst [V.int (lo + 1), V.int (hi - 1)]) := by
        show upd (upd G p _) st _ p = _
        rw [upd_ne ps, upd_same]
      have two : r2 = 0 ∨ r2 = 1 := by omega
      have ix0 : atI [V.int (lo + 1), V.int (hi - 1)] 0 = some (.int (lo + 1)) := rfl
      have ix1 : atI [V.int (lo + 1), V.int (hi - 1)] 1 = some (.int (hi - 1)) := rfl
      rcases two with rfl | rfl
      · simp only [w_seq, w_next, w_ret, w_asg, w_ifs, w_drop, w_brk, w_cont, w_name, w_var, w_c, w_op, w_un, w_I, w_I0, w_U, w_eq, w_scII, w_scBB, w_scSS, w_scNN, w_zi, w_zb, w_zn, w_zs, V.int.injEq, V.bl.injEq, V.str.injEq, V.ref.injEq, w_ne, w_test, w_B, w_and, w_or, w_not, w_andV, w_orV, w_notV, w_if, w_isN, w_nil, w_cons, w_cb, w_call, w_tup, w_lst, w_sub, w_intI, w_intB, w_isTyH, w_typ, w_isH, w_ixH, w_lenH, w_absH, w_listH, w_strH, w_bm, w_chain, w_exB, w_exV, w_start, k_ii, k_ib, k_is, k_il, k_it, k_bi, k_bb, k_bs, k_bl, k_bt, k_ni, k_nb, k_ns, k_nl, k_nt, k_si, k_sb, k_ss, k_sl, k_st, k_li, k_lb, k_ls, k_ll, k_lt, k_ti, k_tb, k_ts, k_tl, k_tt, w_st1, w_st2, w_st3, w_st5, atI_s0, atI_s1, atI_s2, atI_s3, atI_s4, atI_s5, List.map_cons, List.map_nil, List.length_cons, List.length_nil, List.replicate, List.cons_append, List.nil_append, List.append_nil, List.getElem?_cons_zero, List.getElem?_cons_succ, List.set_cons_zero, List.set_cons_succ, Nat.sub_self, Nat.reduceAdd, Nat.reduceSub, List.replicate_zero, decide_eq_true_eq, Bool.true_eq_false, Bool.false_eq_true, if_true, if_false, reduceIte, Bool.not_eq_true', decide_eq_false_iff_not, Bool.not_true, Bool.not_false, exists_eq_left', true_and, and_true, Option.some.injEq, reduceCtorEq, decide_true, decide_false, not_true_eq_false, not_false_eq_true, sizeLine_eq, Nat.reduceLeDiff, Bool.or_false, Bool.or_true, Bool.false_or, Bool.true_or, wp1, wp2, w_par, w_par2, w_tsl, w_nopart, w_part, w_exI, seqAt_l hP, ix0]
        exact q _ _ _ (same_new gp) (none_upd hs ps) ok2 (by omega) (by omega)
      · simp only [w_seq, w_next, w_ret, w_asg, w_ifs, w_drop, w_brk, w_cont, w_name, w_var, w_c, w_op, w_un, w_I, w_I0, w_U, w_eq, w_scII, w_scBB, w_scSS, w_scNN, w_zi, w_zb, w_zn, w_zs, V.int.injEq, V.bl.injEq, V.str.injEq, V.ref.injEq, w_ne, w_test, w_B, w_and, w_or, w_not, w_andV, w_orV, w_notV, w_if, w_isN, w_nil, w_cons, w_cb, w_call, w_tup, w_lst, w_sub, w_intI, w_intB, w_isTyH, w_typ, w_isH, w_ixH, w_lenH, w_absH, w_listH, w_strH, w_bm, w_chain, w_exB, w_exV, w_start, k_ii, k_ib, k_is, k_il, k_it, k_bi, k_bb, k_bs, k_bl, k_bt, k_ni, k_nb, k_ns, k_nl, k_nt, k_si, k_sb, k_ss, k_sl, k_st, k_li, k_lb, k_ls, k_ll, k_lt, k_ti, k_tb, k_ts, k_tl, k_tt, w_st1, w_st2, w_st3, w_st5, atI_s0, atI_s1, atI_s2, atI_s3, atI_s4, atI_s5, List.map_cons, List.map_nil, List.length_cons, List.length_nil, List.replicate, List.cons_append, List.nil_append, List.append_nil, List.getElem?_cons_zero, List.getElem?_cons_succ, List.set_cons_zero, List.set_cons_succ, Nat.sub_self, Nat.reduceAdd, Nat.reduceSub, List.replicate_zero, decide_eq_true_eq, Bool.true_eq_false, Bool.false_eq_true, if_true, if_false, reduceIte, Bool.not_eq_true', decide_eq_false_iff_not, Bool.not_true, Bool.not_false, exists_eq_left', true_and, and_true, Option.some.injEq, reduceCtorEq, decide_true, decide_false, not_true_eq_false, not_false_eq_true, sizeLine_eq, Nat.reduceLeDiff, Bool.or_false, Bool.or_true, Bool.false_or, Bool.true_or, wp1, wp2, w_par, w_par2, w_tsl, w_nopart, w_part, w_exI, seqAt_l hP, ix1]
        exact q _ _ _ (same_new gp) (none_upd hs ps) ok2 (by omega) (by omega)
    · simp only [w_seq, w_next, w_ret, w_asg, w_ifs, w_drop, w_brk, w_cont, w_name, w_var, w_c, w_op, w_un, w_I, w_I0, w_U, w_eq, w_scII, w_scBB, w_scSS, w_scNN, w_zi, w_zb, w_zn, w_zs, V.int.injEq, V.bl.injEq, V.str.injEq, V.ref.injEq, w_ne, w_test, w_B, w_and, w_or, w_not, w_andV, w_orV, w_notV, w_if, w_isN, w_nil, w_cons, w_cb, w_call, w_tup, w_lst, w_sub, w_intI, w_intB, w_isTyH, w_typ, w_isH, w_ixH, w_lenH, w_absH, w_listH, w_strH, w_bm, w_chain, w_exB, w_exV, w_start, k_ii, k_ib, k_is, k_il, k_it, k_bi, k_bb, k_bs, k_bl, k_bt, k_ni, k_nb, k_ns, k_nl, k_nt, k_si, k_sb, k_ss, k_sl, k_st, k_li, k_lb, k_ls, k_ll, k_lt, k_ti, k_tb, k_ts, k_tl, k_tt, w_st1, w_st2, w_st3, w_st5, atI_s0, atI_s1, atI_s2, atI_s3, atI_s4, atI_s5, List.map_cons, List.map_nil, List.length_cons, List.length_nil, List.replicate, List.cons_append, List.nil_append, List.append_nil, List.getElem?_cons_zero, List.getElem?_cons_succ, List.set_cons_zero, List.set_cons_succ, Nat.sub_self, Nat.reduceAdd, Nat.reduceSub, List.replicate_zero, decide_eq_true_eq, Bool.true_eq_false, Bool.false_eq_true, if_true, if_false, reduceIte, Bool.not_eq_true', decide_eq_false_iff_not, Bool.not_true, Bool.not_false, exists_eq_left', true_and, and_true, Option.some.injEq, reduceCtorEq, decide_true, decide_false, not_true_eq_false, not_false_eq_true, sizeLine_eq, Nat.reduceLeDiff, Bool.or_false, Bool.or_true, Bool.false_or, Bool.true_or, wp1, wp2, w_par, w_par2, w_tsl, w_nopart, w_part, w_exI]
      exact q _ _ _ (Same.refl _) hs ok2 (by omega) (by omega)
/-- no number of the bounds, of a kind that has a name -/
def sp_notnum : Sp := fun vs H Q _ => ∃ (G : Hp) (s : Addr) (t : Sto) (lo hi : Int), vs = [.ref s, .int lo, .int hi] ∧ H = Wr G s t ∧ G s = none ∧ StOk G t ∧ lo ≤ hi ∧ -1000000 < lo ∧ hi < 1000000 ∧
  ∀ v n t' G', Same G G' → G' s = none → StOk G' t' → zTyV v (Wr G' s t') = some n → wholeB v lo hi = false → Q v (Wr G' s t')
theorem ok_not_number (F : Fun K "_law_not_number" "_law_not_number" s_law_not_number f fd) (T : TxtC K mg A tm) (C_law_take : Cal P w K mg base "_law_take" 2 ["store", "many"] sp_take) : FnOk P w K mg base CX0 3 f fd ["store", "low", "high"] sp_notnum := by
  refine F.ok sc_law_not_number (fun vs H Q E h => ?_) (fun cdv Ar outer s H vs Q E hr h => ?_)
  · obtain ⟨G, s, t, lo, hi, rfl, _⟩ := h
    rfl
  · obtain ⟨G, st, t, lo, hi, rfl, rfl, hs, ok, h0, h1, h2, q⟩ := h
    refine ⟨_, (pss_cons (ps_set (i := 3) sc_law_not_number.nd rfl (.inl rfl) (pe_lst (pa_cons (pe_op op_sub (pv 1) pe_int) (pa_cons (pe_op op_add (pv 2) pe_int) (pa_cons (pe_op op_sub (pe_op op_sub (pv 1) pe_int) (p_call C_law_take hr (pa_cons (pv 0) (pa_cons pe_int pa_nil)))) (pa_cons (pe_op op_add (pe_op op_add (pv 2) pe_int) (p_call C_law_take hr (pa_cons (pv 0) (pa_cons pe_int pa_nil)))) (pa_cons (pe_op op_add (pv 2) (pe_op op_pow pe_int pe_int)) pa_nil)))))))
      (pss_cons (ps_set (i := 3) sc_law_not_number.nd rfl (.inl rfl) (pe_op op_cat (pv 3) (pe_lst (pa_cons (pe_op op_sub (pv 1) (pe_op op_pow pe_int pe_int)) (pa_cons pe_bl (pa_cons pe_bl (pa_cons pe_non (pa_cons (pe_callTy call_strH (by rfl) T.m_str (by decide +kernel) (pa_cons (pv 1) pa_nil)) (pa_cons pe_str (pa_cons (pe_lst (pa_cons (pv 1) pa_nil)) (pa_cons (pe_tup (pa_cons (pv 1) pa_nil)) (pa_cons (pe_lst pa_nil) (pa_cons (pe_tup pa_nil) pa_nil)))))))))))))
      (pss_one (ps_ret (pe_ix ix_H (pv 3) (p_call C_law_take hr (pa_cons (pv 0) (pa_cons (pe_callB call_lenH (by rfl) T.m_len (by decide +kernel) (pa_cons (pv 3) pa_nil)) pa_nil))) (fun _ _ => rfl)))))), ?_⟩
    have pw : (10 : Int) ^ Int.toNat 30 = 1000000000000000000000000000000 := by decide
    have cp : CPow 10 30 := ⟨by decide, by decide, by decide⟩
    have lg : lo.natAbs.log2 < 1920 := by
      by_cases z : lo.natAbs = 0
      · rw [z]
        decide
      · refine (Nat.log2_lt z).mpr (Nat.lt_of_lt_of_le (show lo.natAbs < 2 ^ 20 by omega) (Nat.pow_le_pow_right (by decide) (by decide)))
    simp only [w_seq, w_next, w_ret, w_asg, w_ifs, w_drop, w_brk, w_cont, w_name, w_var, w_c, w_op, w_un, w_I, w_I0, w_U, w_eq, w_scII, w_scBB, w_scSS, w_scNN, w_zi, w_zb, w_zn, w_zs, V.int.injEq, V.bl.injEq, V.str.injEq, V.ref.injEq, w_ne, w_test, w_B, w_and, w_or, w_not, w_andV, w_orV, w_notV, w_if, w_isN, w_nil, w_cons, w_cb, w_call, w_tup, w_lst, w_sub, w_intI, w_intB, w_isTyH, w_typ, w_isH, w_ixH, w_lenH, w_absH, w_listH, w_strH, w_bm, w_chain, w_exB, w_exV, w_start, k_ii, k_ib, k_is, k_il, k_it, k_bi, k_bb, k_bs, k_bl, k_bt, k_ni, k_nb, k_ns, k_nl, k_nt, k_si, k_sb, k_ss, k_sl, k_st, k_li, k_lb, k_ls, k_ll, k_lt, k_ti, k_tb, k_ts, k_tl, k_tt, w_st1, w_st2, w_st3, w_st5, atI_s0, atI_s1, atI_s2, atI_s3, atI_s4, atI_s5, List.map_cons, List.map_nil, List.length_cons, List.length_nil, List.replicate, List.cons_append, List.nil_append, List.append_nil, List.getElem?_cons_zero, List.getElem?_cons_succ, List.set_cons_zero, List.set_cons_succ, Nat.sub_self, Nat.reduceAdd, Nat.reduceSub, List.replicate_zero, decide_eq_true_eq, Bool.true_eq_false, Bool.false_eq_true, if_true, if_false, reduceIte, Bool.not_eq_true', decide_eq_false_iff_not, Bool.not_true, Bool.not_false, exists_eq_left', true_and, and_true, Option.some.injEq, reduceCtorEq, decide_true, decide_false, not_true_eq_false, not_false_eq_true, sizeLine_eq, Nat.reduceLeDiff, Bool.or_false, Bool.or_true, Bool.false_or, Bool.true_or, wp1, wp2, w_par, w_par2, w_tsl, w_nopart, w_part, w_exI, pw]
    refine u_take hs ok (by decide) fun r1 t1 ok1 r10 r11 => ?_
    simp only [w_seq, w_next, w_ret, w_asg, w_ifs, w_drop, w_brk, w_cont, w_name, w_var, w_c, w_op, w_un, w_I, w_I0, w_U, w_eq, w_scII, w_scBB, w_scSS, w_scNN, w_zi, w_zb, w_zn, w_zs, V.int.injEq, V.bl.injEq, V.str.injEq, V.ref.injEq, w_ne, w_test, w_B, w_and, w_or, w_not, w_andV, w_orV, w_notV, w_if, w_isN, w_nil, w_cons, w_cb, w_call, w_tup, w_lst, w_sub, w_intI, w_intB, w_isTyH, w_typ, w_isH, w_ixH, w_lenH, w_absH, w_listH, w_strH, w_bm, w_chain, w_exB, w_exV, w_start, k_ii, k_ib, k_is, k_il, k_it, k_bi, k_bb, k_bs, k_bl, k_bt, k_ni, k_nb, k_ns, k_nl, k_nt, k_si, k_sb, k_ss, k_sl, k_st, k_li, k_lb, k_ls, k_ll, k_lt, k_ti, k_tb, k_ts, k_tl, k_tt, w_st1, w_st2, w_st3, w_st5, atI_s0, atI_s1, atI_s2, atI_s3, atI_s4, atI_s5, List.map_cons, List.map_nil, List.length_cons, List.length_nil, List.replicate, List.cons_append, List.nil_append, List.append_nil, List.getElem?_cons_zero, List.getElem?_cons_succ, List.set_cons_zero, List.set_cons_succ, Nat.sub_self, Nat.reduceAdd, Nat.reduceSub, List.replicate_zero, decide_eq_true_eq, Bool.true_eq_false, Bool.false_eq_true, if_true, if_false, reduceIte, Bool.not_eq_true', decide_eq_false_iff_not, Bool.not_true, Bool.not_false, exists_eq_left', true_and, and_true, Option.some.injEq, reduceCtorEq, decide_true, decide_false, not_true_eq_false, not_false_eq_true, sizeLine_eq, Nat.reduceLeDiff, Bool.or_false, Bool.or_true, Bool.false_or, Bool.true_or, wp1, wp2, w_par, w_par2, w_tsl, w_nopart, w_part, w_exI, pw]
    refine u_take hs ok1 (by decide) fun r2 t2 ok2 r20 r21 => ?_
    simp only [w_seq, w_next, w_ret, w_asg, w_ifs, w_drop, w_brk, w_cont, w_name, w_var, w_c, w_op, w_un, w_I, w_I0, w_U, w_eq, w_scII, w_scBB, w_scSS, w_scNN, w_zi, w_zb, w_zn, w_zs, V.int.injEq, V.bl.injEq, V.str.injEq, V.ref.injEq, w_ne, w_test, w_B, w_and, w_or, w_not, w_andV, w_orV, w_notV, w_if, w_isN, w_nil, w_cons, w_cb, w_call, w_tup, w_lst, w_sub, w_intI, w_intB, w_isTyH, w_typ, w_isH, w_ixH, w_lenH, w_absH, w_listH, w_strH, w_bm, w_chain, w_exB, w_exV, w_start, k_ii, k_ib, k_is, k_il, k_it, k_bi, k_bb, k_bs, k_bl, k_bt, k_ni, k_nb, k_ns, k_nl, k_nt, k_si, k_sb, k_ss, k_sl, k_st, k_li, k_lb, k_ls, k_ll, k_lt, k_ti, k_tb, k_ts, k_tl, k_tt, w_st1, w_st2, w_st3, w_st5, atI_s0, atI_s1, atI_s2, atI_s3, atI_s4, atI_s5, List.map_cons, List.map_nil, List.length_cons, List.length_nil, List.replicate, List.cons_append, List.nil_append, List.append_nil, List.getElem?_cons_zero, List.getElem?_cons_succ, List.set_cons_zero, List.set_cons_succ, Nat.sub_self, Nat.reduceAdd, Nat.reduceSub, List.replicate_zero, decide_eq_true_eq, Bool.true_eq_false, Bool.false_eq_true, if_true, if_false, reduceIte, Bool.not_eq_true', decide_eq_false_iff_not, Bool.not_true, Bool.not_false, exists_eq_left', true_and, and_true, Option.some.injEq, reduceCtorEq, decide_true, decide_false, not_true_eq_false, not_false_eq_true, sizeLine_eq, Nat.reduceLeDiff, Bool.or_false, Bool.or_true, Bool.false_or, Bool.true_or, wp1, wp2, w_par, w_par2, w_tsl, w_nopart, w_part, w_exI, pw]
    refine ⟨cp, fun p0 hp0 => ⟨cp, lg, fun p1 hp1 p2 hp2 p3 hp3 p4 hp4 p5 hp5 => ?_⟩⟩
    obtain ⟨n0, f0, e0⟩ := wr_new (o := .lst [.int (lo - 1), .int (hi + 1), .int (lo - 2 - r1), .int (hi + 2 + r2), .int (hi + 1000000000000000000000000000000)]) hp0
    rw [e0] at hp1 hp2 hp3 hp4 hp5 ⊢
    obtain ⟨n1, f1, e1⟩ := wr_new (o := .lst [.int lo]) hp1
    rw [e1] at hp2 hp3 hp4 hp5 ⊢
    obtain ⟨n2, f2, e2⟩ := wr_new (o := .tup [.int lo]) hp2
    rw [e2] at hp3 hp4 hp5 ⊢
    obtain ⟨n3, f3, e3⟩ := wr_new (o := .lst []) hp3
    rw [e3] at hp4 hp5 ⊢
    obtain ⟨n4, f4, e4⟩ := wr_new (o := .tup []) hp4
    rw [e4] at hp5 ⊢
    obtain ⟨n5, f5, e5⟩ := wr_new (o := .lst [.int (lo - 1000000000000000000000000000000), .bl true, .bl false, .non, .str (Str.ofString (toString lo)), .str "", .ref p1, .ref p2, .ref p3, .ref p4]) hp5
    rw [e5]
    have s1 := same_new (o := .lst [.int lo]) f1
    have s2 := same_new (o := .tup [.int lo]) f2
    have s3 := same_new (o := .lst []) f3
    have s4 := same_new (o := .tup []) f4
    have s5 := same_new (o := .lst [.int (lo - 1000000000000000000000000000000), .bl true, .bl false, .non, .str (Str.ofString (toString lo)), .str "", .ref p1, .ref p2, .ref p3, .ref p4]) f5
    have sG := (same_new (o := .lst [.int (lo - 1), .int (hi + 1), .int (lo - 2 - r1), .int (hi + 2 + r2), .int (hi + 1000000000000000000000000000000)]) f0).trans (s1.trans (s2.trans (s3.trans (s4.trans s5))))
    have a0 := (s1.trans (s2.trans (s3.trans (s4.trans s5)))) p0 _ upd_same
    have a1 := (s2.trans (s3.trans (s4.trans s5))) p1 _ upd_same
    have a2 := (s3.trans (s4.trans s5)) p2 _ upd_same
    have a3 := (s4.trans s5) p3 _ upd_same
    have a4 := s5 p4 _ upd_same
    have a5 := upd_same (H := upd (upd (upd (upd (upd G p0 (.lst [.int (lo - 1), .int (hi + 1), .int (lo - 2 - r1), .int (hi + 2 + r2), .int (hi + 1000000000000000000000000000000)])) p1 (.lst [.int lo])) p2 (.tup [.int lo])) p3 (.lst [])) p4 (.tup [])) (a := p5) (o := .lst [.int (lo - 1000000000000000000000000000000), .bl true, .bl false, .non, .str (Str.ofString (toString lo)), .str "", .ref p1, .ref p2, .ref p3, .ref p4])
    have z5 := none_upd (o := .lst [.int (lo - 1000000000000000000000000000000), .bl true, .bl false, .non, .str (Str.ofString (toString lo)), .str "", .ref p1, .ref p2, .ref p3, .ref p4]) (none_upd (o := .tup []) (none_upd (o := .lst []) (none_upd (o := .tup [.int lo]) (none_upd (o := .lst [.int lo]) (none_upd (o := .lst [.int (lo - 1), .int (hi + 1), .int (lo - 2 - r1), .int (hi + 2 + r2), .int (hi + 1000000000000000000000000000000)]) hs n0) n1) n2) n3) n4) n5
    generalize upd (upd (upd (upd (upd (upd G p0 (.lst [.int (lo - 1), .int (hi + 1), .int (lo - 2 - r1), .int (hi + 2 + r2), .int (hi + 1000000000000000000000000000000)])) p1 (.lst [.int lo])) p2 (.tup [.int lo])) p3 (.lst [])) p4 (.tup [])) p5 (.lst [.int (lo - 1000000000000000000000000000000), .bl true, .bl false, .non, .str (Str.ofString (toString lo)), .str "", .ref p1, .ref p2, .ref p3, .ref p4]) = G5 at sG a0 a1 a2 a3 a4 a5 z5 ⊢
    clear s1 s2 s3 s4 s5 e0 e1 e2 e3 e4 e5 hp0 hp1 hp2 hp3 hp4 hp5 f0 f1 f2 f3 f4 f5
    have inW : ∀ {p : Addr} {o : HO} {t : Sto}, p ≠ st → G5 p = some o → Wr G5 st t p = some o := fun n e => by
      show upd G5 st _ _ = _
      rw [upd_ne n]
      exact e
    rw [w_cat (inW n0 a0) (inW n5 a5)]
    refine ⟨by show 5 + 10 ≤ sizeLine; decide, fun p6 hp6 => ?_⟩
    obtain ⟨n6, f6, e6⟩ := wr_new (o := .lst ([.int (lo - 1), .int (hi + 1), .int (lo - 2 - r1), .int (hi + 2 + r2), .int (hi + 1000000000000000000000000000000)] ++ [.int (lo - 1000000000000000000000000000000), .bl true, .bl false, .non, .str (Str.ofString (toString lo)), .str "", .ref p1, .ref p2, .ref p3, .ref p4])) hp6
    rw [e6]
    have s6 := same_new (o := .lst ([.int (lo - 1), .int (hi + 1), .int (lo - 2 - r1), .int (hi + 2 + r2), .int (hi + 1000000000000000000000000000000)] ++ [.int (lo - 1000000000000000000000000000000), .bl true, .bl false, .non, .str (Str.ofString (toString lo)), .str "", .ref p1, .ref p2, .ref p3, .ref p4])) f6
    have good : ∀ v ∈ ([.int (lo - 1), .int (hi + 1), .int (lo - 2 - r1), .int (hi + 2 + r2), .int (hi + 1000000000000000000000000000000)] ++ [.int (lo - 1000000000000000000000000000000), .bl true, .bl false, .non, .str (Str.ofString (toString lo)), .str "", .ref p1, .ref p2, .ref p3, .ref p4] : List V), wholeB v lo hi = false ∧ ∀ t', ∃ n, zTyV v (Wr (upd G5 p6 (.lst ([.int (lo - 1), .int (hi + 1), .int (lo - 2 - r1), .int (hi + 2 + r2), .int (hi + 1000000000000000000000000000000)] ++ [.int (lo - 1000000000000000000000000000000), .bl true, .bl false, .non, .str (Str.ofString (toString lo)), .str "", .ref p1, .ref p2, .ref p3, .ref p4]))) st t') = some n := by
      generalize hG6 : upd G5 p6 _ = G6 at s6
      have inR : ∀ {p : Addr} {o : HO} {t : Sto}, p ≠ st → G5 p = some o → Wr G6 st t p = some o := fun n e => by
        show upd G6 st _ _ = _
        rw [upd_ne n]
        exact s6 _ _ e
      have lw : ∀ i : Int, i < lo → wholeB (.int i) lo hi = false := fun i h => by
        show (decide (lo ≤ i) && decide (i ≤ hi)) = false
        rw [decide_eq_false (show ¬ lo ≤ i by omega)]
        rfl
      have hw : ∀ i : Int, hi < i → wholeB (.int i) lo hi = false := fun i h => by
        show (decide (lo ≤ i) && decide (i ≤ hi)) = false
        rw [decide_eq_false (show ¬ i ≤ hi by omega), Bool.and_false]
      simp only [List.cons_append, List.nil_append, List.forall_mem_cons]
      refine ⟨⟨lw _ (by omega), fun _ => ⟨_, rfl⟩⟩, ⟨hw _ (by omega), fun _ => ⟨_, rfl⟩⟩, ⟨lw _ (by omega), fun _ => ⟨_, rfl⟩⟩, ⟨hw _ (by omega), fun _ => ⟨_, rfl⟩⟩, ⟨hw _ (by omega), fun _ => ⟨_, rfl⟩⟩, ⟨lw _ (by omega), fun _ => ⟨_, rfl⟩⟩, ⟨rfl, fun _ => ⟨_, rfl⟩⟩, ⟨rfl, fun _ => ⟨_, rfl⟩⟩, ⟨rfl, fun _ => ⟨_, rfl⟩⟩, ⟨rfl, fun _ => ⟨_, rfl⟩⟩, ⟨rfl, fun _ => ⟨_, rfl⟩⟩, ⟨rfl, fun _ => ⟨"list", ?_⟩⟩, ⟨rfl, fun _ => ⟨"tuple", ?_⟩⟩, ⟨rfl, fun _ => ⟨"list", ?_⟩⟩, ⟨rfl, fun _ => ⟨"tuple", ?_⟩⟩, fun x hx => nomatch hx⟩
      · simp only [zTyV, inR n1 a1]
      · simp only [zTyV, inR n2 a2]
      · simp only [zTyV, inR n3 a3]
      · simp only [zTyV, inR n4 a4]
    generalize hL : ([.int (lo - 1), .int (hi + 1), .int (lo - 2 - r1), .int (hi + 2 + r2), .int (hi + 1000000000000000000000000000000)] ++ [.int (lo - 1000000000000000000000000000000), .bl true, .bl false, .non, .str (Str.ofString (toString lo)), .str "", .ref p1, .ref p2, .ref p3, .ref p4] : List V) = L at good s6 ⊢
    have lL : L.length = 15 := by rw [← hL]; rfl
    have hL6 : ∀ {t : Sto}, Wr (upd G5 p6 (.lst L)) st t p6 = some (.lst L) := fun {t} => by
      show upd (upd G5 p6 _) st _ p6 = _
      rw [upd_ne n6, upd_same]
    simp only [w_seq, w_next, w_ret, w_asg, w_ifs, w_drop, w_brk, w_cont, w_name, w_var, w_c, w_op, w_un, w_I, w_I0, w_U, w_eq, w_scII, w_scBB, w_scSS, w_scNN, w_zi, w_zb, w_zn, w_zs, V.int.injEq, V.bl.injEq, V.str.injEq, V.ref.injEq, w_ne, w_test, w_B, w_and, w_or, w_not, w_andV, w_orV, w_notV, w_if, w_isN, w_nil, w_cons, w_cb, w_call, w_tup, w_lst, w_sub, w_intI, w_intB, w_isTyH, w_typ, w_isH, w_ixH, w_lenH, w_absH, w_listH, w_strH, w_bm, w_chain, w_exB, w_exV, w_start, k_ii, k_ib, k_is, k_il, k_it, k_bi, k_bb, k_bs, k_bl, k_bt, k_ni, k_nb, k_ns, k_nl, k_nt, k_si, k_sb, k_ss, k_sl, k_st, k_li, k_lb, k_ls, k_ll, k_lt, k_ti, k_tb, k_ts, k_tl, k_tt, w_st1, w_st2, w_st3, w_st5, atI_s0, atI_s1, atI_s2, atI_s3, atI_s4, atI_s5, List.map_cons, List.map_nil, List.length_cons, List.length_nil, List.replicate, List.cons_append, List.nil_append, List.append_nil, List.getElem?_cons_zero, List.getElem?_cons_succ, List.set_cons_zero, List.set_cons_succ, Nat.sub_self, Nat.reduceAdd, Nat.reduceSub, List.replicate_zero, decide_eq_true_eq, Bool.true_eq_false, Bool.false_eq_true, if_true, if_false, reduceIte, Bool.not_eq_true', decide_eq_false_iff_not, Bool.not_true, Bool.not_false, exists_eq_left', true_and, and_true, Option.some.injEq, reduceCtorEq, decide_true, decide_false, not_true_eq_false, not_false_eq_true, sizeLine_eq, Nat.reduceLeDiff, Bool.or_false, Bool.or_true, Bool.false_or, Bool.true_or, wp1, wp2, w_par, w_par2, w_tsl, w_nopart, w_part, w_exI, w_lenH, seqAt_l hL6, lL]
    refine u_take (none_upd z5 n6) (stok_new f6 (stok_same sG ok2)) (by decide) fun r t' ok' r0 r1 => ?_
    obtain ⟨j, rfl⟩ : ∃ j : Nat, r = (j : Int) := ⟨r.toNat, by omega⟩
    have hj : j < L.length := by omega
    have ixv : atI L (j : Int) = some L[j] := atI_nat (List.getElem?_eq_getElem hj)
    simp only [w_seq, w_next, w_ret, w_asg, w_ifs, w_drop, w_brk, w_cont, w_name, w_var, w_c, w_op, w_un, w_I, w_I0, w_U, w_eq, w_scII, w_scBB, w_scSS, w_scNN, w_zi, w_zb, w_zn, w_zs, V.int.injEq, V.bl.injEq, V.str.injEq, V.ref.injEq, w_ne, w_test, w_B, w_and, w_or, w_not, w_andV, w_orV, w_notV, w_if, w_isN, w_nil, w_cons, w_cb, w_call, w_tup, w_lst, w_sub, w_intI, w_intB, w_isTyH, w_typ, w_isH, w_ixH, w_lenH, w_absH, w_listH, w_strH, w_bm, w_chain, w_exB, w_exV, w_start, k_ii, k_ib, k_is, k_il, k_it, k_bi, k_bb, k_bs, k_bl, k_bt, k_ni, k_nb, k_ns, k_nl, k_nt, k_si, k_sb, k_ss, k_sl, k_st, k_li, k_lb, k_ls, k_ll, k_lt, k_ti, k_tb, k_ts, k_tl, k_tt, w_st1, w_st2, w_st3, w_st5, atI_s0, atI_s1, atI_s2, atI_s3, atI_s4, atI_s5, List.map_cons, List.map_nil, List.length_cons, List.length_nil, List.replicate, List.cons_append, List.nil_append, List.append_nil, List.getElem?_cons_zero, List.getElem?_cons_succ, List.set_cons_zero, List.set_cons_succ, Nat.sub_self, Nat.reduceAdd, Nat.reduceSub, List.replicate_zero, decide_eq_true_eq, Bool.true_eq_false, Bool.false_eq_true, if_true, if_false, reduceIte, Bool.not_eq_true', decide_eq_false_iff_not, Bool.not_true, Bool.not_false, exists_eq_left', true_and, and_true, Option.some.injEq, reduceCtorEq, decide_true, decide_false, not_true_eq_false, not_false_eq_true, sizeLine_eq, Nat.reduceLeDiff, Bool.or_false, Bool.or_true, Bool.false_or, Bool.true_or, wp1, wp2, w_par, w_par2, w_tsl, w_nopart, w_part, w_exI, seqAt_l hL6, ixv]
    obtain ⟨wb, nm⟩ := good _ (List.getElem_mem hj)
    obtain ⟨n, hn⟩ := nm t'
    exact q _ n _ _ (sG.trans s6) (none_upd z5 n6) ok' hn wb
end
end Mt


namespace Mt
open PySem PySem.Spec PyProof.Rows L2 L2H
abbrev s_law_copy : Stmt := topS 30
theorem sc_law_copy : FnScope ["value", "part"] ["value"] (defScope s_law_copy) := ⟨rfl, rfl, rfl, by decide +kernel, rfl, by decide +kernel, by decide +kernel⟩

/-! ### a list or a tuple, walked -/
def iSeq (K : PySem.W.Frag) (tl : TE) : TI := fun σ H R => tl σ H fun x H1 => ∃ a, x = .ref a ∧ (((∃ xs, SqL K H1 a xs) ∧ R (Itl K a) H1) ∨ ((∃ xs, SqT K H1 a xs) ∧ R (Itt K a) H1))
theorem pi_seq {X : Cx} {tg l : Expr} {tl : TE} (hl : PE X l tl) : PI X tg l (iSeq X.K tl) := ⟨fun pins s σ H R I h => thn (hl.run pins s σ H _ I h) fun v s1 q => by
  obtain ⟨x, H1, I1, r1, a, rfl, q⟩ := q
  cases r1
  have fin : ∀ {ob : Obj} {J : It} {tn : Nat → Heap → Prop}, Turn X.prog X.w X.K tg J [s1.heap.objs.size] s1.heap.objs.size tn → tn 0 (s1.heap.push ob) → R J H1 → PIE X pins σ tg R (.ref s1.heap.objs.size) { s1 with heap := s1.heap.push ob } := fun tt h0 r =>
    ⟨_, _, _, _, H1, rfl, I1.kept (t' := s1.toks) fun _ _ e => Heap.get?_push_of_some _ e, tt, h0, fun b hb => by
      rw [List.mem_singleton.mp hb]
      exact I1.fpOk (Nat.le_refl _) (I1.hok.fresh (Nat.le_refl _)), r⟩
  rcases q with ⟨⟨xs, hx⟩, q⟩ | ⟨⟨xs, hx⟩, q⟩
  · obtain ⟨_, _, p, _⟩ := I1.list hx
    exact wpAny_pyIter_list p.isList (fin (turn_list a _) ⟨_, Heap.get?_push_size _ rfl, rfl, rfl⟩ q)
  · obtain ⟨its, _, p, _⟩ := I1.tuple hx
    exact wpAny_pyIter_tuple (show s1.heap.IsTuple a its.toArray from p) (fin (turn_tuple a _) ⟨_, Heap.get?_push_size _ rfl, rfl, rfl⟩ q)⟩
section
variable {te tl : TE} {σ : L2.St} {H : Hp} {i : Nat} {K : PySem.W.Frag}
theorem lcF_seq {a : Addr} {xs : List V} {ds : List D} (htl : ∀ H1, Same H H1 → ∀ R : VK, R (.ref a) H1 → tl σ H1 R) (hx : H a = some (.lst xs) ∨ H a = some (.tup xs)) (hl : ds.length = xs.length) (hn : xs.length < 1000000)
    (he : ∀ (k : Nat) (x : V) (d : D), xs[k]? = some x → ds[k]? = some d → EvF te ((wipe σ [i]).set i (some x)) H d) : EvF (tLc (iSeq K tl) (gName i) tYes te [i]) σ H (.lst ds) := by
  intro H1 s1 Q q
  have step : ∀ (D' : Addr), H1 D' = none → ∀ (k : Nat) (x : V) (H' : Hp), xs[k]? = some x → (k ≤ xs.length ∧ Grow H1 D' (ds.take k) H') → gName i x (wipe σ [i]) H' fun σ2 H2 => wipe σ2 [i] = wipe σ [i] ∧ tYes σ2 H2 fun b H3 =>
      if b = true then te σ2 H3 fun y H4 => ∃ acc, H4 D' = some (.lst acc) ∧ acc.length < sizeLine ∧ (k + 1 ≤ xs.length ∧ Grow H1 D' (ds.take (k + 1)) (upd H4 D' (.lst (acc ++ [y])))) else (k + 1 ≤ xs.length ∧ Grow H1 D' (ds.take (k + 1)) H3) := by
    rintro D' hD k x H' hk ⟨_, g⟩
    have hk' : k < xs.length := (List.getElem?_eq_some_iff.mp hk).1
    refine ⟨wipe1, ?_⟩
    show te ((wipe σ [i]).set i (some x)) H' _
    have sg : Same H1 H' := by
      obtain ⟨_, _, s, _⟩ := g
      exact s
    have hd : ds[k]? = some (ds[k]'(by omega)) := List.getElem?_eq_getElem (by omega)
    refine he k x _ hk hd H' (s1.trans sg) _ fun y H2 fr => ?_
    obtain ⟨acc, e1, e2, g2⟩ := grow_s hD g fr (by rw [List.length_take]; omega)
    refine ⟨acc, e1, e2, hk', ?_⟩
    rw [List.take_add_one, hd]
    exact g2
  have endd : ∀ (D' : Addr), H1 D' = none → ∀ H', (xs.length ≤ xs.length ∧ Grow H1 D' (ds.take xs.length) H') → Q (.ref D') H' := by
    rintro D' hD H' ⟨_, g⟩
    rw [← hl, List.take_length] at g
    exact q _ _ (grow_end hD g (by omega))
  have keep : ∀ (D' : Addr) (k : Nat) (H' : Hp), (k ≤ xs.length ∧ Grow H1 D' (ds.take k) H') → Same H H' := by
    rintro D' k H' ⟨_, _, _, s, _⟩
    exact s1.trans s
  refine htl H1 s1 _ ⟨a, rfl, ?_⟩
  rcases hx with hx | hx
  · exact Or.inl ⟨⟨xs, Or.inl (Or.inl (s1 _ _ hx))⟩, fun D' hD => lc_list (K := K) (a := a) (xs := xs) (fun k H' => k ≤ xs.length ∧ Grow H1 D' (ds.take k) H') ⟨Nat.zero_le _, grow_0 hD⟩ (fun k H' _ p => Or.inl (Or.inl (keep D' k H' p _ _ hx))) (step D' hD) (endd D' hD)⟩
  · exact Or.inr ⟨⟨xs, Or.inl (Or.inl (s1 _ _ hx))⟩, fun D' hD => lc_tup (K := K) (a := a) (xs := xs) (fun k H' => k ≤ xs.length ∧ Grow H1 D' (ds.take k) H') ⟨Nat.zero_le _, grow_0 hD⟩ (fun k H' _ p => Or.inl (Or.inl (keep D' k H' p _ _ hx))) (step D' hD) (endd D' hD)⟩
end
section
variable {P : Program} {w : World} {K : PySem.W.Frag} {mg : Str → Option Value} {base : Heap} {f : Addr} {fd : FuncData} {A : Ad} {tm : Tok}
/-- a copy of data -/
def sp_copy (n : Nat) : Sp := fun vs H Q _ => ∃ (d : D) (v : V) (as : List Addr), vs = [v] ∧ dep d ≤ n ∧ Rep H d v as ∧ ∀ y H', Fr H H' d y → Q y H'
def sp_copy' (n : Nat) : Sp := fun vs H Q _ => ∃ (d : D) (v : V) (as : List Addr), vs = [v] ∧ dep d < n ∧ Rep H d v as ∧ ∀ y H', Fr H H' d y → Q y H'
theorem ok_copy_step (F : Fun K "_law_copy" "_law_copy" s_law_copy f fd) (T : TxtC K mg A tm) (k n : Nat) (C_law_copy : Cal P w K mg base "_law_copy" k ["value"] (sp_copy' n)) :
    FnOk P w K mg base CX0 (k + 1) f fd ["value"] (sp_copy n) := by
  refine F.ok sc_law_copy (fun vs H Q E h => ?_) (fun cdv Ar outer s H vs Q E hr h => ?_)
  · obtain ⟨d, v, as, rfl, _⟩ := h
    rfl
  · obtain ⟨d, v, as, rfl, hd, hv, q⟩ := h
    refine ⟨_, (pss_cons (ps_if (pt_val (pe_callB call_isH (by rfl) T.m_isinstance (by decide +kernel) (pa_cons (pv 0) (pa_cons (pe_bltn (v := .ty "list") (u := .type "list") (by rfl) T.m_list (by decide +kernel) rel_ty) pa_nil)))) (pss_one (ps_ret (pe_lc (own := [("part", 1)]) (g := gName 1) rfl sc_law_copy.nd (pi_seq (pv 0)) (blkOk_by (N := ["value", "part"]) (sc := defScope s_law_copy) (by decide +kernel)) (fun _ _ _ _ _ => pg_name (i := 1) sc_law_copy.nd rfl (.inl rfl)) (fun _ _ _ _ _ => pts_nil) (fun _ _ _ _ _ => (p_call C_law_copy hr (pa_cons (pv 1) pa_nil) (by omega)))))) pss_nil)
      (pss_cons (ps_if (pt_val (pe_callB call_isH (by rfl) T.m_isinstance (by decide +kernel) (pa_cons (pv 0) (pa_cons (pe_bltn (v := .ty "tuple") (u := .type "tuple") (by rfl) T.m_tuple (by decide +kernel) rel_ty) pa_nil)))) (pss_one (ps_ret (pe_callTy call_tuple_of (by rfl) T.m_tuple (by decide +kernel) (pa_cons (pe_lc (own := [("part", 1)]) (g := gName 1) rfl sc_law_copy.nd (pi_seq (pv 0)) (blkOk_by (N := ["value", "part"]) (sc := defScope s_law_copy) (by decide +kernel)) (fun _ _ _ _ _ => pg_name (i := 1) sc_law_copy.nd rfl (.inl rfl)) (fun _ _ _ _ _ => pts_nil) (fun _ _ _ _ _ => (p_call C_law_copy hr (pa_cons (pv 1) pa_nil) (by omega)))) pa_nil)))) pss_nil)
      (pss_one (ps_ret (pv 0))))), ?_⟩
    have comp : ∀ (a : Addr) (va : List V) (ds : List D) (bs : List Addr), (H a = some (.lst va) ∨ H a = some (.tup va)) → Reps H ds va bs → deps ds < n → ds.length < 1000000 → EvF (tLc (iSeq K (tVar 0)) (gName 1) tYes (tCall (sp_copy' n) [] E0 (tCons (tVar 1) tNil)) [1]) [some (.ref a), none] H (.lst ds) := fun a va ds bs ha rs hn hz => by
      have lv := reps_len rs
      refine lcF_seq (a := a) (xs := va) (fun H1 _ R r => ⟨_, rfl, r⟩) ha lv.symm (by omega) (fun k x d hk hd' H1 s1 R r => ?_)
      obtain ⟨x', as', e1, e2⟩ := reps_at rs hd'
      rw [hk] at e1
      cases e1
      exact ⟨x, rfl, d, x, as', rfl, Nat.lt_of_le_of_lt (deps_at hd') hn, rep_same s1 e2, r⟩
    cases d with
    | lst ds =>
      simp only [Rep] at hv
      obtain ⟨a, va, bs, rfl, ea, rs, _, hz⟩ := hv
      simp only [dep] at hd
      simp only [w_seq, w_next, w_ret, w_asg, w_ifs, w_drop, w_brk, w_cont, w_name, w_var, w_c, w_op, w_un, w_I, w_I0, w_U, w_eq, w_scII, w_scBB, w_scSS, w_scNN, w_zi, w_zb, w_zn, w_zs, V.int.injEq, V.bl.injEq, V.str.injEq, V.ref.injEq, w_ne, w_test, w_B, w_and, w_or, w_not, w_andV, w_orV, w_notV, w_if, w_isN, w_nil, w_cons, w_cb, w_call, w_tup, w_lst, w_sub, w_intI, w_intB, w_isTyH, w_typ, w_isH, w_ixH, w_lenH, w_absH, w_listH, w_strH, w_bm, w_chain, w_exB, w_exV, w_start, k_ii, k_ib, k_is, k_il, k_it, k_bi, k_bb, k_bs, k_bl, k_bt, k_ni, k_nb, k_ns, k_nl, k_nt, k_si, k_sb, k_ss, k_sl, k_st, k_li, k_lb, k_ls, k_ll, k_lt, k_ti, k_tb, k_ts, k_tl, k_tt, w_st1, w_st2, w_st3, w_st5, atI_s0, atI_s1, atI_s2, atI_s3, atI_s4, atI_s5, List.map_cons, List.map_nil, List.length_cons, List.length_nil, List.replicate, List.cons_append, List.nil_append, List.append_nil, List.getElem?_cons_zero, List.getElem?_cons_succ, List.set_cons_zero, List.set_cons_succ, Nat.sub_self, Nat.reduceAdd, Nat.reduceSub, List.replicate_zero, decide_eq_true_eq, Bool.true_eq_false, Bool.false_eq_true, if_true, if_false, reduceIte, Bool.not_eq_true', decide_eq_false_iff_not, Bool.not_true, Bool.not_false, exists_eq_left', true_and, and_true, Option.some.injEq, reduceCtorEq, decide_true, decide_false, not_true_eq_false, not_false_eq_true, sizeLine_eq, Nat.reduceLeDiff, Bool.or_false, Bool.or_true, Bool.false_or, Bool.true_or, wp1, wp2, w_par, w_par2, w_tsl, w_nopart, w_part, w_exI, w_zl ea]
      exact comp a va ds bs (Or.inl ea) rs (by omega) hz H (Same.refl H) Q q
    | tup ds =>
      simp only [Rep] at hv
      obtain ⟨a, va, bs, rfl, ea, rs, _, hz⟩ := hv
      simp only [dep] at hd
      simp only [w_seq, w_next, w_ret, w_asg, w_ifs, w_drop, w_brk, w_cont, w_name, w_var, w_c, w_op, w_un, w_I, w_I0, w_U, w_eq, w_scII, w_scBB, w_scSS, w_scNN, w_zi, w_zb, w_zn, w_zs, V.int.injEq, V.bl.injEq, V.str.injEq, V.ref.injEq, w_ne, w_test, w_B, w_and, w_or, w_not, w_andV, w_orV, w_notV, w_if, w_isN, w_nil, w_cons, w_cb, w_call, w_tup, w_lst, w_sub, w_intI, w_intB, w_isTyH, w_typ, w_isH, w_ixH, w_lenH, w_absH, w_listH, w_strH, w_bm, w_chain, w_exB, w_exV, w_start, k_ii, k_ib, k_is, k_il, k_it, k_bi, k_bb, k_bs, k_bl, k_bt, k_ni, k_nb, k_ns, k_nl, k_nt, k_si, k_sb, k_ss, k_sl, k_st, k_li, k_lb, k_ls, k_ll, k_lt, k_ti, k_tb, k_ts, k_tl, k_tt, w_st1, w_st2, w_st3, w_st5, atI_s0, atI_s1, atI_s2, atI_s3, atI_s4, atI_s5, List.map_cons, List.map_nil, List.length_cons, List.length_nil, List.replicate, List.cons_append, List.nil_append, List.append_nil, List.getElem?_cons_zero, List.getElem?_cons_succ, List.set_cons_zero, List.set_cons_succ, Nat.sub_self, Nat.reduceAdd, Nat.reduceSub, List.replicate_zero, decide_eq_true_eq, Bool.true_eq_false, Bool.false_eq_true, if_true, if_false, reduceIte, Bool.not_eq_true', decide_eq_false_iff_not, Bool.not_true, Bool.not_false, exists_eq_left', true_and, and_true, Option.some.injEq, reduceCtorEq, decide_true, decide_false, not_true_eq_false, not_false_eq_true, sizeLine_eq, Nat.reduceLeDiff, Bool.or_false, Bool.or_true, Bool.false_or, Bool.true_or, wp1, wp2, w_par, w_par2, w_tsl, w_nopart, w_part, w_exI, w_zt ea]
      refine comp a va ds bs (Or.inr ea) rs (by omega) hz H (Same.refl H) _ fun y H1 f1 => ?_
      obtain ⟨s1, as1, r1, n1, fr1⟩ := f1
      simp only [Rep] at r1
      obtain ⟨p, ys, cs, rfl, ep, rp, rfl, _⟩ := r1
      refine ⟨p, ys, rfl, Or.inl ⟨Or.inl (Or.inl ep), fun l hl => q _ _ ⟨s1.trans (same_new hl), cs, ?_, (List.nodup_cons.mp n1).2, fun b hb => fr1 b (List.mem_cons_of_mem _ hb)⟩⟩⟩
      simp only [Rep]
      exact ⟨l, ys, cs, rfl, upd_same, reps_same (same_new hl) rp, rfl, hz⟩
    | _ =>
      simp only [Rep] at hv
      obtain ⟨rfl, _⟩ := hv
      simp only [w_seq, w_next, w_ret, w_asg, w_ifs, w_drop, w_brk, w_cont, w_name, w_var, w_c, w_op, w_un, w_I, w_I0, w_U, w_eq, w_scII, w_scBB, w_scSS, w_scNN, w_zi, w_zb, w_zn, w_zs, V.int.injEq, V.bl.injEq, V.str.injEq, V.ref.injEq, w_ne, w_test, w_B, w_and, w_or, w_not, w_andV, w_orV, w_notV, w_if, w_isN, w_nil, w_cons, w_cb, w_call, w_tup, w_lst, w_sub, w_intI, w_intB, w_isTyH, w_typ, w_isH, w_ixH, w_lenH, w_absH, w_listH, w_strH, w_bm, w_chain, w_exB, w_exV, w_start, k_ii, k_ib, k_is, k_il, k_it, k_bi, k_bb, k_bs, k_bl, k_bt, k_ni, k_nb, k_ns, k_nl, k_nt, k_si, k_sb, k_ss, k_sl, k_st, k_li, k_lb, k_ls, k_ll, k_lt, k_ti, k_tb, k_ts, k_tl, k_tt, w_st1, w_st2, w_st3, w_st5, atI_s0, atI_s1, atI_s2, atI_s3, atI_s4, atI_s5, List.map_cons, List.map_nil, List.length_cons, List.length_nil, List.replicate, List.cons_append, List.nil_append, List.append_nil, List.getElem?_cons_zero, List.getElem?_cons_succ, List.set_cons_zero, List.set_cons_succ, Nat.sub_self, Nat.reduceAdd, Nat.reduceSub, List.replicate_zero, decide_eq_true_eq, Bool.true_eq_false, Bool.false_eq_true, if_true, if_false, reduceIte, Bool.not_eq_true', decide_eq_false_iff_not, Bool.not_true, Bool.not_false, exists_eq_left', true_and, and_true, Option.some.injEq, reduceCtorEq, decide_true, decide_false, not_true_eq_false, not_false_eq_true, sizeLine_eq, Nat.reduceLeDiff, Bool.or_false, Bool.or_true, Bool.false_or, Bool.true_or, wp1, wp2, w_par, w_par2, w_tsl, w_nopart, w_part, w_exI]
      refine q _ _ ⟨Same.refl _, [], ?_, List.nodup_nil, fun a h => nomatch h⟩
      simp [Rep]
theorem ok_copy (F : Fun K "_law_copy" "_law_copy" s_law_copy f fd) (T : TxtC K mg A tm) (gm : mg "_law_copy" = some (.ref f)) (b : Binds K fd ["value"] []) : ∀ n : Nat, FnOk P w K mg base CX0 (n + 1) f fd ["value"] (sp_copy n)
  | 0 => (ok_copy_step F T 0 0 ⟨f, fd, ⟨fun vs H Q E h => by
      obtain ⟨d, v, as, _, h, _⟩ := h
      exact absurd h (Nat.not_lt_zero _), fun A outer s H args us vs Q E _ _ _ _ h => by
      obtain ⟨d, v, as, _, h, _⟩ := h
      exact absurd h (Nat.not_lt_zero _)⟩, gm, F.kp, b⟩)
  | n + 1 => ok_copy_step F T (n + 1) (n + 1) ⟨f, fd, (ok_copy F T gm b n).imp fun vs H Q E h => by
      obtain ⟨d, v, as, e, h1, h2⟩ := h
      exact ⟨d, v, as, e, Nat.le_of_lt_succ h1, h2⟩, gm, F.kp, b⟩
end
end Mt


namespace Mt
open PySem PySem.Spec PyProof.Rows L2 L2H
abbrev s_law_lists : Stmt := topS 31
theorem sc_law_lists : FnScope ["value", "depth", "found", "part"] ["value", "depth"] (defScope s_law_lists) := ⟨rfl, rfl, rfl, by decide +kernel, rfl, by decide +kernel, by decide +kernel⟩

section
variable {P : Program} {w : World} {K : PySem.W.Frag} {mg : Str → Option Value} {base : Heap} {f : Addr} {fd : FuncData} {A : Ad} {tm : Tok}
/-- the lists of a value, in their order -/
def sp_lists (n : Nat) : Sp := fun vs H Q _ => ∃ (d : D) (v : V) (as : List Addr) (k : Int), vs = [v, .int k] ∧ dep d ≤ n ∧ (n : Int) < k ∧ k < 1000 ∧ Rep H d v as ∧ as.length < 100000 ∧ ∀ p H', Same H H' → H p = none → H' p = some (.lst (as.map V.ref)) → Q (.ref p) H'
def sp_lists' (n : Nat) : Sp := fun vs H Q _ => ∃ (d : D) (v : V) (as : List Addr) (k : Int), vs = [v, .int k] ∧ dep d < n ∧ (n : Int) < k + 1 ∧ k < 1000 ∧ Rep H d v as ∧ as.length < 100000 ∧ ∀ p H', Same H H' → H p = none → H' p = some (.lst (as.map V.ref)) → Q (.ref p) H'
theorem ok_lists_step (F : Fun K "_law_lists" "_law_lists" s_law_lists f fd) (T : TxtC K mg A tm) (k n : Nat) (C_law_lists : Cal P w K mg base "_law_lists" k ["value", "depth"] (sp_lists' n)) :
    FnOk P w K mg base CX0 (k + 1) f fd ["value", "depth"] (sp_lists n) := by
  refine F.ok sc_law_lists (fun vs H Q E h => ?_) (fun cdv Ar outer s H vs Q E hr h => ?_)
  · obtain ⟨d, v, as, k, rfl, _⟩ := h
    rfl
  · obtain ⟨d, v, as, dp, rfl, hd, hk, hk2, hv, hz, q⟩ := h
    refine ⟨_, (pss_cons (ps_set (i := 2) sc_law_lists.nd rfl (.inl rfl) (pe_lst pa_nil))
      (pss_cons (ps_if (PW.pt (pw_and (pt_cmpR op_gt (pv 1) pe_int (nomark _)) (pw_and1 (pt_val (pe_callB call_isH (by rfl) T.m_isinstance (by decide +kernel) (pa_cons (pv 0) (pa_cons (pe_bltn (v := .ty "list") (u := .type "list") (by rfl) T.m_list (by decide +kernel) rel_ty) pa_nil))))))) (pss_one (ps_expr (pe_bm PySem.F.plainAttrs_list PySem.F.slot_list_append PySem.F.type_list_append mt_append (pv 2) (pa_cons (pv 0) pa_nil)))) pss_nil)
      (pss_cons (ps_if (PW.pt (pw_and (pt_cmpR op_gt (pv 1) pe_int (nomark _)) (pw_and1 (pt_val (pe_callB call_isTH (by rfl) T.m_isinstance (by decide +kernel) (pa_cons (pv 0) (pa_cons (pe_tup (pa_cons (pe_bltn (v := .ty "list") (u := .type "list") (by rfl) T.m_list (by decide +kernel) rel_ty) (pa_cons (pe_bltn (v := .ty "tuple") (u := .type "tuple") (by rfl) T.m_tuple (by decide +kernel) rel_ty) pa_nil))) pa_nil))))))) (pss_one (ps_for PassesOwn.never rfl (pi_seq (pv 0)) (pg_name (i := 3) sc_law_lists.nd rfl (.inl rfl)) (pss_one (ps_set (i := 2) sc_law_lists.nd rfl (.inl rfl) (pe_op op_cat (pv 2) (p_call C_law_lists hr (pa_cons (pv 3) (pa_cons (pe_op op_sub (pv 1) pe_int) pa_nil)) (by omega))))))) pss_nil)
      (pss_one (ps_ret (pv 2)))))), ?_⟩
    have dp0 : 0 < dp := by omega
    have loop : ∀ (a : Addr) (va : List V) (ds : List D) (bs pre : List Addr) (p0 : Addr) (H1 : Hp), deps ds < n → Same H H1 → H p0 = none → H1 p0 = some (.lst (pre.map V.ref)) → (H1 a = some (.lst va) ∨ H1 a = some (.tup va)) → Reps H1 ds va bs → (pre ++ bs).length < 100000 →
        (∀ p H', Same H H' → H p = none → H' p = some (.lst ((pre ++ bs).map V.ref)) → Q (.ref p) H') →
        tFor (iSeq K (tVar 0)) (gName 3) (tAsg (tOp rCat (tVar 2) (tCall (sp_lists' n) [] E0 (tCons (tVar 3) (tCons (tOp (rI0 fun i j => V.int (i - j)) (tVar 1) (tC (V.int 1))) tNil)))) (gName 2)) { nx := tRet (tVar 2) { nx := fun x H' => Q V.non H', rt := Q }, rt := Q } [some (V.ref a), some (V.int dp), some (V.ref p0), none] H1 := by
      intro a va ds bs pre p0 H1 hn s1 np0 ep0 ea rs hz q
      have step : ∀ (i : Nat) (x : V) (σ : L2.St) (H2 : Hp), va[i]? = some x → (∃ (p : Addr) (z : Option V) (b1 b3 : List Addr), σ = [some (.ref a), some (.int dp), some (.ref p), z] ∧ Same H1 H2 ∧ H2 p = some (.lst ((pre ++ b1).map V.ref)) ∧ H p = none ∧ bs = b1 ++ b3 ∧ Reps H1 (ds.drop i) (va.drop i) b3) →
          gName 3 x σ H2 fun σ2 H3 => tAsg (tOp rCat (tVar 2) (tCall (sp_lists' n) [] E0 (tCons (tVar 3) (tCons (tOp (rI0 fun i j => V.int (i - j)) (tVar 1) (tC (V.int 1))) tNil)))) (gName 2) { nx := fun σ H2 => ∃ (p : Addr) (z : Option V) (b1 b3 : List Addr), σ = [some (.ref a), some (.int dp), some (.ref p), z] ∧ Same H1 H2 ∧ H2 p = some (.lst ((pre ++ b1).map V.ref)) ∧ H p = none ∧ bs = b1 ++ b3 ∧ Reps H1 (ds.drop (i + 1)) (va.drop (i + 1)) b3, ct := fun σ H2 => ∃ (p : Addr) (z : Option V) (b1 b3 : List Addr), σ = [some (.ref a), some (.int dp), some (.ref p), z] ∧ Same H1 H2 ∧ H2 p = some (.lst ((pre ++ b1).map V.ref)) ∧ H p = none ∧ bs = b1 ++ b3 ∧ Reps H1 (ds.drop (i + 1)) (va.drop (i + 1)) b3, bk := tRet (tVar 2) { nx := fun x H' => Q V.non H', rt := Q }, rt := Q } σ2 H3 := by
        rintro i x σ H2 hx ⟨p, z, b1, b3, rfl, s2, ep, np, rfl, r3⟩
        cases hD : ds.drop i with
        | nil =>
          have l1 := reps_len r3
          rw [hD, List.length_drop] at l1
          have := (List.getElem?_eq_some_iff.mp hx).1
          simp at l1
          omega
        | cons d rest =>
          have hd : ds[i]? = some d := by
            have e : (ds.drop i)[0]? = some d := by rw [hD]; rfl
            rw [List.getElem?_drop] at e
            exact e
          have hr : ds.drop (i + 1) = rest := by
            rw [List.drop_add_one_eq_tail_drop, hD]
            rfl
          rw [hD] at r3
          simp only [Reps] at r3
          obtain ⟨v, vr, b2, b4, e1, e2, e3, rfl⟩ := r3
          have hv : va[i]? = some v := by
            have e : (va.drop i)[0]? = some v := by rw [e1]; rfl
            rw [List.getElem?_drop] at e
            exact e
          rw [hx] at hv
          cases hv
          have hvr : va.drop (i + 1) = vr := by
            rw [List.drop_add_one_eq_tail_drop, e1]
            rfl
          simp only [w_seq, w_next, w_ret, w_asg, w_ifs, w_drop, w_brk, w_cont, w_name, w_var, w_c, w_op, w_un, w_I, w_I0, w_U, w_eq, w_scII, w_scBB, w_scSS, w_scNN, w_zi, w_zb, w_zn, w_zs, V.int.injEq, V.bl.injEq, V.str.injEq, V.ref.injEq, w_ne, w_test, w_B, w_and, w_or, w_not, w_andV, w_orV, w_notV, w_if, w_isN, w_nil, w_cons, w_cb, w_call, w_tup, w_lst, w_sub, w_intI, w_intB, w_isTyH, w_typ, w_isH, w_ixH, w_lenH, w_absH, w_listH, w_strH, w_bm, w_chain, w_exB, w_exV, w_start, k_ii, k_ib, k_is, k_il, k_it, k_bi, k_bb, k_bs, k_bl, k_bt, k_ni, k_nb, k_ns, k_nl, k_nt, k_si, k_sb, k_ss, k_sl, k_st, k_li, k_lb, k_ls, k_ll, k_lt, k_ti, k_tb, k_ts, k_tl, k_tt, w_st1, w_st2, w_st3, w_st5, atI_s0, atI_s1, atI_s2, atI_s3, atI_s4, atI_s5, List.map_cons, List.map_nil, List.length_cons, List.length_nil, List.replicate, List.cons_append, List.nil_append, List.append_nil, List.getElem?_cons_zero, List.getElem?_cons_succ, List.set_cons_zero, List.set_cons_succ, Nat.sub_self, Nat.reduceAdd, Nat.reduceSub, List.replicate_zero, decide_eq_true_eq, Bool.true_eq_false, Bool.false_eq_true, if_true, if_false, reduceIte, Bool.not_eq_true', decide_eq_false_iff_not, Bool.not_true, Bool.not_false, exists_eq_left', true_and, and_true, Option.some.injEq, reduceCtorEq, decide_true, decide_false, not_true_eq_false, not_false_eq_true, sizeLine_eq, Nat.reduceLeDiff, Bool.or_false, Bool.or_true, Bool.false_or, Bool.true_or, wp1, wp2, w_par, w_par2, w_tsl, w_nopart, w_part, w_exI]
          simp only [List.length_append] at hz
          refine ⟨d, x, b2, dp - 1, rfl, Nat.lt_of_le_of_lt (deps_at hd) hn, by omega, by omega, rep_same s2 e2, by omega, fun p2 H3 s3 np2 ep2 => ?_⟩
          have s3' : Same H1 H3 := s2.trans s3
          show rCat (.ref p) (.ref p2) H3 _
          rw [w_cat (s3 _ _ ep) ep2]
          refine ⟨by rw [List.length_map, List.length_map, List.length_append, sizeLine_eq]; omega, fun p4 hp4 => ?_⟩
          refine ⟨p4, _, b1 ++ b2, b4, rfl, s3'.trans (same_new hp4), ?_, (s1.trans s3').free hp4, by rw [List.append_assoc], ?_⟩
          · rw [upd_same, ← List.map_append, List.append_assoc]
          · rw [hr, hvr]
            exact e3
      have fin : ∀ (σ : L2.St) (H2 : Hp), (∃ (p : Addr) (z : Option V) (b1 b3 : List Addr), σ = [some (.ref a), some (.int dp), some (.ref p), z] ∧ Same H1 H2 ∧ H2 p = some (.lst ((pre ++ b1).map V.ref)) ∧ H p = none ∧ bs = b1 ++ b3 ∧ Reps H1 (ds.drop va.length) (va.drop va.length) b3) → tRet (tVar 2) { nx := fun x H' => Q V.non H', rt := Q } σ H2 := by
        rintro σ H2 ⟨p, z, b1, b3, rfl, s2, ep, np, rfl, r3⟩
        rw [reps_len rs, List.drop_length] at r3
        simp only [Reps] at r3
        obtain ⟨_, rfl⟩ := r3
        simp only [w_seq, w_next, w_ret, w_asg, w_ifs, w_drop, w_brk, w_cont, w_name, w_var, w_c, w_op, w_un, w_I, w_I0, w_U, w_eq, w_scII, w_scBB, w_scSS, w_scNN, w_zi, w_zb, w_zn, w_zs, V.int.injEq, V.bl.injEq, V.str.injEq, V.ref.injEq, w_ne, w_test, w_B, w_and, w_or, w_not, w_andV, w_orV, w_notV, w_if, w_isN, w_nil, w_cons, w_cb, w_call, w_tup, w_lst, w_sub, w_intI, w_intB, w_isTyH, w_typ, w_isH, w_ixH, w_lenH, w_absH, w_listH, w_strH, w_bm, w_chain, w_exB, w_exV, w_start, k_ii, k_ib, k_is, k_il, k_it, k_bi, k_bb, k_bs, k_bl, k_bt, k_ni, k_nb, k_ns, k_nl, k_nt, k_si, k_sb, k_ss, k_sl, k_st, k_li, k_lb, k_ls, k_ll, k_lt, k_ti, k_tb, k_ts, k_tl, k_tt, w_st1, w_st2, w_st3, w_st5, atI_s0, atI_s1, atI_s2, atI_s3, atI_s4, atI_s5, List.map_cons, List.map_nil, List.length_cons, List.length_nil, List.replicate, List.cons_append, List.nil_append, List.append_nil, List.getElem?_cons_zero, List.getElem?_cons_succ, List.set_cons_zero, List.set_cons_succ, Nat.sub_self, Nat.reduceAdd, Nat.reduceSub, List.replicate_zero, decide_eq_true_eq, Bool.true_eq_false, Bool.false_eq_true, if_true, if_false, reduceIte, Bool.not_eq_true', decide_eq_false_iff_not, Bool.not_true, Bool.not_false, exists_eq_left', true_and, and_true, Option.some.injEq, reduceCtorEq, decide_true, decide_false, not_true_eq_false, not_false_eq_true, sizeLine_eq, Nat.reduceLeDiff, Bool.or_false, Bool.or_true, Bool.false_or, Bool.true_or, wp1, wp2, w_par, w_par2, w_tsl, w_nopart, w_part, w_exI]
        rw [List.append_nil] at q
        exact q p H2 (s1.trans s2) np ep
      refine ⟨.ref a, rfl, a, rfl, ?_⟩
      have start : ∃ (p : Addr) (z : Option V) (b1 b3 : List Addr), [some (V.ref a), some (V.int dp), some (V.ref p0), none] = [some (.ref a), some (.int dp), some (.ref p), z] ∧ Same H1 H1 ∧ H1 p = some (.lst ((pre ++ b1).map V.ref)) ∧ H p = none ∧ bs = b1 ++ b3 ∧ Reps H1 (ds.drop 0) (va.drop 0) b3 := ⟨p0, none, [], bs, rfl, Same.refl _, by rw [List.append_nil]; exact ep0, np0, rfl, rs⟩
      rcases ea with ea | ea
      · exact Or.inl ⟨⟨va, Or.inl (Or.inl ea)⟩, for_list (K := K) (a := a) (xs := va) (fun i σ H2 => ∃ (p : Addr) (z : Option V) (b1 b3 : List Addr), σ = [some (.ref a), some (.int dp), some (.ref p), z] ∧ Same H1 H2 ∧ H2 p = some (.lst ((pre ++ b1).map V.ref)) ∧ H p = none ∧ bs = b1 ++ b3 ∧ Reps H1 (ds.drop i) (va.drop i) b3) start (fun i σ H2 _ ⟨_, _, _, _, _, s2, _⟩ => Or.inl (Or.inl (s2 _ _ ea))) step fin⟩
      · exact Or.inr ⟨⟨va, Or.inl (Or.inl ea)⟩, for_tup (K := K) (a := a) (xs := va) (fun i σ H2 => ∃ (p : Addr) (z : Option V) (b1 b3 : List Addr), σ = [some (.ref a), some (.int dp), some (.ref p), z] ∧ Same H1 H2 ∧ H2 p = some (.lst ((pre ++ b1).map V.ref)) ∧ H p = none ∧ bs = b1 ++ b3 ∧ Reps H1 (ds.drop i) (va.drop i) b3) start (fun i σ H2 _ ⟨_, _, _, _, _, s2, _⟩ => Or.inl (Or.inl (s2 _ _ ea))) step fin⟩
    cases d with
    | lst ds =>
      simp only [Rep] at hv
      obtain ⟨a, va, bs, rfl, ea, rs, rfl, hl⟩ := hv
      simp only [dep] at hd
      simp only [w_seq, w_next, w_ret, w_asg, w_ifs, w_drop, w_brk, w_cont, w_name, w_var, w_c, w_op, w_un, w_I, w_I0, w_U, w_eq, w_scII, w_scBB, w_scSS, w_scNN, w_zi, w_zb, w_zn, w_zs, V.int.injEq, V.bl.injEq, V.str.injEq, V.ref.injEq, w_ne, w_test, w_B, w_and, w_or, w_not, w_andV, w_orV, w_notV, w_if, w_isN, w_nil, w_cons, w_cb, w_call, w_tup, w_lst, w_sub, w_intI, w_intB, w_isTyH, w_typ, w_isH, w_ixH, w_lenH, w_absH, w_listH, w_strH, w_bm, w_chain, w_exB, w_exV, w_start, k_ii, k_ib, k_is, k_il, k_it, k_bi, k_bb, k_bs, k_bl, k_bt, k_ni, k_nb, k_ns, k_nl, k_nt, k_si, k_sb, k_ss, k_sl, k_st, k_li, k_lb, k_ls, k_ll, k_lt, k_ti, k_tb, k_ts, k_tl, k_tt, w_st1, w_st2, w_st3, w_st5, atI_s0, atI_s1, atI_s2, atI_s3, atI_s4, atI_s5, List.map_cons, List.map_nil, List.length_cons, List.length_nil, List.replicate, List.cons_append, List.nil_append, List.append_nil, List.getElem?_cons_zero, List.getElem?_cons_succ, List.set_cons_zero, List.set_cons_succ, Nat.sub_self, Nat.reduceAdd, Nat.reduceSub, List.replicate_zero, decide_eq_true_eq, Bool.true_eq_false, Bool.false_eq_true, if_true, if_false, reduceIte, Bool.not_eq_true', decide_eq_false_iff_not, Bool.not_true, Bool.not_false, exists_eq_left', true_and, and_true, Option.some.injEq, reduceCtorEq, decide_true, decide_false, not_true_eq_false, not_false_eq_true, sizeLine_eq, Nat.reduceLeDiff, Bool.or_false, Bool.or_true, Bool.false_or, Bool.true_or, wp1, wp2, w_par, w_par2, w_tsl, w_nopart, w_part, w_exI, w_zl ea, dp0]
      intro p hp
      have s1 := same_new (o := .lst []) hp
      simp only [w_seq, w_next, w_ret, w_asg, w_ifs, w_drop, w_brk, w_cont, w_name, w_var, w_c, w_op, w_un, w_I, w_I0, w_U, w_eq, w_scII, w_scBB, w_scSS, w_scNN, w_zi, w_zb, w_zn, w_zs, V.int.injEq, V.bl.injEq, V.str.injEq, V.ref.injEq, w_ne, w_test, w_B, w_and, w_or, w_not, w_andV, w_orV, w_notV, w_if, w_isN, w_nil, w_cons, w_cb, w_call, w_tup, w_lst, w_sub, w_intI, w_intB, w_isTyH, w_typ, w_isH, w_ixH, w_lenH, w_absH, w_listH, w_strH, w_bm, w_chain, w_exB, w_exV, w_start, k_ii, k_ib, k_is, k_il, k_it, k_bi, k_bb, k_bs, k_bl, k_bt, k_ni, k_nb, k_ns, k_nl, k_nt, k_si, k_sb, k_ss, k_sl, k_st, k_li, k_lb, k_ls, k_ll, k_lt, k_ti, k_tb, k_ts, k_tl, k_tt, w_st1, w_st2, w_st3, w_st5, atI_s0, atI_s1, atI_s2, atI_s3, atI_s4, atI_s5, List.map_cons, List.map_nil, List.length_cons, List.length_nil, List.replicate, List.cons_append, List.nil_append, List.append_nil, List.getElem?_cons_zero, List.getElem?_cons_succ, List.set_cons_zero, List.set_cons_succ, Nat.sub_self, Nat.reduceAdd, Nat.reduceSub, List.replicate_zero, decide_eq_true_eq, Bool.true_eq_false, Bool.false_eq_true, if_true, if_false, reduceIte, Bool.not_eq_true', decide_eq_false_iff_not, Bool.not_true, Bool.not_false, exists_eq_left', true_and, and_true, Option.some.injEq, reduceCtorEq, decide_true, decide_false, not_true_eq_false, not_false_eq_true, sizeLine_eq, Nat.reduceLeDiff, Bool.or_false, Bool.or_true, Bool.false_or, Bool.true_or, wp1, wp2, w_par, w_par2, w_tsl, w_nopart, w_part, w_exI, w_zl (s1 _ _ ea), w_tyL upd_same, w_append upd_same]
      refine ⟨by decide, ?_⟩
      rw [upd_upd]
      have s2 := same_new (o := .lst [V.ref a]) hp
      intro p1 hp1
      have s3 := s2.trans (same_new (o := .tup [V.ty "list", V.ty "tuple"]) hp1)
      simp only [w_seq, w_next, w_ret, w_asg, w_ifs, w_drop, w_brk, w_cont, w_name, w_var, w_c, w_op, w_un, w_I, w_I0, w_U, w_eq, w_scII, w_scBB, w_scSS, w_scNN, w_zi, w_zb, w_zn, w_zs, V.int.injEq, V.bl.injEq, V.str.injEq, V.ref.injEq, w_ne, w_test, w_B, w_and, w_or, w_not, w_andV, w_orV, w_notV, w_if, w_isN, w_nil, w_cons, w_cb, w_call, w_tup, w_lst, w_sub, w_intI, w_intB, w_isTyH, w_typ, w_isH, w_ixH, w_lenH, w_absH, w_listH, w_strH, w_bm, w_chain, w_exB, w_exV, w_start, k_ii, k_ib, k_is, k_il, k_it, k_bi, k_bb, k_bs, k_bl, k_bt, k_ni, k_nb, k_ns, k_nl, k_nt, k_si, k_sb, k_ss, k_sl, k_st, k_li, k_lb, k_ls, k_ll, k_lt, k_ti, k_tb, k_ts, k_tl, k_tt, w_st1, w_st2, w_st3, w_st5, atI_s0, atI_s1, atI_s2, atI_s3, atI_s4, atI_s5, List.map_cons, List.map_nil, List.length_cons, List.length_nil, List.replicate, List.cons_append, List.nil_append, List.append_nil, List.getElem?_cons_zero, List.getElem?_cons_succ, List.set_cons_zero, List.set_cons_succ, Nat.sub_self, Nat.reduceAdd, Nat.reduceSub, List.replicate_zero, decide_eq_true_eq, Bool.true_eq_false, Bool.false_eq_true, if_true, if_false, reduceIte, Bool.not_eq_true', decide_eq_false_iff_not, Bool.not_true, Bool.not_false, exists_eq_left', true_and, and_true, Option.some.injEq, reduceCtorEq, decide_true, decide_false, not_true_eq_false, not_false_eq_true, sizeLine_eq, Nat.reduceLeDiff, Bool.or_false, Bool.or_true, Bool.false_or, Bool.true_or, wp1, wp2, w_par, w_par2, w_tsl, w_nopart, w_part, w_exI, w_isTH upd_same, w_zl (s3 _ _ ea)]
      have hne : p ≠ p1 := fun e => by
        rw [e, upd_same] at hp1
        cases hp1
      refine loop a va ds bs [a] p _ (by omega) s3 hp ?_ (Or.inl (s3 _ _ ea)) (reps_same s3 rs) hz q
      rw [upd_ne hne, upd_same]
      rfl
    | tup ds =>
      simp only [Rep] at hv
      obtain ⟨a, va, bs, rfl, ea, rs, rfl, hl⟩ := hv
      simp only [dep] at hd
      simp only [w_seq, w_next, w_ret, w_asg, w_ifs, w_drop, w_brk, w_cont, w_name, w_var, w_c, w_op, w_un, w_I, w_I0, w_U, w_eq, w_scII, w_scBB, w_scSS, w_scNN, w_zi, w_zb, w_zn, w_zs, V.int.injEq, V.bl.injEq, V.str.injEq, V.ref.injEq, w_ne, w_test, w_B, w_and, w_or, w_not, w_andV, w_orV, w_notV, w_if, w_isN, w_nil, w_cons, w_cb, w_call, w_tup, w_lst, w_sub, w_intI, w_intB, w_isTyH, w_typ, w_isH, w_ixH, w_lenH, w_absH, w_listH, w_strH, w_bm, w_chain, w_exB, w_exV, w_start, k_ii, k_ib, k_is, k_il, k_it, k_bi, k_bb, k_bs, k_bl, k_bt, k_ni, k_nb, k_ns, k_nl, k_nt, k_si, k_sb, k_ss, k_sl, k_st, k_li, k_lb, k_ls, k_ll, k_lt, k_ti, k_tb, k_ts, k_tl, k_tt, w_st1, w_st2, w_st3, w_st5, atI_s0, atI_s1, atI_s2, atI_s3, atI_s4, atI_s5, List.map_cons, List.map_nil, List.length_cons, List.length_nil, List.replicate, List.cons_append, List.nil_append, List.append_nil, List.getElem?_cons_zero, List.getElem?_cons_succ, List.set_cons_zero, List.set_cons_succ, Nat.sub_self, Nat.reduceAdd, Nat.reduceSub, List.replicate_zero, decide_eq_true_eq, Bool.true_eq_false, Bool.false_eq_true, if_true, if_false, reduceIte, Bool.not_eq_true', decide_eq_false_iff_not, Bool.not_true, Bool.not_false, exists_eq_left', true_and, and_true, Option.some.injEq, reduceCtorEq, decide_true, decide_false, not_true_eq_false, not_false_eq_true, sizeLine_eq, Nat.reduceLeDiff, Bool.or_false, Bool.or_true, Bool.false_or, Bool.true_or, wp1, wp2, w_par, w_par2, w_tsl, w_nopart, w_part, w_exI, w_zt ea, dp0]
      intro p hp
      have s1 := same_new (o := .lst []) hp
      simp only [w_seq, w_next, w_ret, w_asg, w_ifs, w_drop, w_brk, w_cont, w_name, w_var, w_c, w_op, w_un, w_I, w_I0, w_U, w_eq, w_scII, w_scBB, w_scSS, w_scNN, w_zi, w_zb, w_zn, w_zs, V.int.injEq, V.bl.injEq, V.str.injEq, V.ref.injEq, w_ne, w_test, w_B, w_and, w_or, w_not, w_andV, w_orV, w_notV, w_if, w_isN, w_nil, w_cons, w_cb, w_call, w_tup, w_lst, w_sub, w_intI, w_intB, w_isTyH, w_typ, w_isH, w_ixH, w_lenH, w_absH, w_listH, w_strH, w_bm, w_chain, w_exB, w_exV, w_start, k_ii, k_ib, k_is, k_il, k_it, k_bi, k_bb, k_bs, k_bl, k_bt, k_ni, k_nb, k_ns, k_nl, k_nt, k_si, k_sb, k_ss, k_sl, k_st, k_li, k_lb, k_ls, k_ll, k_lt, k_ti, k_tb, k_ts, k_tl, k_tt, w_st1, w_st2, w_st3, w_st5, atI_s0, atI_s1, atI_s2, atI_s3, atI_s4, atI_s5, List.map_cons, List.map_nil, List.length_cons, List.length_nil, List.replicate, List.cons_append, List.nil_append, List.append_nil, List.getElem?_cons_zero, List.getElem?_cons_succ, List.set_cons_zero, List.set_cons_succ, Nat.sub_self, Nat.reduceAdd, Nat.reduceSub, List.replicate_zero, decide_eq_true_eq, Bool.true_eq_false, Bool.false_eq_true, if_true, if_false, reduceIte, Bool.not_eq_true', decide_eq_false_iff_not, Bool.not_true, Bool.not_false, exists_eq_left', true_and, and_true, Option.some.injEq, reduceCtorEq, decide_true, decide_false, not_true_eq_false, not_false_eq_true, sizeLine_eq, Nat.reduceLeDiff, Bool.or_false, Bool.or_true, Bool.false_or, Bool.true_or, wp1, wp2, w_par, w_par2, w_tsl, w_nopart, w_part, w_exI, w_zt (s1 _ _ ea)]
      intro p1 hp1
      have s3 := s1.trans (same_new (o := .tup [V.ty "list", V.ty "tuple"]) hp1)
      simp only [w_seq, w_next, w_ret, w_asg, w_ifs, w_drop, w_brk, w_cont, w_name, w_var, w_c, w_op, w_un, w_I, w_I0, w_U, w_eq, w_scII, w_scBB, w_scSS, w_scNN, w_zi, w_zb, w_zn, w_zs, V.int.injEq, V.bl.injEq, V.str.injEq, V.ref.injEq, w_ne, w_test, w_B, w_and, w_or, w_not, w_andV, w_orV, w_notV, w_if, w_isN, w_nil, w_cons, w_cb, w_call, w_tup, w_lst, w_sub, w_intI, w_intB, w_isTyH, w_typ, w_isH, w_ixH, w_lenH, w_absH, w_listH, w_strH, w_bm, w_chain, w_exB, w_exV, w_start, k_ii, k_ib, k_is, k_il, k_it, k_bi, k_bb, k_bs, k_bl, k_bt, k_ni, k_nb, k_ns, k_nl, k_nt, k_si, k_sb, k_ss, k_sl, k_st, k_li, k_lb, k_ls, k_ll, k_lt, k_ti, k_tb, k_ts, k_tl, k_tt, w_st1, w_st2, w_st3, w_st5, atI_s0, atI_s1, atI_s2, atI_s3, atI_s4, atI_s5, List.map_cons, List.map_nil, List.length_cons, List.length_nil, List.replicate, List.cons_append, List.nil_append, List.append_nil, List.getElem?_cons_zero, List.getElem?_cons_succ, List.set_cons_zero, List.set_cons_succ, Nat.sub_self, Nat.reduceAdd, Nat.reduceSub, List.replicate_zero, decide_eq_true_eq, Bool.true_eq_false, Bool.false_eq_true, if_true, if_false, reduceIte, Bool.not_eq_true', decide_eq_false_iff_not, Bool.not_true, Bool.not_false, exists_eq_left', true_and, and_true, Option.some.injEq, reduceCtorEq, decide_true, decide_false, not_true_eq_false, not_false_eq_true, sizeLine_eq, Nat.reduceLeDiff, Bool.or_false, Bool.or_true, Bool.false_or, Bool.true_or, wp1, wp2, w_par, w_par2, w_tsl, w_nopart, w_part, w_exI, w_isTH upd_same, w_zt (s3 _ _ ea)]
      have hne : p ≠ p1 := fun e => by
        rw [e, upd_same] at hp1
        cases hp1
      refine loop a va ds as [] p _ (by omega) s3 hp ?_ (Or.inr (s3 _ _ ea)) (reps_same s3 rs) hz q
      rw [upd_ne hne, upd_same]
      rfl
    | _ =>
      simp only [Rep] at hv
      obtain ⟨rfl, rfl⟩ := hv
      simp only [w_seq, w_next, w_ret, w_asg, w_ifs, w_drop, w_brk, w_cont, w_name, w_var, w_c, w_op, w_un, w_I, w_I0, w_U, w_eq, w_scII, w_scBB, w_scSS, w_scNN, w_zi, w_zb, w_zn, w_zs, V.int.injEq, V.bl.injEq, V.str.injEq, V.ref.injEq, w_ne, w_test, w_B, w_and, w_or, w_not, w_andV, w_orV, w_notV, w_if, w_isN, w_nil, w_cons, w_cb, w_call, w_tup, w_lst, w_sub, w_intI, w_intB, w_isTyH, w_typ, w_isH, w_ixH, w_lenH, w_absH, w_listH, w_strH, w_bm, w_chain, w_exB, w_exV, w_start, k_ii, k_ib, k_is, k_il, k_it, k_bi, k_bb, k_bs, k_bl, k_bt, k_ni, k_nb, k_ns, k_nl, k_nt, k_si, k_sb, k_ss, k_sl, k_st, k_li, k_lb, k_ls, k_ll, k_lt, k_ti, k_tb, k_ts, k_tl, k_tt, w_st1, w_st2, w_st3, w_st5, atI_s0, atI_s1, atI_s2, atI_s3, atI_s4, atI_s5, List.map_cons, List.map_nil, List.length_cons, List.length_nil, List.replicate, List.cons_append, List.nil_append, List.append_nil, List.getElem?_cons_zero, List.getElem?_cons_succ, List.set_cons_zero, List.set_cons_succ, Nat.sub_self, Nat.reduceAdd, Nat.reduceSub, List.replicate_zero, decide_eq_true_eq, Bool.true_eq_false, Bool.false_eq_true, if_true, if_false, reduceIte, Bool.not_eq_true', decide_eq_false_iff_not, Bool.not_true, Bool.not_false, exists_eq_left', true_and, and_true, Option.some.injEq, reduceCtorEq, decide_true, decide_false, not_true_eq_false, not_false_eq_true, sizeLine_eq, Nat.reduceLeDiff, Bool.or_false, Bool.or_true, Bool.false_or, Bool.true_or, wp1, wp2, w_par, w_par2, w_tsl, w_nopart, w_part, w_exI, dp0]
      intro p hp p1 hp1
      have hne : p ≠ p1 := fun e => by
        rw [e, upd_same] at hp1
        cases hp1
      simp only [w_seq, w_next, w_ret, w_asg, w_ifs, w_drop, w_brk, w_cont, w_name, w_var, w_c, w_op, w_un, w_I, w_I0, w_U, w_eq, w_scII, w_scBB, w_scSS, w_scNN, w_zi, w_zb, w_zn, w_zs, V.int.injEq, V.bl.injEq, V.str.injEq, V.ref.injEq, w_ne, w_test, w_B, w_and, w_or, w_not, w_andV, w_orV, w_notV, w_if, w_isN, w_nil, w_cons, w_cb, w_call, w_tup, w_lst, w_sub, w_intI, w_intB, w_isTyH, w_typ, w_isH, w_ixH, w_lenH, w_absH, w_listH, w_strH, w_bm, w_chain, w_exB, w_exV, w_start, k_ii, k_ib, k_is, k_il, k_it, k_bi, k_bb, k_bs, k_bl, k_bt, k_ni, k_nb, k_ns, k_nl, k_nt, k_si, k_sb, k_ss, k_sl, k_st, k_li, k_lb, k_ls, k_ll, k_lt, k_ti, k_tb, k_ts, k_tl, k_tt, w_st1, w_st2, w_st3, w_st5, atI_s0, atI_s1, atI_s2, atI_s3, atI_s4, atI_s5, List.map_cons, List.map_nil, List.length_cons, List.length_nil, List.replicate, List.cons_append, List.nil_append, List.append_nil, List.getElem?_cons_zero, List.getElem?_cons_succ, List.set_cons_zero, List.set_cons_succ, Nat.sub_self, Nat.reduceAdd, Nat.reduceSub, List.replicate_zero, decide_eq_true_eq, Bool.true_eq_false, Bool.false_eq_true, if_true, if_false, reduceIte, Bool.not_eq_true', decide_eq_false_iff_not, Bool.not_true, Bool.not_false, exists_eq_left', true_and, and_true, Option.some.injEq, reduceCtorEq, decide_true, decide_false, not_true_eq_false, not_false_eq_true, sizeLine_eq, Nat.reduceLeDiff, Bool.or_false, Bool.or_true, Bool.false_or, Bool.true_or, wp1, wp2, w_par, w_par2, w_tsl, w_nopart, w_part, w_exI, w_isTH upd_same]
      refine q p _ ((same_new hp).trans (same_new hp1)) hp ?_
      rw [upd_ne hne, upd_same]
      rfl
theorem ok_lists (F : Fun K "_law_lists" "_law_lists" s_law_lists f fd) (T : TxtC K mg A tm) (gm : mg "_law_lists" = some (.ref f)) (b : Binds K fd ["value", "depth"] []) : ∀ n : Nat, FnOk P w K mg base CX0 (n + 1) f fd ["value", "depth"] (sp_lists n)
  | 0 => (ok_lists_step F T 0 0 ⟨f, fd, ⟨fun vs H Q E h => by
      obtain ⟨d, v, as, k, _, h, _⟩ := h
      exact absurd h (Nat.not_lt_zero _), fun A outer s H args us vs Q E _ _ _ _ h => by
      obtain ⟨d, v, as, k, _, h, _⟩ := h
      exact absurd h (Nat.not_lt_zero _)⟩, gm, F.kp, b⟩)
  | n + 1 => ok_lists_step F T (n + 1) (n + 1) ⟨f, fd, (ok_lists F T gm b n).imp fun vs H Q E h => by
      obtain ⟨d, v, as, k, e, h1, h2, h3⟩ := h
      exact ⟨d, v, as, k, e, Nat.le_of_lt_succ h1, by omega, h3⟩, gm, F.kp, b⟩
end
end Mt


namespace Mt
open PySem PySem.Spec PyProof.Rows L2 L2H
abbrev s_law_apart : Stmt := topS 32
theorem sc_law_apart : FnScope ["value", "found", "sizes", "k", "row"] ["value"] (defScope s_law_apart) := ⟨rfl, rfl, rfl, by decide +kernel, rfl, by decide +kernel, by decide +kernel⟩

mutual
theorem rep_sz {H : Hp} : ∀ (d : D) (v : V) (as : List Addr), Rep H d v as → ∀ a ∈ as, ∃ xs, H a = some (.lst xs) ∧ xs.length < 1000000
  | .non, v, as, h => by simp only [Rep] at h; rw [h.2]; intro a ha; cases ha
  | .bl b, v, as, h => by simp only [Rep] at h; rw [h.2]; intro a ha; cases ha
  | .int b, v, as, h => by simp only [Rep] at h; rw [h.2]; intro a ha; cases ha
  | .str b, v, as, h => by simp only [Rep] at h; rw [h.2]; intro a ha; cases ha
  | .lst ds, v, as, h => by
    simp only [Rep] at h
    obtain ⟨a, vs, bs, e1, e2, e3, e4, e5⟩ := h
    subst e4
    intro b hb
    cases hb with
    | head => exact ⟨_, e2, by rw [reps_len e3]; exact e5⟩
    | tail _ hb => exact reps_sz ds vs bs e3 b hb
  | .tup ds, v, as, h => by
    simp only [Rep] at h
    obtain ⟨a, vs, bs, e1, e2, e3, e4, _⟩ := h
    subst e4
    exact reps_sz ds vs as e3
theorem reps_sz {H : Hp} : ∀ (ds : List D) (vs : List V) (as : List Addr), Reps H ds vs as → ∀ a ∈ as, ∃ xs, H a = some (.lst xs) ∧ xs.length < 1000000
  | [], vs, as, h => by simp only [Reps] at h; rw [h.2]; intro a ha; cases ha
  | d :: ds, vs, as, h => by
    simp only [Reps] at h
    obtain ⟨v, r, bs, cs, e1, e2, e3, e4⟩ := h
    subst e4
    intro a ha
    rcases List.mem_append.mp ha with ha | ha
    · exact rep_sz d v bs e2 a ha
    · exact reps_sz ds r cs e3 a ha
end
/-- the items of the list at a -/
def lsAt (H : Hp) (a : Addr) : List V := match H a with
  | some (.lst xs) => xs
  | _ => []
theorem paired_same {α : Type} {F : α → α → Prop} : ∀ {l : List α}, (∀ x ∈ l, F x x) → Paired F l l
  | [], _ => .nil
  | x :: l, h => .cons (h x (List.mem_cons_self ..)) (paired_same fun y hy => h y (List.mem_cons_of_mem _ hy))
section
variable {P : Program} {w : World} {K : PySem.W.Frag} {mg : Str → Option Value} {base : Heap} {f : Addr} {fd : FuncData} {A : Ad} {tm : Tok}
/-- the lists of a value are apart; they are longer afterwards -/
def sp_apart : Sp := fun vs H Q _ => ∃ (d : D) (v : V) (as : List Addr), vs = [v] ∧ dep d ≤ 4 ∧ Rep H d v as ∧ as.Nodup ∧ as.length < 100000 ∧ ∀ H', (∀ a o, H a = some o → a ∉ as → H' a = some o) → Q (.bl true) H'
theorem ok_apart (F : Fun K "_law_apart" "_law_apart" s_law_apart f fd) (T : TxtC K mg A tm) (C_law_lists : Cal P w K mg base "_law_lists" 5 ["value", "depth"] (sp_lists 4)) :
    FnOk P w K mg base CX0 6 f fd ["value"] sp_apart := by
  refine F.ok sc_law_apart (fun vs H Q E h => ?_) (fun cdv Ar outer s H vs Q E hr h => ?_)
  · obtain ⟨d, v, as, rfl, _⟩ := h
    rfl
  · obtain ⟨d, v, as, rfl, hd, hv, hn, hz, q⟩ := h
    refine ⟨_, (pss_cons (ps_set (i := 1) sc_law_apart.nd rfl (.inl rfl) (p_call C_law_lists hr (pa_cons (pv 0) (pa_cons pe_int pa_nil)) (by omega)))
      (pss_cons (ps_setLc (i := 2) (own := [("row", 4)]) (g := gName 4) rfl sc_law_apart.nd rfl rfl (sw_true rfl rfl rfl (by decide +kernel)) (pi_list (pv 1)) (blkOk_by (N := ["value", "found", "sizes", "k", "row"]) (sc := defScope s_law_apart) (by decide +kernel)) (fun _ _ _ _ _ => pg_name (i := 4) sc_law_apart.nd rfl (.inl rfl)) (fun _ _ _ _ _ => pts_nil) (fun _ _ _ _ _ => (pe_callB call_lenH (by rfl) T.m_len (by decide +kernel) (pa_cons (pv 4) pa_nil))))
      (pss_cons (ps_for PassesOwn.never rfl (pi_range1 (by rfl) T.m_range (pa_cons (pe_callB call_lenH (by rfl) T.m_len (by decide +kernel) (pa_cons (pv 1) pa_nil)) pa_nil)) (pg_name (i := 3) sc_law_apart.nd rfl (.inl rfl)) (pss_cons (ps_set (i := 4) sc_law_apart.nd rfl (.inl rfl) (pe_ix ix_H (pv 1) (pv 3) (fun _ _ => rfl)))
      (pss_one (ps_expr (pe_bm PySem.F.plainAttrs_list PySem.F.slot_list_append PySem.F.type_list_append mt_append (pv 4) (pa_cons pe_int pa_nil))))))
      (pss_one (ps_ret (pe_cmpR (op_eqV hr.units) (pe_lc (own := [("row", 4)]) (g := gName 4) rfl sc_law_apart.nd (pi_list (pv 1)) (blkOk_by (N := ["value", "found", "sizes", "k", "row"]) (sc := defScope s_law_apart) (by decide +kernel)) (fun _ _ _ _ _ => pg_name (i := 4) sc_law_apart.nd rfl (.inl rfl)) (fun _ _ _ _ _ => pts_nil) (fun _ _ _ _ _ => (pe_op op_sub (pe_callB call_lenH (by rfl) T.m_len (by decide +kernel) (pa_cons (pv 4) pa_nil)) pe_int))) (pv 2) (nomark _))))))), ?_⟩
    have hL : ∀ a ∈ as, H a = some (.lst (lsAt H a)) ∧ (lsAt H a).length < 1000000 := fun a ha => by
      obtain ⟨xs, e, z⟩ := rep_sz d v as hv a ha
      have : lsAt H a = xs := by
        unfold lsAt
        rw [e]
      rw [this]
      exact ⟨e, z⟩
    have inj : ∀ {i j : Nat} {a : Addr}, as[i]? = some a → as[j]? = some a → i = j := fun {i j a} hi hj =>
      (List.getElem?_inj (List.getElem?_eq_some_iff.mp hi).1 hn).mp (hi.trans hj.symm)
    simp only [w_seq, w_next, w_ret, w_asg, w_ifs, w_drop, w_brk, w_cont, w_name, w_var, w_c, w_op, w_un, w_I, w_I0, w_U, w_eq, w_scII, w_scBB, w_scSS, w_scNN, w_zi, w_zb, w_zn, w_zs, V.int.injEq, V.bl.injEq, V.str.injEq, V.ref.injEq, w_ne, w_test, w_B, w_and, w_or, w_not, w_andV, w_orV, w_notV, w_if, w_isN, w_nil, w_cons, w_cb, w_call, w_tup, w_lst, w_sub, w_intI, w_intB, w_isTyH, w_typ, w_isH, w_ixH, w_lenH, w_absH, w_listH, w_strH, w_bm, w_chain, w_exB, w_exV, w_start, k_ii, k_ib, k_is, k_il, k_it, k_bi, k_bb, k_bs, k_bl, k_bt, k_ni, k_nb, k_ns, k_nl, k_nt, k_si, k_sb, k_ss, k_sl, k_st, k_li, k_lb, k_ls, k_ll, k_lt, k_ti, k_tb, k_ts, k_tl, k_tt, w_st1, w_st2, w_st3, w_st5, atI_s0, atI_s1, atI_s2, atI_s3, atI_s4, atI_s5, List.map_cons, List.map_nil, List.length_cons, List.length_nil, List.replicate, List.cons_append, List.nil_append, List.append_nil, List.getElem?_cons_zero, List.getElem?_cons_succ, List.set_cons_zero, List.set_cons_succ, Nat.sub_self, Nat.reduceAdd, Nat.reduceSub, List.replicate_zero, decide_eq_true_eq, Bool.true_eq_false, Bool.false_eq_true, if_true, if_false, reduceIte, Bool.not_eq_true', decide_eq_false_iff_not, Bool.not_true, Bool.not_false, exists_eq_left', true_and, and_true, Option.some.injEq, reduceCtorEq, decide_true, decide_false, not_true_eq_false, not_false_eq_true, sizeLine_eq, Nat.reduceLeDiff, Bool.or_false, Bool.or_true, Bool.false_or, Bool.true_or, wp1, wp2, w_par, w_par2, w_tsl, w_nopart, w_part, w_exI]
    refine ⟨d, v, as, 20, rfl, hd, by decide, by decide, hv, hz, fun p H1 s1 np ep => ?_⟩
    have pas : p ∉ as := fun h => by
      rw [(hL p h).1] at np
      cases np
    have atx : ∀ {k : Nat} {x : V}, (as.map V.ref)[k]? = some x → ∃ a, x = .ref a ∧ as[k]? = some a ∧ a ∈ as := fun {k x} hk => by
      rw [List.getElem?_map] at hk
      obtain ⟨a, ha, rfl⟩ := Option.map_eq_some_iff.mp hk
      exact ⟨a, rfl, ha, List.mem_of_getElem? ha⟩
    refine lcF_list (a := p) (xs := as.map V.ref) (ds := as.map fun a => D.int (lsAt H a).length) (fun H1 _ R r => ⟨_, rfl, r⟩) (Or.inl (Or.inl ep)) (by rw [List.length_map, List.length_map]) (by rw [List.length_map]; omega) (fun k x d' hk hd' H2 s2 R r => ?_) H1 (Same.refl _) _ (fun y2 H2 f2 => ?_)
    · obtain ⟨a, rfl, ha, hm⟩ := atx hk
      rw [List.getElem?_map, ha] at hd'
      cases hd'
      simp only [w_seq, w_next, w_ret, w_asg, w_ifs, w_drop, w_brk, w_cont, w_name, w_var, w_c, w_op, w_un, w_I, w_I0, w_U, w_eq, w_scII, w_scBB, w_scSS, w_scNN, w_zi, w_zb, w_zn, w_zs, V.int.injEq, V.bl.injEq, V.str.injEq, V.ref.injEq, w_ne, w_test, w_B, w_and, w_or, w_not, w_andV, w_orV, w_notV, w_if, w_isN, w_nil, w_cons, w_cb, w_call, w_tup, w_lst, w_sub, w_intI, w_intB, w_isTyH, w_typ, w_isH, w_ixH, w_lenH, w_absH, w_listH, w_strH, w_bm, w_chain, w_exB, w_exV, w_start, k_ii, k_ib, k_is, k_il, k_it, k_bi, k_bb, k_bs, k_bl, k_bt, k_ni, k_nb, k_ns, k_nl, k_nt, k_si, k_sb, k_ss, k_sl, k_st, k_li, k_lb, k_ls, k_ll, k_lt, k_ti, k_tb, k_ts, k_tl, k_tt, w_st1, w_st2, w_st3, w_st5, atI_s0, atI_s1, atI_s2, atI_s3, atI_s4, atI_s5, List.map_cons, List.map_nil, List.length_cons, List.length_nil, List.replicate, List.cons_append, List.nil_append, List.append_nil, List.getElem?_cons_zero, List.getElem?_cons_succ, List.set_cons_zero, List.set_cons_succ, Nat.sub_self, Nat.reduceAdd, Nat.reduceSub, List.replicate_zero, decide_eq_true_eq, Bool.true_eq_false, Bool.false_eq_true, if_true, if_false, reduceIte, Bool.not_eq_true', decide_eq_false_iff_not, Bool.not_true, Bool.not_false, exists_eq_left', true_and, and_true, Option.some.injEq, reduceCtorEq, decide_true, decide_false, not_true_eq_false, not_false_eq_true, sizeLine_eq, Nat.reduceLeDiff, Bool.or_false, Bool.or_true, Bool.false_or, Bool.true_or, wp1, wp2, w_par, w_par2, w_tsl, w_nopart, w_part, w_exI, seqAt_l (s2 _ _ (s1 _ _ (hL a hm).1))]
      exact r _ _ (Fr.int (Same.refl _))
    obtain ⟨s2, cs2, r2, _, fr2⟩ := f2
    have e2' : (D.lst (as.map fun a => D.int (lsAt H a).length)) = dRow (as.map fun a => ((lsAt H a).length : Int)) := by
      unfold dRow
      rw [List.map_map]
      rfl
    rw [e2'] at r2
    obtain ⟨q2, rfl, e2, _, rfl⟩ := rep_row r2
    have nq2 : H1 q2 = none := fr2 q2 (List.mem_cons_self ..)
    have qas : q2 ∉ as := fun h => by
      rw [s1 _ _ (hL q2 h).1] at nq2
      cases nq2
    refine for_rng ?_
    simp only [w_seq, w_next, w_ret, w_asg, w_ifs, w_drop, w_brk, w_cont, w_name, w_var, w_c, w_op, w_un, w_I, w_I0, w_U, w_eq, w_scII, w_scBB, w_scSS, w_scNN, w_zi, w_zb, w_zn, w_zs, V.int.injEq, V.bl.injEq, V.str.injEq, V.ref.injEq, w_ne, w_test, w_B, w_and, w_or, w_not, w_andV, w_orV, w_notV, w_if, w_isN, w_nil, w_cons, w_cb, w_call, w_tup, w_lst, w_sub, w_intI, w_intB, w_isTyH, w_typ, w_isH, w_ixH, w_lenH, w_absH, w_listH, w_strH, w_bm, w_chain, w_exB, w_exV, w_start, k_ii, k_ib, k_is, k_il, k_it, k_bi, k_bb, k_bs, k_bl, k_bt, k_ni, k_nb, k_ns, k_nl, k_nt, k_si, k_sb, k_ss, k_sl, k_st, k_li, k_lb, k_ls, k_ll, k_lt, k_ti, k_tb, k_ts, k_tl, k_tt, w_st1, w_st2, w_st3, w_st5, atI_s0, atI_s1, atI_s2, atI_s3, atI_s4, atI_s5, List.map_cons, List.map_nil, List.length_cons, List.length_nil, List.replicate, List.cons_append, List.nil_append, List.append_nil, List.getElem?_cons_zero, List.getElem?_cons_succ, List.set_cons_zero, List.set_cons_succ, Nat.sub_self, Nat.reduceAdd, Nat.reduceSub, List.replicate_zero, decide_eq_true_eq, Bool.true_eq_false, Bool.false_eq_true, if_true, if_false, reduceIte, Bool.not_eq_true', decide_eq_false_iff_not, Bool.not_true, Bool.not_false, exists_eq_left', true_and, and_true, Option.some.injEq, reduceCtorEq, decide_true, decide_false, not_true_eq_false, not_false_eq_true, sizeLine_eq, Nat.reduceLeDiff, Bool.or_false, Bool.or_true, Bool.false_or, Bool.true_or, wp1, wp2, w_par, w_par2, w_tsl, w_nopart, w_part, w_exI]
    refine ⟨_, seqAt_l (s2 _ _ ep), ?_⟩
    refine forN (n := (as.map V.ref).length) (by rw [List.length_map]; omega) (fun i σ H' => ∃ z4 z5 : Option V, σ = [some v, some (.ref p), some (.ref q2), z4, z5] ∧ (∀ b o, H2 b = some o → b ∉ as → H' b = some o) ∧ (∀ j a, as[j]? = some a → H' a = some (.lst (if j < i then lsAt H a ++ [.int 99] else lsAt H a))))
      ⟨none, none, rfl, fun b o e _ => e, fun j a ha => by
        rw [if_neg (Nat.not_lt_zero _)]
        exact s2 _ _ (s1 _ _ (hL a (List.mem_of_getElem? ha)).1)⟩ ?_ ?_
    · rintro i σ H3 hi ⟨z4, z5, rfl, k1, k2⟩
      rw [List.length_map] at hi
      obtain ⟨a, ha⟩ : ∃ a, as[i]? = some a := ⟨_, List.getElem?_eq_getElem hi⟩
      have ea := k2 i a ha
      rw [if_neg (Nat.lt_irrefl i)] at ea
      have ixv : atI (as.map V.ref) (i : Int) = some (.ref a) := atI_nat (by rw [List.getElem?_map, ha]; rfl)
      have lz := (hL a (List.mem_of_getElem? ha)).2
      simp only [w_seq, w_next, w_ret, w_asg, w_ifs, w_drop, w_brk, w_cont, w_name, w_var, w_c, w_op, w_un, w_I, w_I0, w_U, w_eq, w_scII, w_scBB, w_scSS, w_scNN, w_zi, w_zb, w_zn, w_zs, V.int.injEq, V.bl.injEq, V.str.injEq, V.ref.injEq, w_ne, w_test, w_B, w_and, w_or, w_not, w_andV, w_orV, w_notV, w_if, w_isN, w_nil, w_cons, w_cb, w_call, w_tup, w_lst, w_sub, w_intI, w_intB, w_isTyH, w_typ, w_isH, w_ixH, w_lenH, w_absH, w_listH, w_strH, w_bm, w_chain, w_exB, w_exV, w_start, k_ii, k_ib, k_is, k_il, k_it, k_bi, k_bb, k_bs, k_bl, k_bt, k_ni, k_nb, k_ns, k_nl, k_nt, k_si, k_sb, k_ss, k_sl, k_st, k_li, k_lb, k_ls, k_ll, k_lt, k_ti, k_tb, k_ts, k_tl, k_tt, w_st1, w_st2, w_st3, w_st5, atI_s0, atI_s1, atI_s2, atI_s3, atI_s4, atI_s5, List.map_cons, List.map_nil, List.length_cons, List.length_nil, List.replicate, List.cons_append, List.nil_append, List.append_nil, List.getElem?_cons_zero, List.getElem?_cons_succ, List.set_cons_zero, List.set_cons_succ, Nat.sub_self, Nat.reduceAdd, Nat.reduceSub, List.replicate_zero, decide_eq_true_eq, Bool.true_eq_false, Bool.false_eq_true, if_true, if_false, reduceIte, Bool.not_eq_true', decide_eq_false_iff_not, Bool.not_true, Bool.not_false, exists_eq_left', true_and, and_true, Option.some.injEq, reduceCtorEq, decide_true, decide_false, not_true_eq_false, not_false_eq_true, sizeLine_eq, Nat.reduceLeDiff, Bool.or_false, Bool.or_true, Bool.false_or, Bool.true_or, wp1, wp2, w_par, w_par2, w_tsl, w_nopart, w_part, w_exI, seqAt_l (k1 _ _ (s2 _ _ ep) pas), ixv, w_tyL ea, w_append ea]
      refine ⟨by omega, _, _, rfl, fun b o eb hb => ?_, fun j a' ha' => ?_⟩
      · rw [upd_ne (fun e => hb (by rw [e]; exact List.mem_of_getElem? ha))]
        exact k1 b o eb hb
      · by_cases e : a' = a
        · subst e
          have : j = i := inj ha' ha
          subst this
          rw [upd_same, if_pos (Nat.lt_succ_self _)]
        · rw [upd_ne e, k2 j a' ha']
          have : j ≠ i := fun z => by
            subst z
            rw [ha] at ha'
            exact e (Option.some.inj ha').symm
          by_cases h : j < i
          · rw [if_pos h, if_pos (by omega)]
          · rw [if_neg h, if_neg (by omega)]
    · rintro σ H3 ⟨z4, z5, rfl, k1, k2⟩
      have ep3 := k1 _ _ (s2 _ _ ep) pas
      simp only [w_seq, w_next, w_ret, w_asg, w_ifs, w_drop, w_brk, w_cont, w_name, w_var, w_c, w_op, w_un, w_I, w_I0, w_U, w_eq, w_scII, w_scBB, w_scSS, w_scNN, w_zi, w_zb, w_zn, w_zs, V.int.injEq, V.bl.injEq, V.str.injEq, V.ref.injEq, w_ne, w_test, w_B, w_and, w_or, w_not, w_andV, w_orV, w_notV, w_if, w_isN, w_nil, w_cons, w_cb, w_call, w_tup, w_lst, w_sub, w_intI, w_intB, w_isTyH, w_typ, w_isH, w_ixH, w_lenH, w_absH, w_listH, w_strH, w_bm, w_chain, w_exB, w_exV, w_start, k_ii, k_ib, k_is, k_il, k_it, k_bi, k_bb, k_bs, k_bl, k_bt, k_ni, k_nb, k_ns, k_nl, k_nt, k_si, k_sb, k_ss, k_sl, k_st, k_li, k_lb, k_ls, k_ll, k_lt, k_ti, k_tb, k_ts, k_tl, k_tt, w_st1, w_st2, w_st3, w_st5, atI_s0, atI_s1, atI_s2, atI_s3, atI_s4, atI_s5, List.map_cons, List.map_nil, List.length_cons, List.length_nil, List.replicate, List.cons_append, List.nil_append, List.append_nil, List.getElem?_cons_zero, List.getElem?_cons_succ, List.set_cons_zero, List.set_cons_succ, Nat.sub_self, Nat.reduceAdd, Nat.reduceSub, List.replicate_zero, decide_eq_true_eq, Bool.true_eq_false, Bool.false_eq_true, if_true, if_false, reduceIte, Bool.not_eq_true', decide_eq_false_iff_not, Bool.not_true, Bool.not_false, exists_eq_left', true_and, and_true, Option.some.injEq, reduceCtorEq, decide_true, decide_false, not_true_eq_false, not_false_eq_true, sizeLine_eq, Nat.reduceLeDiff, Bool.or_false, Bool.or_true, Bool.false_or, Bool.true_or, wp1, wp2, w_par, w_par2, w_tsl, w_nopart, w_part, w_exI]
      refine lcF_list (a := p) (xs := as.map V.ref) (ds := as.map fun a => D.int (lsAt H a).length) (fun H1 _ R r => ⟨_, rfl, r⟩) (Or.inl (Or.inl ep3)) (by rw [List.length_map, List.length_map]) (by rw [List.length_map]; omega) (fun k x d' hk hd' H4 s4 R r => ?_) H3 (Same.refl _) _ (fun y4 H4 f4 => ?_)
      · obtain ⟨a, rfl, ha, hm⟩ := atx hk
        rw [List.getElem?_map, ha] at hd'
        cases hd'
        have ea := k2 k a ha
        rw [if_pos (by rw [List.length_map]; exact (List.getElem?_eq_some_iff.mp ha).1)] at ea
        simp only [w_seq, w_next, w_ret, w_asg, w_ifs, w_drop, w_brk, w_cont, w_name, w_var, w_c, w_op, w_un, w_I, w_I0, w_U, w_eq, w_scII, w_scBB, w_scSS, w_scNN, w_zi, w_zb, w_zn, w_zs, V.int.injEq, V.bl.injEq, V.str.injEq, V.ref.injEq, w_ne, w_test, w_B, w_and, w_or, w_not, w_andV, w_orV, w_notV, w_if, w_isN, w_nil, w_cons, w_cb, w_call, w_tup, w_lst, w_sub, w_intI, w_intB, w_isTyH, w_typ, w_isH, w_ixH, w_lenH, w_absH, w_listH, w_strH, w_bm, w_chain, w_exB, w_exV, w_start, k_ii, k_ib, k_is, k_il, k_it, k_bi, k_bb, k_bs, k_bl, k_bt, k_ni, k_nb, k_ns, k_nl, k_nt, k_si, k_sb, k_ss, k_sl, k_st, k_li, k_lb, k_ls, k_ll, k_lt, k_ti, k_tb, k_ts, k_tl, k_tt, w_st1, w_st2, w_st3, w_st5, atI_s0, atI_s1, atI_s2, atI_s3, atI_s4, atI_s5, List.map_cons, List.map_nil, List.length_cons, List.length_nil, List.replicate, List.cons_append, List.nil_append, List.append_nil, List.getElem?_cons_zero, List.getElem?_cons_succ, List.set_cons_zero, List.set_cons_succ, Nat.sub_self, Nat.reduceAdd, Nat.reduceSub, List.replicate_zero, decide_eq_true_eq, Bool.true_eq_false, Bool.false_eq_true, if_true, if_false, reduceIte, Bool.not_eq_true', decide_eq_false_iff_not, Bool.not_true, Bool.not_false, exists_eq_left', true_and, and_true, Option.some.injEq, reduceCtorEq, decide_true, decide_false, not_true_eq_false, not_false_eq_true, sizeLine_eq, Nat.reduceLeDiff, Bool.or_false, Bool.or_true, Bool.false_or, Bool.true_or, wp1, wp2, w_par, w_par2, w_tsl, w_nopart, w_part, w_exI, seqAt_l (s4 _ _ ea)]
        have el : (((lsAt H a ++ [V.int 99]).length : Nat) : Int) - 1 = ((lsAt H a).length : Int) := by
          rw [List.length_append, List.length_singleton]
          omega
        rw [el]
        exact r _ _ (Fr.int (Same.refl _))
      obtain ⟨s4, cs4, r4, _, fr4⟩ := f4
      rw [e2'] at r4
      obtain ⟨q4, rfl, e4, _, rfl⟩ := rep_row r4
      refine ⟨1, by decide, Or.inl ⟨q4, q2, _, _, rfl, rfl, Or.inl (Or.inl e4), Or.inl (Or.inl (s4 _ _ (k1 _ _ e2 qas))), paired_same fun x hx => ?_⟩, q _ fun b o eb hb => s4 _ _ (k1 _ _ (s2 _ _ (s1 _ _ eb)) hb)⟩
      obtain ⟨i, _, rfl⟩ := List.mem_map.mp hx
      exact Or.inl ⟨rfl, rfl⟩
end
end Mt


namespace Mt
open PySem PySem.Spec PyProof.Rows L2 L2H
abbrev s_law_spoils : Stmt := topS 41
theorem sc_law_spoils : FnScope ["letters", "checks", "first", "steps", "kept", "other"] ["letters", "checks"] (defScope s_law_spoils) := ⟨rfl, rfl, rfl, by decide +kernel, rfl, by decide +kernel, by decide +kernel⟩

mutual
/-- how many lists there are -/
def cnt : D → Nat
  | .lst ds => cnts ds + 1
  | .tup ds => cnts ds
  | _ => 0
def cnts : List D → Nat
  | [] => 0
  | d :: ds => cnt d + cnts ds
end
mutual
theorem rep_cnt {H : Hp} : ∀ (d : D) (v : V) (as : List Addr), Rep H d v as → as.length = cnt d
  | .non, v, as, h => by simp only [Rep] at h; rw [h.2]; rfl
  | .bl b, v, as, h => by simp only [Rep] at h; rw [h.2]; rfl
  | .int b, v, as, h => by simp only [Rep] at h; rw [h.2]; rfl
  | .str b, v, as, h => by simp only [Rep] at h; rw [h.2]; rfl
  | .lst ds, v, as, h => by
    simp only [Rep] at h
    obtain ⟨a, vs, bs, e1, e2, e3, e4, e5⟩ := h
    subst e4
    rw [List.length_cons, reps_cnt ds vs bs e3]
    simp only [cnt]
  | .tup ds, v, as, h => by
    simp only [Rep] at h
    obtain ⟨a, vs, bs, e1, e2, e3, e4, _⟩ := h
    subst e4
    rw [reps_cnt ds vs as e3]
    simp only [cnt]
theorem reps_cnt {H : Hp} : ∀ (ds : List D) (vs : List V) (as : List Addr), Reps H ds vs as → as.length = cnts ds
  | [], vs, as, h => by simp only [Reps] at h; rw [h.2]; rfl
  | d :: ds, vs, as, h => by
    simp only [Reps] at h
    obtain ⟨v, r, bs, cs, e1, e2, e3, e4⟩ := h
    subst e4
    rw [List.length_append, rep_cnt d v bs e2, reps_cnt ds r cs e3]
    simp only [cnts]
end
theorem cnts_le {n : Nat} : ∀ {ds : List D}, (∀ d ∈ ds, cnt d ≤ n) → cnts ds ≤ n * ds.length
  | [], _ => by simp [cnts]
  | d :: ds, h => by
    have h1 := h d (List.mem_cons_self ..)
    have h2 := cnts_le fun x hx => h x (List.mem_cons_of_mem _ hx)
    simp only [cnts, List.length_cons, Nat.mul_add]
    omega
theorem cnt_row (r : List Int) : cnt (dRow r) = 1 := by
  have : cnts (r.map D.int) ≤ 0 * (r.map D.int).length := cnts_le fun d hd => by
    obtain ⟨i, _, rfl⟩ := List.mem_map.mp hd
    exact Nat.le_refl 0
  simp only [dRow, cnt]
  omega
theorem cnt_mat (m : List (List Int)) : cnt (dMat m) ≤ m.length + 1 := by
  have : cnts (m.map dRow) ≤ 1 * (m.map dRow).length := cnts_le fun d hd => by
    obtain ⟨i, _, rfl⟩ := List.mem_map.mp hd
    rw [cnt_row]
    exact Nat.le_refl 1
  rw [List.length_map] at this
  simp only [dMat, cnt]
  omega
theorem cnt_steps (ts : List (Nat × Nat × Str)) : cnt (.lst (ts.map dS)) = 1 := by
  have : cnts (ts.map dS) ≤ 0 * (ts.map dS).length := cnts_le fun d hd => by
    obtain ⟨i, _, rfl⟩ := List.mem_map.mp hd
    exact Nat.le_refl 0
  simp only [cnt]
  omega
theorem ring_turn : ∀ l c : Nat, l ≤ 12 → c ≤ 12 → 0 < l → 0 < c → ringF 30 c l = cols c (ringF 30 l c) := by
  have h : ∀ l : Fin 13, ∀ c : Fin 13, 0 < (l : Nat) → 0 < (c : Nat) → ringF 30 c l = cols c (ringF 30 l c) := by decide +kernel
  exact fun l c h1 h2 h3 h4 => h ⟨l, by omega⟩ ⟨c, by omega⟩ h3 h4
/-- what stays when some lists are changed -/
theorem rep_but {H H' : Hp} {as bs : List Addr} {d e : D} {v u : V} (ha : Rep H d v as) (k : ∀ a o, H a = some o → a ∉ as → H' a = some o) (hb : Rep H e u bs) (x : ∀ b ∈ bs, b ∉ as) : Rep H' e u bs :=
  rep_mono (fun a xs h => k a _ h fun z => by
    obtain ⟨ys, hy⟩ := rep_some d v as ha a z
    rw [h] at hy
    cases hy) e u bs hb fun a m xs h => k a _ h (x a m)
section
variable {P : Program} {w : World} {K : PySem.W.Frag} {mg : Str → Option Value} {base : Heap} {f : Addr} {fd : FuncData} {A : Ad} {tm : Tok}
def sp_spoils : Sp := fun vs H Q _ => ∃ l c : Nat, vs = [.int l, .int c] ∧ l ≤ 12 ∧ c ≤ 12 ∧ ∀ H', Same H H' → Q (.bl true) H'
theorem ok_spoils (F : Fun K "_law_spoils" "_law_spoils" s_law_spoils f fd) (T : TxtC K mg A tm) (C_law_steps : Cal P w K mg base "_law_steps" 1 ["letters", "checks"] sp_steps) (C_law_same : Cal P w K mg base "_law_same" 5 ["left", "right"] (sp_same 4)) (C_law_ask : Cal P w K mg base "_law_ask" 33 ["word", "letters", "checks"] sp_ask)
    (C_law_copy : Cal P w K mg base "_law_copy" 5 ["value"] (sp_copy 4)) (C_law_columns_of : Cal P w K mg base "_law_columns_of" 1 ["width", "rows"] (sp_columns_of K)) (C_law_apart : Cal P w K mg base "_law_apart" 6 ["value"] sp_apart) :
    FnOk P w K mg base CX0 34 f fd ["letters", "checks"] sp_spoils := by
  refine F.ok sc_law_spoils (fun vs H Q E h => ?_) (fun cdv Ar outer s H vs Q E hr h => ?_)
  · obtain ⟨l, c, rfl, _⟩ := h
    rfl
  · obtain ⟨l, c, rfl, k1, k2, q⟩ := h
    refine ⟨_, (pss_cons (ps_set (i := 2) sc_law_spoils.nd rfl (.inl rfl) (p_call C_law_ask hr (pa_cons pe_str (pa_cons (pv 0) (pa_cons (pv 1) pa_nil))) (by omega)))
      (pss_cons (ps_set (i := 3) sc_law_spoils.nd rfl (.inl rfl) (p_call C_law_ask hr (pa_cons pe_str (pa_cons (pv 0) (pa_cons (pv 1) pa_nil))) (by omega)))
      (pss_cons (ps_set (i := 4) sc_law_spoils.nd rfl (.inl rfl) (p_call C_law_copy hr (pa_cons (pv 2) pa_nil) (by omega)))
      (pss_cons (ps_if (PW.pt (pw_and (pt_cmpR op_gt (pv 0) pe_int (nomark _)) (pw_and1 (pt_cmpR op_gt (pv 1) pe_int (nomark _))))) (pss_cons (ps_set (i := 5) sc_law_spoils.nd rfl (.inl rfl) (p_call C_law_columns_of hr (pa_cons (pv 1) (pa_cons (pv 4) pa_nil)) (by omega)))
      (pss_one (ps_if (pt_not (pt_val (p_call C_law_same hr (pa_cons (p_call C_law_ask hr (pa_cons pe_str (pa_cons (pv 1) (pa_cons (pv 0) pa_nil))) (by omega)) (pa_cons (pv 5) pa_nil)) (by omega)))) (pss_one (ps_ret pe_bl)) pss_nil))) pss_nil)
      (pss_cons (ps_if (PW.pt (pw_or (pt_not (pt_val (p_call C_law_apart hr (pa_cons (pv 2) pa_nil) (by omega)))) (pw_or1 (pt_not (pt_val (p_call C_law_apart hr (pa_cons (pv 3) pa_nil) (by omega))))))) (pss_one (ps_ret pe_bl)) pss_nil)
      (pss_cons (ps_if (pt_not (pt_val (p_call C_law_same hr (pa_cons (p_call C_law_ask hr (pa_cons pe_str (pa_cons (pv 0) (pa_cons (pv 1) pa_nil))) (by omega)) (pa_cons (pv 4) pa_nil)) (by omega)))) (pss_one (ps_ret pe_bl)) pss_nil)
      (pss_one (ps_ret (p_call C_law_same hr (pa_cons (p_call C_law_ask hr (pa_cons pe_str (pa_cons (pv 0) (pa_cons (pv 1) pa_nil))) (by omega)) (pa_cons (p_call C_law_steps hr (pa_cons (pv 0) (pa_cons (pv 1) pa_nil)) (by omega)) pa_nil)) (by omega)))))))))), ?_⟩
    have hok := okF_30 l c k1 k2
    have hok' := okF_30 c l k2 k1
    obtain ⟨g1, g2⟩ := ring_shape 30 l c hok
    have ne : ¬ ("matrix" : Str) = "trail" := by decide
    simp only [w_seq, w_next, w_ret, w_asg, w_ifs, w_drop, w_brk, w_cont, w_name, w_var, w_c, w_op, w_un, w_I, w_I0, w_U, w_eq, w_scII, w_scBB, w_scSS, w_scNN, w_zi, w_zb, w_zn, w_zs, V.int.injEq, V.bl.injEq, V.str.injEq, V.ref.injEq, w_ne, w_test, w_B, w_and, w_or, w_not, w_andV, w_orV, w_notV, w_if, w_isN, w_nil, w_cons, w_cb, w_call, w_tup, w_lst, w_sub, w_intI, w_intB, w_isTyH, w_typ, w_isH, w_ixH, w_lenH, w_absH, w_listH, w_strH, w_bm, w_chain, w_exB, w_exV, w_start, k_ii, k_ib, k_is, k_il, k_it, k_bi, k_bb, k_bs, k_bl, k_bt, k_ni, k_nb, k_ns, k_nl, k_nt, k_si, k_sb, k_ss, k_sl, k_st, k_li, k_lb, k_ls, k_ll, k_lt, k_ti, k_tb, k_ts, k_tl, k_tt, w_st1, w_st2, w_st3, w_st5, atI_s0, atI_s1, atI_s2, atI_s3, atI_s4, atI_s5, List.map_cons, List.map_nil, List.length_cons, List.length_nil, List.replicate, List.cons_append, List.nil_append, List.append_nil, List.getElem?_cons_zero, List.getElem?_cons_succ, List.set_cons_zero, List.set_cons_succ, Nat.sub_self, Nat.reduceAdd, Nat.reduceSub, List.replicate_zero, decide_eq_true_eq, Bool.true_eq_false, Bool.false_eq_true, if_true, if_false, reduceIte, Bool.not_eq_true', decide_eq_false_iff_not, Bool.not_true, Bool.not_false, exists_eq_left', true_and, and_true, Option.some.injEq, reduceCtorEq, decide_true, decide_false, not_true_eq_false, not_false_eq_true, sizeLine_eq, Nat.reduceLeDiff, Bool.or_false, Bool.or_true, Bool.false_or, Bool.true_or, wp1, wp2, w_par, w_par2, w_tsl, w_nopart, w_part, w_exI]
    refine u_ask k1 k2 fun y1 H1 f1 => ?_
    rw [if_neg ne] at f1
    refine u_ask k1 k2 fun y2 H2 f2 => ?_
    rw [if_pos rfl, trail_tF] at f2
    obtain ⟨s1, as1, r1, n1, x1⟩ := f1
    obtain ⟨s2, as2, r2, n2, x2⟩ := f2
    have r12 := rep_same s2 r1
    refine ⟨dMat (ringF 30 l c), y1, as1, rfl, dep_mat, r12, fun y3 H3 f3 => ?_⟩
    obtain ⟨s3, as3, r3, n3, x3⟩ := f3
    have rest : ∀ G, Same H3 G → sp_apart [y1] G (fun x H' => ∃ k, x = V.bl k ∧ if k = false then Q (V.bl false) H' else sp_apart [y2] H' (fun x H' => ∃ k, x = V.bl k ∧ if k = false then Q (V.bl false) H' else
        sp_ask [V.str (Str.ofString "matrix"), V.int l, V.int c] H' (fun x H1 => sp_same 4 [x, y3] H1 (fun x H' => ∃ k, x = V.bl k ∧ if k = false then Q (V.bl false) H' else
        sp_ask [V.str (Str.ofString "trail"), V.int l, V.int c] H' (fun x H1 => sp_steps [V.int l, V.int c] H1 (fun x_2 H1 => sp_same 4 [x, x_2] H1 Q E0) E0) E0) E0) E0) E0) E0 := fun G sG => by
      have rep1 := rep_same (s3.trans sG) r12
      have rep2 := rep_same (s3.trans sG) r2
      have some1 : ∀ b, b ∈ as1 → ∃ xs, H1 b = some (.lst xs) := rep_some _ _ _ r1
      have some2 : ∀ b, b ∈ as2 → ∃ xs, H2 b = some (.lst xs) := rep_some _ _ _ r2
      have d21 : ∀ b ∈ as2, b ∉ as1 := fun b hb h => by
        obtain ⟨xs, e⟩ := some1 b h
        rw [x2 b hb] at e
        cases e
      have d31 : ∀ b ∈ as3, b ∉ as1 := fun b hb h => by
        obtain ⟨xs, e⟩ := some1 b h
        have e := s2 _ _ e
        rw [x3 b hb] at e
        cases e
      have d32 : ∀ b ∈ as3, b ∉ as2 := fun b hb h => by
        obtain ⟨xs, e⟩ := some2 b h
        rw [x3 b hb] at e
        cases e
      refine ⟨_, y1, as1, rfl, dep_mat, rep1, n1, ?_, fun G1 m1 => ⟨true, rfl, ?_⟩⟩
      · have := cnt_mat (ringF 30 l c)
        rw [rep_cnt _ _ _ rep1]
        omega
      rw [if_neg (by decide)]
      have rep2' := rep_but rep1 m1 rep2 d21
      refine ⟨_, y2, as2, rfl, dep_steps, rep2', n2, ?_, fun G2 m2 => ⟨true, rfl, ?_⟩⟩
      · rw [rep_cnt _ _ _ rep2', cnt_steps]
        decide
      rw [if_neg (by decide)]
      have rep3 := rep_but rep2' m2 (rep_but rep1 m1 (rep_same sG r3) d31) d32
      have sG2 : Same H G2 := fun a o e => m2 a o (m1 a o (sG _ _ (s3 _ _ (s2 _ _ (s1 _ _ e)))) fun h => by
        rw [x1 a h] at e
        cases e) fun h => by
        have e := s1 _ _ e
        rw [x2 a h] at e
        cases e
      refine u_ask k1 k2 fun y4 H4 f4 => ?_
      rw [if_neg ne] at f4
      obtain ⟨s4, as4, r4, _, _⟩ := f4
      refine ⟨_, y4, y3, as4, as3, rfl, dep_mat, r4, rep_same s4 rep3, fun H5 s5 => ⟨true, rfl, ?_⟩⟩
      rw [if_neg (by decide)]
      refine u_ask k1 k2 fun y6 H6 f6 => ?_
      rw [if_pos rfl] at f6
      obtain ⟨s6, as6, r6, _, _⟩ := f6
      refine ⟨l, c, rfl, k1, k2, fun y7 H7 f7 => ?_⟩
      obtain ⟨s7, as7, r7, _, _⟩ := f7
      rw [trail_tF] at r6 r7
      exact ⟨_, y6, y7, as6, as7, rfl, dep_steps, rep_same s7 r6, r7, fun H8 s8 => q _ (sG2.trans (s4.trans (s5.trans (s6.trans (s7.trans s8)))))⟩
    refine ite2 (fun z1 => ite2 (fun z2 => ?_) (fun _ => rest H3 (Same.refl _))) (fun _ => rest H3 (Same.refl _))
    refine ⟨c, ringF 30 l c, y3, as3, rfl, by omega, r3, fun r hr => ?_, fun y4 H4 f4 => ?_⟩
    · have := g2 r hr
      omega
    obtain ⟨s4, as4, r4, _, _⟩ := f4
    refine u_ask k2 k1 fun y5 H5 f5 => ?_
    rw [if_neg ne, ring_turn l c k1 k2 (by omega) (by omega)] at f5
    obtain ⟨s5, as5, r5, _, _⟩ := f5
    refine ⟨_, y5, y4, as5, as4, rfl, dep_mat, r5, rep_same s5 r4, fun H6 s6 => ⟨true, rfl, ?_⟩⟩
    rw [if_neg (by decide)]
    exact rest H6 (s4.trans (s5.trans s6))
end
end Mt


namespace Mt
open PySem PySem.Spec PyProof.Rows L2 L2H
abbrev s_law_refused : Stmt := topS 42
theorem sc_law_refused : FnScope ["store", "letters", "checks", "wrong", "also", "word"] ["store", "letters", "checks"] (defScope s_law_refused) := ⟨rfl, rfl, rfl, by decide +kernel, rfl, by decide +kernel, by decide +kernel⟩

theorem wr_of {G H : Hp} {s : Addr} {t : Sto} (hs : G s = none) (h : Same (Wr G s t) H) : ∃ G', H = Wr G' s t ∧ Same G G' ∧ G' s = none := by
  refine ⟨del H s, ?_, fun a o e => ?_, del_same⟩
  · funext a
    show H a = upd (del H s) s _ a
    by_cases z : a = s
    · rw [z, upd_same]
      exact h s _ wr_s
    · rw [upd_ne z, del_ne z]
  · have z : a ≠ s := fun z => by
      rw [z, hs] at e
      cases e
    rw [del_ne z]
    refine h a o ?_
    show upd G s _ a = _
    rw [upd_ne z]
    exact e
theorem ty_wr {G G' : Hp} {s : Addr} {t t' : Sto} {v : V} {n : String} (s1 : Same G G') (h : zTyV v (Wr G s t) = some n) : zTyV v (Wr G' s t') = some n := by
  cases v with
  | ref p =>
    simp only [zTyV] at h ⊢
    by_cases z : p = s
    · rw [z, wr_s] at h ⊢
      exact h
    · have e : ∀ (G : Hp) (t : Sto), Wr G s t p = G p := fun G t => upd_ne z
      rw [e] at h ⊢
      cases hp : G p with
      | none => rw [hp] at h; cases h
      | some o =>
        rw [s1 _ _ hp]
        rw [hp] at h
        exact h
  | _ => exact h
theorem ty_same {H H' : Hp} {v : V} {n : String} (s1 : Same H H') (h : zTyV v H = some n) : zTyV v H' = some n := by
  cases v with
  | ref p =>
    simp only [zTyV] at h ⊢
    cases hp : H p with
    | none => rw [hp] at h; cases h
    | some o =>
      rw [s1 _ _ hp]
      rw [hp] at h
      exact h
  | _ => exact h
theorem u_askE {wd : Str} {a b : V} {n m : String} {H : Hp} {Q : VK} {E : XK} (h1 : zTyV a H = some n) (h2 : zTyV b H = some m) (hz : okRing a b = false) (q : ∀ y H', Fr H H' (.tup [.str "BadNumber", .str (ringArg a)]) y → Q y H') : sp_ask [.str wd, a, b] H Q E := by
  refine ⟨wd, a, b, n, m, rfl, h1, h2, fun l c e1 e2 k1 k2 y H' f => ?_, fun _ => q⟩
  rw [e1, e2, okRing_nat k1 k2] at hz
  cases hz
theorem for_tupE {K : PySem.W.Frag} {te : TE} {g : TG} {tb : TS} {D : Ends} {σ : L2.St} {H : Hp} (h : te σ H fun x H1 => ∃ a, x = .ref a ∧ (∃ xs, SqT K H1 a xs) ∧ ForQ (Itt K a) g tb D σ H1) : tFor (iTup K te) g tb D σ H := h
theorem u_same {H : Hp} {x y : Str} {v : V} {p : Addr} {as : List Addr} {Q : VK} {E : XK} (r : Rep H (.tup [.str x, .str y]) v as) (hp : H p = none) (q : ∀ H', Same H H' → Q (.bl true) H') : sp_same 4 [v, .ref p] (upd H p (.tup [.str x, .str y])) Q E := by
  refine ⟨.tup [.str x, .str y], v, .ref p, as, [], rfl, by simp [dep, deps], rep_same (same_new hp) r, ?_, fun H' s => q H' ((same_new hp).trans s)⟩
  simp only [Rep, Reps]
  exact ⟨p, _, [], rfl, upd_same, ⟨_, _, [], [], rfl, ⟨rfl, rfl⟩, ⟨_, _, [], [], rfl, ⟨rfl, rfl⟩, ⟨rfl, rfl⟩, rfl⟩, rfl⟩, rfl, by show 2 < 1000000; decide⟩
section
variable {P : Program} {w : World} {K : PySem.W.Frag} {mg : Str → Option Value} {base : Heap} {f : Addr} {fd : FuncData} {A : Ad} {tm : Tok}
def sp_refused : Sp := fun vs H Q _ => ∃ (G : Hp) (s : Addr) (t : Sto) (l c : Nat), vs = [.ref s, .int l, .int c] ∧ H = Wr G s t ∧ G s = none ∧ StOk G t ∧ l ≤ 12 ∧ c ≤ 12 ∧ ∀ t' G', Same G G' → G' s = none → StOk G' t' → Q (.bl true) (Wr G' s t')
theorem ok_refused (F : Fun K "_law_refused" "_law_refused" s_law_refused f fd) (T : TxtC K mg A tm) (C_law_same : Cal P w K mg base "_law_same" 5 ["left", "right"] (sp_same 4)) (C_law_ask : Cal P w K mg base "_law_ask" 33 ["word", "letters", "checks"] sp_ask)
    (C_law_not_number : Cal P w K mg base "_law_not_number" 3 ["store", "low", "high"] sp_notnum) (C_law_pick : Cal P w K mg base "_law_pick" 3 ["store", "choices"] sp_pick) :
    FnOk P w K mg base CX0 34 f fd ["store", "letters", "checks"] sp_refused := by
  refine F.ok sc_law_refused (fun vs H Q E h => ?_) (fun cdv Ar outer s H vs Q E hr h => ?_)
  · obtain ⟨G, s, t, l, c, rfl, _⟩ := h
    rfl
  · obtain ⟨G, st, t, l, c, rfl, rfl, hs, ok, k1, k2, q⟩ := h
    refine ⟨_, (pss_cons (ps_set (i := 3) sc_law_refused.nd rfl (.inl rfl) (p_call C_law_not_number hr (pa_cons (pv 0) (pa_cons pe_int (pa_cons pe_int pa_nil))) (by omega)))
      (pss_cons (ps_set (i := 4) sc_law_refused.nd rfl (.inl rfl) (p_call C_law_pick hr (pa_cons (pv 0) (pa_cons (pe_lst (pa_cons (pv 2) (pa_cons (p_call C_law_not_number hr (pa_cons (pv 0) (pa_cons pe_int (pa_cons pe_int pa_nil))) (by omega)) pa_nil))) pa_nil)) (by omega)))
      (pss_cons (ps_for PassesOwn.never rfl (pi_tup (pe_tup (pa_cons pe_str (pa_cons pe_str pa_nil)))) (pg_name (i := 5) sc_law_refused.nd rfl (.inl rfl)) (pss_cons (ps_if (pt_not (pt_val (p_call C_law_same hr (pa_cons (p_call C_law_ask hr (pa_cons (pv 5) (pa_cons (pv 3) (pa_cons (pv 4) pa_nil))) (by omega)) (pa_cons (pe_tup (pa_cons pe_str (pa_cons pe_str pa_nil))) pa_nil)) (by omega)))) (pss_one (ps_ret pe_bl)) pss_nil)
      (pss_one (ps_if (pt_not (pt_val (p_call C_law_same hr (pa_cons (p_call C_law_ask hr (pa_cons (pv 5) (pa_cons (pv 1) (pa_cons (pv 3) pa_nil))) (by omega)) (pa_cons (pe_tup (pa_cons pe_str (pa_cons pe_str pa_nil))) pa_nil)) (by omega)))) (pss_one (ps_ret pe_bl)) pss_nil))))
      (pss_one (ps_ret pe_bl))))), ?_⟩
    simp only [w_seq, w_next, w_ret, w_asg, w_ifs, w_drop, w_brk, w_cont, w_name, w_var, w_c, w_op, w_un, w_I, w_I0, w_U, w_eq, w_scII, w_scBB, w_scSS, w_scNN, w_zi, w_zb, w_zn, w_zs, V.int.injEq, V.bl.injEq, V.str.injEq, V.ref.injEq, w_ne, w_test, w_B, w_and, w_or, w_not, w_andV, w_orV, w_notV, w_if, w_isN, w_nil, w_cons, w_cb, w_call, w_tup, w_lst, w_sub, w_intI, w_intB, w_isTyH, w_typ, w_isH, w_ixH, w_lenH, w_absH, w_listH, w_strH, w_bm, w_chain, w_exB, w_exV, w_start, k_ii, k_ib, k_is, k_il, k_it, k_bi, k_bb, k_bs, k_bl, k_bt, k_ni, k_nb, k_ns, k_nl, k_nt, k_si, k_sb, k_ss, k_sl, k_st, k_li, k_lb, k_ls, k_ll, k_lt, k_ti, k_tb, k_ts, k_tl, k_tt, w_st1, w_st2, w_st3, w_st5, atI_s0, atI_s1, atI_s2, atI_s3, atI_s4, atI_s5, List.map_cons, List.map_nil, List.length_cons, List.length_nil, List.replicate, List.cons_append, List.nil_append, List.append_nil, List.getElem?_cons_zero, List.getElem?_cons_succ, List.set_cons_zero, List.set_cons_succ, Nat.sub_self, Nat.reduceAdd, Nat.reduceSub, List.replicate_zero, decide_eq_true_eq, Bool.true_eq_false, Bool.false_eq_true, if_true, if_false, reduceIte, Bool.not_eq_true', decide_eq_false_iff_not, Bool.not_true, Bool.not_false, exists_eq_left', true_and, and_true, Option.some.injEq, reduceCtorEq, decide_true, decide_false, not_true_eq_false, not_false_eq_true, sizeLine_eq, Nat.reduceLeDiff, Bool.or_false, Bool.or_true, Bool.false_or, Bool.true_or, wp1, wp2, w_par, w_par2, w_tsl, w_nopart, w_part, w_exI]
    refine ⟨G, st, t, 0, 12, rfl, rfl, hs, ok, by decide, by decide, by decide, fun v1 n1 t1 G1 s1 hs1 ok1 ty1 wb1 => ?_⟩
    refine ⟨G1, st, t1, 0, 12, rfl, rfl, hs1, ok1, by decide, by decide, by decide, fun v2 n2 t2 G2 s2 hs2 ok2 ty2 wb2 => ?_⟩
    simp only [w_seq, w_next, w_ret, w_asg, w_ifs, w_drop, w_brk, w_cont, w_name, w_var, w_c, w_op, w_un, w_I, w_I0, w_U, w_eq, w_scII, w_scBB, w_scSS, w_scNN, w_zi, w_zb, w_zn, w_zs, V.int.injEq, V.bl.injEq, V.str.injEq, V.ref.injEq, w_ne, w_test, w_B, w_and, w_or, w_not, w_andV, w_orV, w_notV, w_if, w_isN, w_nil, w_cons, w_cb, w_call, w_tup, w_lst, w_sub, w_intI, w_intB, w_isTyH, w_typ, w_isH, w_ixH, w_lenH, w_absH, w_listH, w_strH, w_bm, w_chain, w_exB, w_exV, w_start, k_ii, k_ib, k_is, k_il, k_it, k_bi, k_bb, k_bs, k_bl, k_bt, k_ni, k_nb, k_ns, k_nl, k_nt, k_si, k_sb, k_ss, k_sl, k_st, k_li, k_lb, k_ls, k_ll, k_lt, k_ti, k_tb, k_ts, k_tl, k_tt, w_st1, w_st2, w_st3, w_st5, atI_s0, atI_s1, atI_s2, atI_s3, atI_s4, atI_s5, List.map_cons, List.map_nil, List.length_cons, List.length_nil, List.replicate, List.cons_append, List.nil_append, List.append_nil, List.getElem?_cons_zero, List.getElem?_cons_succ, List.set_cons_zero, List.set_cons_succ, Nat.sub_self, Nat.reduceAdd, Nat.reduceSub, List.replicate_zero, decide_eq_true_eq, Bool.true_eq_false, Bool.false_eq_true, if_true, if_false, reduceIte, Bool.not_eq_true', decide_eq_false_iff_not, Bool.not_true, Bool.not_false, exists_eq_left', true_and, and_true, Option.some.injEq, reduceCtorEq, decide_true, decide_false, not_true_eq_false, not_false_eq_true, sizeLine_eq, Nat.reduceLeDiff, Bool.or_false, Bool.or_true, Bool.false_or, Bool.true_or, wp1, wp2, w_par, w_par2, w_tsl, w_nopart, w_part, w_exI]
    intro p hp
    obtain ⟨ps, gp, e⟩ := wr_new (o := .lst [V.int c, v2]) hp
    rw [e]
    have s3 := same_new (o := .lst [V.int c, v2]) gp
    refine ⟨_, st, t2, p, [V.int c, v2], rfl, rfl, none_upd hs2 ps, stok_new gp ok2, upd_same, by show 0 < 2; decide, by show 2 < 1000000; decide, fun v3 t3 hv ok3 => ?_⟩
    have hs3 := none_upd (o := .lst [V.int c, v2]) hs2 ps
    obtain ⟨n3, ty3⟩ : ∃ n3, zTyV v3 (Wr (upd G2 p (.lst [V.int c, v2])) st t3) = some n3 := by
      rcases List.mem_cons.mp hv with rfl | hv
      · exact ⟨_, rfl⟩
      · rcases List.mem_cons.mp hv with rfl | hv
        · exact ⟨n2, ty_wr s3 ty2⟩
        · cases hv
    have ty1' : zTyV v1 (Wr (upd G2 p (.lst [V.int c, v2])) st t3) = some n1 := ty_wr (s2.trans s3) ty1
    have sG : Same G (upd G2 p (.lst [V.int c, v2])) := s1.trans (s2.trans s3)
    generalize upd G2 p (.lst [V.int c, v2]) = G3 at hs3 ok3 ty3 ty1' sG ⊢
    have z1 : okRing v1 v3 = false := by
      unfold okRing
      rw [wb1]
      rfl
    have z2 : okRing (.int l) v1 = false := by
      unfold okRing
      rw [wb1, Bool.and_false]
    have a1 : ringArg v1 = "letters" := by
      unfold ringArg
      rw [wb1]
      rfl
    have a2 : ringArg (.int l) = "checks" := by
      unfold ringArg
      rw [show wholeB (.int l) 0 12 = true by
        show (decide ((0 : Int) ≤ l) && decide ((l : Int) ≤ 12)) = true
        rw [decide_eq_true (show (0 : Int) ≤ l by omega), decide_eq_true (show (l : Int) ≤ 12 by omega)]
        rfl]
      rfl
    refine for_tupE ?_
    simp only [w_seq, w_next, w_ret, w_asg, w_ifs, w_drop, w_brk, w_cont, w_name, w_var, w_c, w_op, w_un, w_I, w_I0, w_U, w_eq, w_scII, w_scBB, w_scSS, w_scNN, w_zi, w_zb, w_zn, w_zs, V.int.injEq, V.bl.injEq, V.str.injEq, V.ref.injEq, w_ne, w_test, w_B, w_and, w_or, w_not, w_andV, w_orV, w_notV, w_if, w_isN, w_nil, w_cons, w_cb, w_call, w_tup, w_lst, w_sub, w_intI, w_intB, w_isTyH, w_typ, w_isH, w_ixH, w_lenH, w_absH, w_listH, w_strH, w_bm, w_chain, w_exB, w_exV, w_start, k_ii, k_ib, k_is, k_il, k_it, k_bi, k_bb, k_bs, k_bl, k_bt, k_ni, k_nb, k_ns, k_nl, k_nt, k_si, k_sb, k_ss, k_sl, k_st, k_li, k_lb, k_ls, k_ll, k_lt, k_ti, k_tb, k_ts, k_tl, k_tt, w_st1, w_st2, w_st3, w_st5, atI_s0, atI_s1, atI_s2, atI_s3, atI_s4, atI_s5, List.map_cons, List.map_nil, List.length_cons, List.length_nil, List.replicate, List.cons_append, List.nil_append, List.append_nil, List.getElem?_cons_zero, List.getElem?_cons_succ, List.set_cons_zero, List.set_cons_succ, Nat.sub_self, Nat.reduceAdd, Nat.reduceSub, List.replicate_zero, decide_eq_true_eq, Bool.true_eq_false, Bool.false_eq_true, if_true, if_false, reduceIte, Bool.not_eq_true', decide_eq_false_iff_not, Bool.not_true, Bool.not_false, exists_eq_left', true_and, and_true, Option.some.injEq, reduceCtorEq, decide_true, decide_false, not_true_eq_false, not_false_eq_true, sizeLine_eq, Nat.reduceLeDiff, Bool.or_false, Bool.or_true, Bool.false_or, Bool.true_or, wp1, wp2, w_par, w_par2, w_tsl, w_nopart, w_part, w_exI]
    intro pt hpt
    have sT := same_new (o := .tup [.str "trail", .str "matrix"]) hpt
    refine ⟨⟨_, Or.inl (Or.inl upd_same)⟩, for_tup (K := K) (a := pt) (xs := [.str "trail", .str "matrix"]) (fun i σ H' => ∃ z : Option V, σ = [some (.ref st), some (.int l), some (.int c), some v1, some v3, z] ∧ Same (upd (Wr G3 st t3) pt (.tup [.str "trail", .str "matrix"])) H') ⟨none, rfl, Same.refl _⟩ (fun i σ H' _ ⟨_, _, s⟩ => Or.inl (Or.inl (s _ _ upd_same))) ?_ ?_⟩
    · rintro i x σ H4 hx ⟨z, rfl, s4⟩
      obtain ⟨wd, rfl⟩ : ∃ wd, x = .str wd := by
        rcases List.mem_cons.mp (List.mem_of_getElem? hx) with rfl | h
        · exact ⟨_, rfl⟩
        · rcases List.mem_cons.mp h with rfl | h
          · exact ⟨_, rfl⟩
          · cases h
      have s34 := sT.trans s4
      simp only [w_seq, w_next, w_ret, w_asg, w_ifs, w_drop, w_brk, w_cont, w_name, w_var, w_c, w_op, w_un, w_I, w_I0, w_U, w_eq, w_scII, w_scBB, w_scSS, w_scNN, w_zi, w_zb, w_zn, w_zs, V.int.injEq, V.bl.injEq, V.str.injEq, V.ref.injEq, w_ne, w_test, w_B, w_and, w_or, w_not, w_andV, w_orV, w_notV, w_if, w_isN, w_nil, w_cons, w_cb, w_call, w_tup, w_lst, w_sub, w_intI, w_intB, w_isTyH, w_typ, w_isH, w_ixH, w_lenH, w_absH, w_listH, w_strH, w_bm, w_chain, w_exB, w_exV, w_start, k_ii, k_ib, k_is, k_il, k_it, k_bi, k_bb, k_bs, k_bl, k_bt, k_ni, k_nb, k_ns, k_nl, k_nt, k_si, k_sb, k_ss, k_sl, k_st, k_li, k_lb, k_ls, k_ll, k_lt, k_ti, k_tb, k_ts, k_tl, k_tt, w_st1, w_st2, w_st3, w_st5, atI_s0, atI_s1, atI_s2, atI_s3, atI_s4, atI_s5, List.map_cons, List.map_nil, List.length_cons, List.length_nil, List.replicate, List.cons_append, List.nil_append, List.append_nil, List.getElem?_cons_zero, List.getElem?_cons_succ, List.set_cons_zero, List.set_cons_succ, Nat.sub_self, Nat.reduceAdd, Nat.reduceSub, List.replicate_zero, decide_eq_true_eq, Bool.true_eq_false, Bool.false_eq_true, if_true, if_false, reduceIte, Bool.not_eq_true', decide_eq_false_iff_not, Bool.not_true, Bool.not_false, exists_eq_left', true_and, and_true, Option.some.injEq, reduceCtorEq, decide_true, decide_false, not_true_eq_false, not_false_eq_true, sizeLine_eq, Nat.reduceLeDiff, Bool.or_false, Bool.or_true, Bool.false_or, Bool.true_or, wp1, wp2, w_par, w_par2, w_tsl, w_nopart, w_part, w_exI]
      refine u_askE (ty_same s34 ty1') (ty_same s34 ty3) z1 fun y5 H5 f5 => ?_
      rw [a1] at f5
      obtain ⟨s5, as5, r5, _, _⟩ := f5
      intro p5 hp5
      refine u_same r5 hp5 fun H6 s6 => ⟨true, rfl, ?_⟩
      rw [if_neg (by decide)]
      refine u_askE (n := "int") rfl (ty_same (s34.trans (s5.trans s6)) ty1') z2 fun y7 H7 f7 => ?_
      rw [a2] at f7
      obtain ⟨s7, as7, r7, _, _⟩ := f7
      intro p7 hp7
      refine u_same r7 hp7 fun H8 s8 => ⟨true, rfl, ?_⟩
      rw [if_neg (by decide)]
      exact ⟨_, rfl, s4.trans (s5.trans (s6.trans (s7.trans s8)))⟩
    · rintro σ H4 ⟨z, rfl, s4⟩
      obtain ⟨G5, rfl, s5, hs5⟩ := wr_of hs3 (sT.trans s4)
      simp only [w_seq, w_next, w_ret, w_asg, w_ifs, w_drop, w_brk, w_cont, w_name, w_var, w_c, w_op, w_un, w_I, w_I0, w_U, w_eq, w_scII, w_scBB, w_scSS, w_scNN, w_zi, w_zb, w_zn, w_zs, V.int.injEq, V.bl.injEq, V.str.injEq, V.ref.injEq, w_ne, w_test, w_B, w_and, w_or, w_not, w_andV, w_orV, w_notV, w_if, w_isN, w_nil, w_cons, w_cb, w_call, w_tup, w_lst, w_sub, w_intI, w_intB, w_isTyH, w_typ, w_isH, w_ixH, w_lenH, w_absH, w_listH, w_strH, w_bm, w_chain, w_exB, w_exV, w_start, k_ii, k_ib, k_is, k_il, k_it, k_bi, k_bb, k_bs, k_bl, k_bt, k_ni, k_nb, k_ns, k_nl, k_nt, k_si, k_sb, k_ss, k_sl, k_st, k_li, k_lb, k_ls, k_ll, k_lt, k_ti, k_tb, k_ts, k_tl, k_tt, w_st1, w_st2, w_st3, w_st5, atI_s0, atI_s1, atI_s2, atI_s3, atI_s4, atI_s5, List.map_cons, List.map_nil, List.length_cons, List.length_nil, List.replicate, List.cons_append, List.nil_append, List.append_nil, List.getElem?_cons_zero, List.getElem?_cons_succ, List.set_cons_zero, List.set_cons_succ, Nat.sub_self, Nat.reduceAdd, Nat.reduceSub, List.replicate_zero, decide_eq_true_eq, Bool.true_eq_false, Bool.false_eq_true, if_true, if_false, reduceIte, Bool.not_eq_true', decide_eq_false_iff_not, Bool.not_true, Bool.not_false, exists_eq_left', true_and, and_true, Option.some.injEq, reduceCtorEq, decide_true, decide_false, not_true_eq_false, not_false_eq_true, sizeLine_eq, Nat.reduceLeDiff, Bool.or_false, Bool.or_true, Bool.false_or, Bool.true_or, wp1, wp2, w_par, w_par2, w_tsl, w_nopart, w_part, w_exI]
      exact q _ _ (sG.trans s5) hs5 (stok_same s5 ok3)
end
end Mt


namespace Mt
open PySem PySem.Spec PyProof.Rows L2 L2H
abbrev s_law : Stmt := topS 43
theorem sc_law : FnScope ["script", "store", "k", "letters", "checks"] ["script"] (defScope s_law) := ⟨rfl, rfl, rfl, by decide +kernel, rfl, by decide +kernel, by decide +kernel⟩

theorem u_pick3 {G : Hp} {s p : Addr} {t : Sto} {Q : VK} {E : XK} (hs : G s = none) (ok : StOk G t) (hp : Wr G s t p = none) (q : ∀ (v : Int) (t' : Sto) (G' : Hp), v = 4 ∨ v = 12 → Same G G' → G' s = none → StOk G' t' → Q (.int v) (Wr G' s t')) : sp_pick [.ref s, .ref p] (upd (Wr G s t) p (.lst [.int 4, .int 12, .int 12])) Q E := by
  obtain ⟨ps, gp, e⟩ := wr_new (o := .lst [V.int 4, V.int 12, V.int 12]) hp
  rw [e]
  refine ⟨_, s, t, p, _, rfl, rfl, none_upd hs ps, stok_new gp ok, upd_same, by decide, by decide, fun v t' hv ok' => ?_⟩
  rcases List.mem_cons.mp hv with rfl | hv
  · exact q _ _ _ (Or.inl rfl) (same_new gp) (none_upd hs ps) ok'
  rcases List.mem_cons.mp hv with rfl | hv
  · exact q _ _ _ (Or.inr rfl) (same_new gp) (none_upd hs ps) ok'
  rcases List.mem_cons.mp hv with rfl | hv
  · exact q _ _ _ (Or.inr rfl) (same_new gp) (none_upd hs ps) ok'
  cases hv
theorem u_edge {G : Hp} {s : Addr} {t : Sto} {hi : Int} {Q : VK} {E : XK} (hs : G s = none) (ok : StOk G t) (h0 : hi = 4 ∨ hi = 12) (q : ∀ (l : Nat) (t' : Sto) (G' : Hp), l ≤ 12 → Same G G' → G' s = none → StOk G' t' → Q (.int l) (Wr G' s t')) : sp_edge [.ref s, .int 0, .int hi] (Wr G s t) Q E := by
  refine ⟨G, s, t, 0, hi, rfl, rfl, hs, ok, by omega, by decide, by omega, fun r t' G' s' hs' ok' r0 r1 => ?_⟩
  obtain ⟨l, rfl⟩ : ∃ l : Nat, r = (l : Int) := ⟨r.toNat, by omega⟩
  exact q l t' G' (by omega) s' hs' ok'
section
variable {P : Program} {w : World} {K : PySem.W.Frag} {mg : Str → Option Value} {base : Heap} {f : Addr} {fd : FuncData} {A : Ad} {tm : Tok}
def sp_law (K : PySem.W.Frag) : Sp := fun vs H Q _ => ∃ (a : Addr) (ns : List Int), vs = [.ref a] ∧ SqL K H a (ns.map V.int) ∧ ns.length ≤ 63 ∧ ∀ H', Same H H' → Q (.bl true) H'
theorem ok_law (F : Fun K "law" "law" s_law f fd) (T : TxtC K mg A tm) (C_law_store : Cal P w K mg base "_law_store" 1 ["script"] (sp_store K)) (C_law_pick : Cal P w K mg base "_law_pick" 3 ["store", "choices"] sp_pick) (C_law_edge : Cal P w K mg base "_law_edge" 3 ["store", "low", "high"] sp_edge)
    (C_law_walked : Cal P w K mg base "_law_walked" 34 ["letters", "checks"] sp_walked) (C_law_spoils : Cal P w K mg base "_law_spoils" 34 ["letters", "checks"] sp_spoils) (C_law_refused : Cal P w K mg base "_law_refused" 34 ["store", "letters", "checks"] sp_refused) :
    FnOk P w K mg base CX0 35 f fd ["script"] (sp_law K) := by
  refine F.ok sc_law (fun vs H Q E h => ?_) (fun cdv Ar outer s H vs Q E hr h => ?_)
  · obtain ⟨a, ns, rfl, _⟩ := h
    rfl
  · obtain ⟨a, ns, rfl, hL, hz, q⟩ := h
    refine ⟨_, (pss_cons (ps_set (i := 1) sc_law.nd rfl (.inl rfl) (p_call C_law_store hr (pa_cons (pv 0) pa_nil) (by omega)))
      (pss_cons (ps_for PassesOwn.never rfl (pi_range1 (by rfl) T.m_range (pa_cons pe_int pa_nil)) (pg_name (i := 2) sc_law.nd rfl (.inl rfl)) (pss_cons (ps_set (i := 3) sc_law.nd rfl (.inl rfl) (p_call C_law_edge hr (pa_cons (pv 1) (pa_cons pe_int (pa_cons (p_call C_law_pick hr (pa_cons (pv 1) (pa_cons (pe_lst (pa_cons pe_int (pa_cons pe_int (pa_cons pe_int pa_nil)))) pa_nil)) (by omega)) pa_nil))) (by omega)))
      (pss_cons (ps_set (i := 4) sc_law.nd rfl (.inl rfl) (p_call C_law_edge hr (pa_cons (pv 1) (pa_cons pe_int (pa_cons (p_call C_law_pick hr (pa_cons (pv 1) (pa_cons (pe_lst (pa_cons pe_int (pa_cons pe_int (pa_cons pe_int pa_nil)))) pa_nil)) (by omega)) pa_nil))) (by omega)))
      (pss_cons (ps_if (PW.pt (pw_or (pt_not (pt_val (p_call C_law_walked hr (pa_cons (pv 3) (pa_cons (pv 4) pa_nil)) (by omega)))) (pw_or1 (pt_not (pt_val (p_call C_law_spoils hr (pa_cons (pv 3) (pa_cons (pv 4) pa_nil)) (by omega))))))) (pss_one (ps_ret pe_bl)) pss_nil)
      (pss_one (ps_if (pt_not (pt_val (p_call C_law_refused hr (pa_cons (pv 1) (pa_cons (pv 3) (pa_cons (pv 4) pa_nil))) (by omega)))) (pss_one (ps_ret pe_bl)) pss_nil))))))
      (pss_one (ps_ret pe_bl)))), ?_⟩
    simp only [w_seq, w_next, w_ret, w_asg, w_ifs, w_drop, w_brk, w_cont, w_name, w_var, w_c, w_op, w_un, w_I, w_I0, w_U, w_eq, w_scII, w_scBB, w_scSS, w_scNN, w_zi, w_zb, w_zn, w_zs, V.int.injEq, V.bl.injEq, V.str.injEq, V.ref.injEq, w_ne, w_test, w_B, w_and, w_or, w_not, w_andV, w_orV, w_notV, w_if, w_isN, w_nil, w_cons, w_cb, w_call, w_tup, w_lst, w_sub, w_intI, w_intB, w_isTyH, w_typ, w_isH, w_ixH, w_lenH, w_absH, w_listH, w_strH, w_bm, w_chain, w_exB, w_exV, w_start, k_ii, k_ib, k_is, k_il, k_it, k_bi, k_bb, k_bs, k_bl, k_bt, k_ni, k_nb, k_ns, k_nl, k_nt, k_si, k_sb, k_ss, k_sl, k_st, k_li, k_lb, k_ls, k_ll, k_lt, k_ti, k_tb, k_ts, k_tl, k_tt, w_st1, w_st2, w_st3, w_st5, atI_s0, atI_s1, atI_s2, atI_s3, atI_s4, atI_s5, List.map_cons, List.map_nil, List.length_cons, List.length_nil, List.replicate, List.cons_append, List.nil_append, List.append_nil, List.getElem?_cons_zero, List.getElem?_cons_succ, List.set_cons_zero, List.set_cons_succ, Nat.sub_self, Nat.reduceAdd, Nat.reduceSub, List.replicate_zero, decide_eq_true_eq, Bool.true_eq_false, Bool.false_eq_true, if_true, if_false, reduceIte, Bool.not_eq_true', decide_eq_false_iff_not, Bool.not_true, Bool.not_false, exists_eq_left', true_and, and_true, Option.some.injEq, reduceCtorEq, decide_true, decide_false, not_true_eq_false, not_false_eq_true, sizeLine_eq, Nat.reduceLeDiff, Bool.or_false, Bool.or_true, Bool.false_or, Bool.true_or, wp1, wp2, w_par, w_par2, w_tsl, w_nopart, w_part, w_exI]
    refine ⟨a, ns, rfl, hL, hz, fun G st t s0 ns0 hs ok => ?_⟩
    refine for_rng ?_
    simp only [w_seq, w_next, w_ret, w_asg, w_ifs, w_drop, w_brk, w_cont, w_name, w_var, w_c, w_op, w_un, w_I, w_I0, w_U, w_eq, w_scII, w_scBB, w_scSS, w_scNN, w_zi, w_zb, w_zn, w_zs, V.int.injEq, V.bl.injEq, V.str.injEq, V.ref.injEq, w_ne, w_test, w_B, w_and, w_or, w_not, w_andV, w_orV, w_notV, w_if, w_isN, w_nil, w_cons, w_cb, w_call, w_tup, w_lst, w_sub, w_intI, w_intB, w_isTyH, w_typ, w_isH, w_ixH, w_lenH, w_absH, w_listH, w_strH, w_bm, w_chain, w_exB, w_exV, w_start, k_ii, k_ib, k_is, k_il, k_it, k_bi, k_bb, k_bs, k_bl, k_bt, k_ni, k_nb, k_ns, k_nl, k_nt, k_si, k_sb, k_ss, k_sl, k_st, k_li, k_lb, k_ls, k_ll, k_lt, k_ti, k_tb, k_ts, k_tl, k_tt, w_st1, w_st2, w_st3, w_st5, atI_s0, atI_s1, atI_s2, atI_s3, atI_s4, atI_s5, List.map_cons, List.map_nil, List.length_cons, List.length_nil, List.replicate, List.cons_append, List.nil_append, List.append_nil, List.getElem?_cons_zero, List.getElem?_cons_succ, List.set_cons_zero, List.set_cons_succ, Nat.sub_self, Nat.reduceAdd, Nat.reduceSub, List.replicate_zero, decide_eq_true_eq, Bool.true_eq_false, Bool.false_eq_true, if_true, if_false, reduceIte, Bool.not_eq_true', decide_eq_false_iff_not, Bool.not_true, Bool.not_false, exists_eq_left', true_and, and_true, Option.some.injEq, reduceCtorEq, decide_true, decide_false, not_true_eq_false, not_false_eq_true, sizeLine_eq, Nat.reduceLeDiff, Bool.or_false, Bool.or_true, Bool.false_or, Bool.true_or, wp1, wp2, w_par, w_par2, w_tsl, w_nopart, w_part, w_exI]
    refine forN (n := 2) (by decide) (fun i σ H' => ∃ (G' : Hp) (t' : Sto) (z2 z3 z4 : Option V), σ = [some (.ref a), some (.ref st), z2, z3, z4] ∧ H' = Wr G' st t' ∧ Same G G' ∧ G' st = none ∧ StOk G' t') ⟨G, t, none, none, none, rfl, rfl, Same.refl _, hs, ok⟩ ?_ ?_
    · rintro i σ H1 hi ⟨G1, t1, z2, z3, z4, rfl, rfl, s1, hs1, ok1⟩
      simp only [w_seq, w_next, w_ret, w_asg, w_ifs, w_drop, w_brk, w_cont, w_name, w_var, w_c, w_op, w_un, w_I, w_I0, w_U, w_eq, w_scII, w_scBB, w_scSS, w_scNN, w_zi, w_zb, w_zn, w_zs, V.int.injEq, V.bl.injEq, V.str.injEq, V.ref.injEq, w_ne, w_test, w_B, w_and, w_or, w_not, w_andV, w_orV, w_notV, w_if, w_isN, w_nil, w_cons, w_cb, w_call, w_tup, w_lst, w_sub, w_intI, w_intB, w_isTyH, w_typ, w_isH, w_ixH, w_lenH, w_absH, w_listH, w_strH, w_bm, w_chain, w_exB, w_exV, w_start, k_ii, k_ib, k_is, k_il, k_it, k_bi, k_bb, k_bs, k_bl, k_bt, k_ni, k_nb, k_ns, k_nl, k_nt, k_si, k_sb, k_ss, k_sl, k_st, k_li, k_lb, k_ls, k_ll, k_lt, k_ti, k_tb, k_ts, k_tl, k_tt, w_st1, w_st2, w_st3, w_st5, atI_s0, atI_s1, atI_s2, atI_s3, atI_s4, atI_s5, List.map_cons, List.map_nil, List.length_cons, List.length_nil, List.replicate, List.cons_append, List.nil_append, List.append_nil, List.getElem?_cons_zero, List.getElem?_cons_succ, List.set_cons_zero, List.set_cons_succ, Nat.sub_self, Nat.reduceAdd, Nat.reduceSub, List.replicate_zero, decide_eq_true_eq, Bool.true_eq_false, Bool.false_eq_true, if_true, if_false, reduceIte, Bool.not_eq_true', decide_eq_false_iff_not, Bool.not_true, Bool.not_false, exists_eq_left', true_and, and_true, Option.some.injEq, reduceCtorEq, decide_true, decide_false, not_true_eq_false, not_false_eq_true, sizeLine_eq, Nat.reduceLeDiff, Bool.or_false, Bool.or_true, Bool.false_or, Bool.true_or, wp1, wp2, w_par, w_par2, w_tsl, w_nopart, w_part, w_exI]
      intro p1 hp1
      refine u_pick3 hs1 ok1 hp1 fun v1 t2 G2 h2 s2 hs2 ok2 => ?_
      refine u_edge hs2 ok2 h2 fun l t3 G3 k1 s3 hs3 ok3 => ?_
      intro p3 hp3
      refine u_pick3 hs3 ok3 hp3 fun v4 t4 G4 h4 s4 hs4 ok4 => ?_
      refine u_edge hs4 ok4 h4 fun c t5 G5 k2 s5 hs5 ok5 => ?_
      refine ⟨l, c, rfl, k1, k2, fun H6 s6 => ⟨true, rfl, ?_⟩⟩
      obtain ⟨G6, rfl, r6, hs6⟩ := wr_of hs5 s6
      rw [if_neg (by decide)]
      refine ⟨l, c, rfl, k1, k2, fun H7 s7 => ⟨true, rfl, ?_⟩⟩
      obtain ⟨G7, rfl, r7, hs7⟩ := wr_of hs6 s7
      rw [if_neg (by decide)]
      refine ⟨G7, st, t5, l, c, rfl, rfl, hs7, stok_same (r6.trans r7) ok5, k1, k2, fun t8 G8 s8 hs8 ok8 => ⟨true, rfl, ?_⟩⟩
      rw [if_neg (by decide)]
      exact ⟨G8, t8, _, _, _, rfl, rfl, s1.trans (s2.trans (s3.trans (s4.trans (s5.trans (r6.trans (r7.trans s8)))))), hs8, ok8⟩
    · rintro σ H1 ⟨G1, t1, z2, z3, z4, rfl, rfl, s1, hs1, ok1⟩
      simp only [w_seq, w_next, w_ret, w_asg, w_ifs, w_drop, w_brk, w_cont, w_name, w_var, w_c, w_op, w_un, w_I, w_I0, w_U, w_eq, w_scII, w_scBB, w_scSS, w_scNN, w_zi, w_zb, w_zn, w_zs, V.int.injEq, V.bl.injEq, V.str.injEq, V.ref.injEq, w_ne, w_test, w_B, w_and, w_or, w_not, w_andV, w_orV, w_notV, w_if, w_isN, w_nil, w_cons, w_cb, w_call, w_tup, w_lst, w_sub, w_intI, w_intB, w_isTyH, w_typ, w_isH, w_ixH, w_lenH, w_absH, w_listH, w_strH, w_bm, w_chain, w_exB, w_exV, w_start, k_ii, k_ib, k_is, k_il, k_it, k_bi, k_bb, k_bs, k_bl, k_bt, k_ni, k_nb, k_ns, k_nl, k_nt, k_si, k_sb, k_ss, k_sl, k_st, k_li, k_lb, k_ls, k_ll, k_lt, k_ti, k_tb, k_ts, k_tl, k_tt, w_st1, w_st2, w_st3, w_st5, atI_s0, atI_s1, atI_s2, atI_s3, atI_s4, atI_s5, List.map_cons, List.map_nil, List.length_cons, List.length_nil, List.replicate, List.cons_append, List.nil_append, List.append_nil, List.getElem?_cons_zero, List.getElem?_cons_succ, List.set_cons_zero, List.set_cons_succ, Nat.sub_self, Nat.reduceAdd, Nat.reduceSub, List.replicate_zero, decide_eq_true_eq, Bool.true_eq_false, Bool.false_eq_true, if_true, if_false, reduceIte, Bool.not_eq_true', decide_eq_false_iff_not, Bool.not_true, Bool.not_false, exists_eq_left', true_and, and_true, Option.some.injEq, reduceCtorEq, decide_true, decide_false, not_true_eq_false, not_false_eq_true, sizeLine_eq, Nat.reduceLeDiff, Bool.or_false, Bool.or_true, Bool.false_or, Bool.true_or, wp1, wp2, w_par, w_par2, w_tsl, w_nopart, w_part, w_exI]
      refine q _ fun b o e => ?_
      have ne : b ≠ st := fun z => by
        rw [z, ns0] at e
        cases e
      show upd G1 st _ b = _
      rw [upd_ne ne]
      exact s1 _ _ (s0 _ _ e)
end
end Mt

namespace Mt
open PySem PySem.Spec PyProof.Rows L2 L2H
/-- a def of the top -/
def Dn (K : PySem.W.Frag) (x : Str) (s : Stmt) : Prop := ∃ f fd, PySem.W.nsIn K mainGlobals x = some (some (.ref f)) ∧ Fun K x x s f fd
theorem exm_sub {K : PySem.W.Frag} {C S : Addr} (h1 : PySem.W.subIn K (.ref S) (.type "BaseException") = some true) (h2 : PySem.W.isClsIn K S = true) (h3 : PySem.W.typeIn K (.ref S) = some (.type "type")) (h4 : PySem.W.subIn K (.ref C) (.ref S) = some true) : PySem.W.exmOne K (.ref C) (.ref S) = some true := by
  have e1 : (PySem.W.subIn K (.ref S) (.type "BaseException") == some true) = true := by rw [h1] <;> rfl
  have e2 : ((PySem.W.clsIn K S).isSome && PySem.W.typeIn K (.ref S) == some (.type "type")) = true := by
    have h2' : (PySem.W.clsIn K S).isSome = true := h2
    rw [h2', h3] <;> rfl
  show (if _ = true then (if _ = true then _ else none) else none) = some true
  rw [if_pos e1, if_pos e2]
  exact h4
theorem all_mk {P : Program} {w : World} {K : PySem.W.Frag} {h : Heap} {mg : Str → Option Value} {fa : Addr} (X : K.In h) (G : h.Ns mainGlobals mg) (hfa : mg "law" = some (.ref fa))
    {bn bs be bt tl cl ni nm en me fI : Addr} {tm : Tok} {nm0 q0 : Str} {N0 : Addr} {bs0 bm0 : List Value} {sn0 : List Str} {sub0 : List Value} {ab0 : Bool} {col0 : Option Bool} {dd0 : Option Addr} {e0 e1 e2 e3 e5 : Option Value}
    (g_bn : PySem.W.nsIn K mainGlobals "BadNumber" = some (some (.ref bn)))
    (g_bs : PySem.W.nsIn K mainGlobals "BadShape" = some (some (.ref bs)))
    (g_be : PySem.W.nsIn K mainGlobals "BadElement" = some (some (.ref be)))
    (g_bt : PySem.W.nsIn K mainGlobals "BadText" = some (some (.ref bt)))
    (g_tl : PySem.W.nsIn K mainGlobals "TooLarge" = some (some (.ref tl)))
    (g_cl : PySem.W.nsIn K mainGlobals "Clash" = some (some (.ref cl)))
    (g_ni : PySem.W.nsIn K mainGlobals "NoInverse" = some (some (.ref ni)))
    (g_nm : PySem.W.nsIn K mainGlobals "NotMade" = some (some (.ref nm)))
    (g_en : PySem.W.nsIn K mainGlobals "Ended" = some (some (.ref en)))
    (g_me : PySem.W.nsIn K mainGlobals "MendError" = some (some (.ref me)))
    (g_MOST : PySem.W.nsIn K mainGlobals "MOST" = some (some (.int 12 tm)))
    (z_type : PySem.W.nsIn K mainGlobals "type" = some none)
    (z_int : PySem.W.nsIn K mainGlobals "int" = some none)
    (z_len : PySem.W.nsIn K mainGlobals "len" = some none)
    (z_list : PySem.W.nsIn K mainGlobals "list" = some none)
    (z_abs : PySem.W.nsIn K mainGlobals "abs" = some none)
    (z_range : PySem.W.nsIn K mainGlobals "range" = some none)
    (z_isinstance : PySem.W.nsIn K mainGlobals "isinstance" = some none)
    (z_bool : PySem.W.nsIn K mainGlobals "bool" = some none)
    (z_str : PySem.W.nsIn K mainGlobals "str" = some none)
    (z_tuple : PySem.W.nsIn K mainGlobals "tuple" = some none)
    (z_ValueError : PySem.W.nsIn K mainGlobals "ValueError" = some none)
    (z_zip : PySem.W.nsIn K mainGlobals "zip" = some none)
    (z_reversed : PySem.W.nsIn K mainGlobals "reversed" = some none)
    (xL : K.lookup bn = some (excClassObj nm0 q0 bn N0 bs0 bm0 true sn0 sub0 ab0 col0 dd0 e0 e1 e2 e3 e5 "ValueError.__new__")) (xR : PySem.HandSPX.refsVE bm0 = true)
    (sa : PySem.W.findIn K (.ref bn) "__setattr__" = some (some (.builtin "object.__setattr__"))) (exC : PySem.W.subIn K (.ref bn) (.type "BaseException") = some true) (tyC : PySem.W.typeIn K (.ref bn) = some (.type "type")) (kC : PySem.W.keepIn K (.ref bn) = true)
    (ic : (PySem.W.clsIn K bn).isSome = true) (ga : PySem.W.findIn K (.ref bn) "__getattribute__" = some (some (.builtin "BaseException.__getattribute__"))) (gg : PySem.W.findIn K (.ref bn) "__getattr__" = some none) (hd : PySem.W.hasDictIn K bn = true) (ca : PySem.W.findIn K (.ref bn) "__class__" = some (some (.builtin "object.__class__"))) (cn : PySem.W.specialIn K (.builtin "object.__class__") "__get__" = some (some (.builtin "getset_descriptor.__get__"))) (ct : PySem.W.takesIn K (.builtin "object.__class__") = some true) (cm : PySem.W.mroIn K bn (.type "object") = some true)
    (noA : PySem.W.findIn K (.ref bn) "argument" = some none)
    (q_bn : PySem.W.kitOne K (.ref bn) (.ref bn) = some true)
    (q_bs : PySem.W.kitOne K (.ref bn) (.ref bs) = some false)
    (q_be : PySem.W.kitOne K (.ref bn) (.ref be) = some false)
    (q_bt : PySem.W.kitOne K (.ref bn) (.ref bt) = some false)
    (q_tl : PySem.W.kitOne K (.ref bn) (.ref tl) = some false)
    (q_cl : PySem.W.kitOne K (.ref bn) (.ref cl) = some false)
    (q_ni : PySem.W.kitOne K (.ref bn) (.ref ni) = some false)
    (q_nm : PySem.W.kitOne K (.ref bn) (.ref nm) = some false)
    (q_en : PySem.W.kitOne K (.ref bn) (.ref en) = some false)
    (q_me : PySem.W.kitOne K (.ref bn) (.ref me) = some true)
    (q_ve : PySem.W.kitOne K (.ref bn) (.type "ValueError") = some true)
    (x1 : PySem.W.subIn K (.ref me) (.type "BaseException") = some true) (x2 : PySem.W.isClsIn K me = true) (x3 : PySem.W.typeIn K (.ref me) = some (.type "type")) (x4 : PySem.W.subIn K (.ref bn) (.ref me) = some true)
    (i1 : PySem.W.findIn K (.ref bn) "__init__" = some (some (.ref fI))) (i2 : PySem.W.typeIn K (.ref fI) = some (.type "function")) (i3 : ∃ fd, Fun K "__init__" "BadNumber.__init__" s_BadNumber___init__ fI fd)
    (D_is_whole : Dn K "is_whole" s_is_whole)
    (D_check_number : Dn K "check_number" s_check_number)
    (D_unit_row : Dn K "unit_row" s_unit_row)
    (D_columns_of : Dn K "columns_of" s_columns_of)
    (D_join_rows : Dn K "join_rows" s_join_rows)
    (D_check_ring : Dn K "check_ring" s_check_ring)
    (D_ring_matrix : Dn K "ring_matrix" s_ring_matrix)
    (D_ring_checks : Dn K "ring_checks" s_ring_checks)
    (D_ring_trail : Dn K "ring_trail" s_ring_trail)
    (D__law_mixed : Dn K "_law_mixed" s_law_mixed)
    (D__law_store : Dn K "_law_store" s_law_store)
    (D__law_take : Dn K "_law_take" s_law_take)
    (D__law_edge : Dn K "_law_edge" s_law_edge)
    (D__law_pick : Dn K "_law_pick" s_law_pick)
    (D__law_same : Dn K "_law_same" s_law_same)
    (D__law_copy : Dn K "_law_copy" s_law_copy)
    (D__law_lists : Dn K "_law_lists" s_law_lists)
    (D__law_apart : Dn K "_law_apart" s_law_apart)
    (D__law_not_number : Dn K "_law_not_number" s_law_not_number)
    (D__law_kind : Dn K "_law_kind" s_law_kind)
    (D__law_unit : Dn K "_law_unit" s_law_unit)
    (D__law_ask : Dn K "_law_ask" s_law_ask)
    (D__law_steps : Dn K "_law_steps" s_law_steps)
    (D__law_columns_of : Dn K "_law_columns_of" s_law_columns_of)
    (D__law_back : Dn K "_law_back" s_law_back)
    (D__law_walked : Dn K "_law_walked" s_law_walked)
    (D__law_spoils : Dn K "_law_spoils" s_law_spoils)
    (D__law_refused : Dn K "_law_refused" s_law_refused)
    (D_law : Dn K "law" s_law)
    : ∃ fd : FuncData, (∀ (s : Shared) (v : Value), BindsTo s fd ⟨[v], []⟩ [("script", v)]) ∧ ∀ base : Heap, K.In base → base.Ns mainGlobals mg → FnOk P w K mg base CX0 35 fa fd ["script"] (sp_law K) := by
  obtain ⟨f_law, fd_law, g_law, F_law⟩ := D_law
  have m_law := PySem.W.mg_of X G g_law
  cases hfa.symm.trans m_law
  let AD : Ad := ⟨bn, bs, be, bt, tl, cl, ni, nm, en, me⟩
  have T0 : Txt K mg := ⟨PySem.W.mg_none_of X G z_type, PySem.W.mg_none_of X G z_int, PySem.W.mg_none_of X G z_len, PySem.W.mg_none_of X G z_list, PySem.W.mg_none_of X G z_abs, PySem.W.mg_none_of X G z_range⟩
  have T3 : Txt3 K mg := { toTxt := T0, m_isinstance := PySem.W.mg_none_of X G z_isinstance, m_bool := PySem.W.mg_none_of X G z_bool, m_str := PySem.W.mg_none_of X G z_str, m_tuple := PySem.W.mg_none_of X G z_tuple }
  have TE : TxtE K mg AD := { toTxt3 := T3, m_ValueError := PySem.W.mg_none_of X G z_ValueError, g_BadNumber := PySem.W.mg_of X G g_bn, g_BadShape := PySem.W.mg_of X G g_bs, g_BadElement := PySem.W.mg_of X G g_be, g_BadText := PySem.W.mg_of X G g_bt, g_TooLarge := PySem.W.mg_of X G g_tl, g_Clash := PySem.W.mg_of X G g_cl, g_NoInverse := PySem.W.mg_of X G g_ni, g_NotMade := PySem.W.mg_of X G g_nm, g_Ended := PySem.W.mg_of X G g_en, g_MendError := PySem.W.mg_of X G g_me }
  have T : TxtC K mg AD tm := { toTxtB := { toTxtE := TE, g_MOST := PySem.W.mg_of X G g_MOST }, m_zip := PySem.W.mg_none_of X G z_zip, m_reversed := PySem.W.mg_none_of X G z_reversed }
  have OX : OexC K bn := { cls := ⟨nm0, q0, N0, bs0, bm0, sn0, sub0, ab0, col0, dd0, e0, e1, e2, e3, e5, xL, xR⟩, sa := sa, exC := exC, tyC := tyC, kC := kC }
  have B : BnOk K AD := { xc := { ic := ic, ga := ga, gg := gg, exC := exC, hd := hd, ca := ca, cn := cn, ct := ct, cm := cm }, no := noA, kk := { bn := q_bn, bs := q_bs, be := q_be, bt := q_bt, tl := q_tl, cl := q_cl, ni := q_ni, nm := q_nm, en := q_en, me := q_me, ve := q_ve }, ex := exm_sub x1 x2 x3 x4 }
  obtain ⟨fdI, F_I⟩ := i3
  have b_I := F_I.binds (ps := ["self", "argument"]) fun _ _ _ _ _ _ us hl => match us, hl with | [_, _], _ => rfl
  obtain ⟨f_is_whole, fd_is_whole, g_is_whole, F_is_whole⟩ := D_is_whole
  have m_is_whole := PySem.W.mg_of X G g_is_whole
  have b_is_whole := F_is_whole.binds (ps := ["value", "low", "high"]) fun _ _ _ _ _ _ us hl => match us, hl with | [_, _, _], _ => rfl
  obtain ⟨f_check_number, fd_check_number, g_check_number, F_check_number⟩ := D_check_number
  have m_check_number := PySem.W.mg_of X G g_check_number
  have b_check_number := F_check_number.binds (ps := ["value", "low", "high", "argument"]) fun _ _ _ _ _ _ us hl => match us, hl with | [_, _, _, _], _ => rfl
  obtain ⟨f_unit_row, fd_unit_row, g_unit_row, F_unit_row⟩ := D_unit_row
  have m_unit_row := PySem.W.mg_of X G g_unit_row
  have b_unit_row := F_unit_row.binds (ps := ["size", "place"]) fun _ _ _ _ _ _ us hl => match us, hl with | [_, _], _ => rfl
  obtain ⟨f_columns_of, fd_columns_of, g_columns_of, F_columns_of⟩ := D_columns_of
  have m_columns_of := PySem.W.mg_of X G g_columns_of
  have b_columns_of := F_columns_of.binds (ps := ["width", "rows"]) fun _ _ _ _ _ _ us hl => match us, hl with | [_, _], _ => rfl
  obtain ⟨f_join_rows, fd_join_rows, g_join_rows, F_join_rows⟩ := D_join_rows
  have m_join_rows := PySem.W.mg_of X G g_join_rows
  have b_join_rows := F_join_rows.binds (ps := ["a", "b"]) fun _ _ _ _ _ _ us hl => match us, hl with | [_, _], _ => rfl
  obtain ⟨f_check_ring, fd_check_ring, g_check_ring, F_check_ring⟩ := D_check_ring
  have m_check_ring := PySem.W.mg_of X G g_check_ring
  have b_check_ring := F_check_ring.binds (ps := ["letters", "checks"]) fun _ _ _ _ _ _ us hl => match us, hl with | [_, _], _ => rfl
  obtain ⟨f_ring_matrix, fd_ring_matrix, g_ring_matrix, F_ring_matrix⟩ := D_ring_matrix
  have m_ring_matrix := PySem.W.mg_of X G g_ring_matrix
  have b_ring_matrix := F_ring_matrix.binds (ps := ["letters", "checks"]) fun _ _ _ _ _ _ us hl => match us, hl with | [_, _], _ => rfl
  obtain ⟨f_ring_checks, fd_ring_checks, g_ring_checks, F_ring_checks⟩ := D_ring_checks
  have m_ring_checks := PySem.W.mg_of X G g_ring_checks
  have b_ring_checks := F_ring_checks.binds (ps := ["letters", "checks"]) fun _ _ _ _ _ _ us hl => match us, hl with | [_, _], _ => rfl
  obtain ⟨f_ring_trail, fd_ring_trail, g_ring_trail, F_ring_trail⟩ := D_ring_trail
  have m_ring_trail := PySem.W.mg_of X G g_ring_trail
  have b_ring_trail := F_ring_trail.binds (ps := ["letters", "checks"]) fun _ _ _ _ _ _ us hl => match us, hl with | [_, _], _ => rfl
  obtain ⟨f__law_mixed, fd__law_mixed, g__law_mixed, F__law_mixed⟩ := D__law_mixed
  have m__law_mixed := PySem.W.mg_of X G g__law_mixed
  have b__law_mixed := F__law_mixed.binds (ps := ["number", "turn"]) fun _ _ _ _ _ _ us hl => match us, hl with | [_, _], _ => rfl
  obtain ⟨f__law_store, fd__law_store, g__law_store, F__law_store⟩ := D__law_store
  have m__law_store := PySem.W.mg_of X G g__law_store
  have b__law_store := F__law_store.binds (ps := ["script"]) fun _ _ _ _ _ _ us hl => match us, hl with | [_], _ => rfl
  obtain ⟨f__law_take, fd__law_take, g__law_take, F__law_take⟩ := D__law_take
  have m__law_take := PySem.W.mg_of X G g__law_take
  have b__law_take := F__law_take.binds (ps := ["store", "many"]) fun _ _ _ _ _ _ us hl => match us, hl with | [_, _], _ => rfl
  obtain ⟨f__law_edge, fd__law_edge, g__law_edge, F__law_edge⟩ := D__law_edge
  have m__law_edge := PySem.W.mg_of X G g__law_edge
  have b__law_edge := F__law_edge.binds (ps := ["store", "low", "high"]) fun _ _ _ _ _ _ us hl => match us, hl with | [_, _, _], _ => rfl
  obtain ⟨f__law_pick, fd__law_pick, g__law_pick, F__law_pick⟩ := D__law_pick
  have m__law_pick := PySem.W.mg_of X G g__law_pick
  have b__law_pick := F__law_pick.binds (ps := ["store", "choices"]) fun _ _ _ _ _ _ us hl => match us, hl with | [_, _], _ => rfl
  obtain ⟨f__law_same, fd__law_same, g__law_same, F__law_same⟩ := D__law_same
  have m__law_same := PySem.W.mg_of X G g__law_same
  have b__law_same := F__law_same.binds (ps := ["left", "right"]) fun _ _ _ _ _ _ us hl => match us, hl with | [_, _], _ => rfl
  obtain ⟨f__law_copy, fd__law_copy, g__law_copy, F__law_copy⟩ := D__law_copy
  have m__law_copy := PySem.W.mg_of X G g__law_copy
  have b__law_copy := F__law_copy.binds (ps := ["value"]) fun _ _ _ _ _ _ us hl => match us, hl with | [_], _ => rfl
  obtain ⟨f__law_lists, fd__law_lists, g__law_lists, F__law_lists⟩ := D__law_lists
  have m__law_lists := PySem.W.mg_of X G g__law_lists
  have b__law_lists := F__law_lists.binds (ps := ["value", "depth"]) fun _ _ _ _ _ _ us hl => match us, hl with | [_, _], _ => rfl
  obtain ⟨f__law_apart, fd__law_apart, g__law_apart, F__law_apart⟩ := D__law_apart
  have m__law_apart := PySem.W.mg_of X G g__law_apart
  have b__law_apart := F__law_apart.binds (ps := ["value"]) fun _ _ _ _ _ _ us hl => match us, hl with | [_], _ => rfl
  obtain ⟨f__law_not_number, fd__law_not_number, g__law_not_number, F__law_not_number⟩ := D__law_not_number
  have m__law_not_number := PySem.W.mg_of X G g__law_not_number
  have b__law_not_number := F__law_not_number.binds (ps := ["store", "low", "high"]) fun _ _ _ _ _ _ us hl => match us, hl with | [_, _, _], _ => rfl
  obtain ⟨f__law_kind, fd__law_kind, g__law_kind, F__law_kind⟩ := D__law_kind
  have m__law_kind := PySem.W.mg_of X G g__law_kind
  have b__law_kind := F__law_kind.binds (ps := ["error"]) fun _ _ _ _ _ _ us hl => match us, hl with | [_], _ => rfl
  obtain ⟨f__law_unit, fd__law_unit, g__law_unit, F__law_unit⟩ := D__law_unit
  have m__law_unit := PySem.W.mg_of X G g__law_unit
  have b__law_unit := F__law_unit.binds (ps := ["width", "at"]) fun _ _ _ _ _ _ us hl => match us, hl with | [_, _], _ => rfl
  obtain ⟨f__law_ask, fd__law_ask, g__law_ask, F__law_ask⟩ := D__law_ask
  have m__law_ask := PySem.W.mg_of X G g__law_ask
  have b__law_ask := F__law_ask.binds (ps := ["word", "letters", "checks"]) fun _ _ _ _ _ _ us hl => match us, hl with | [_, _, _], _ => rfl
  obtain ⟨f__law_steps, fd__law_steps, g__law_steps, F__law_steps⟩ := D__law_steps
  have m__law_steps := PySem.W.mg_of X G g__law_steps
  have b__law_steps := F__law_steps.binds (ps := ["letters", "checks"]) fun _ _ _ _ _ _ us hl => match us, hl with | [_, _], _ => rfl
  obtain ⟨f__law_columns_of, fd__law_columns_of, g__law_columns_of, F__law_columns_of⟩ := D__law_columns_of
  have m__law_columns_of := PySem.W.mg_of X G g__law_columns_of
  have b__law_columns_of := F__law_columns_of.binds (ps := ["width", "rows"]) fun _ _ _ _ _ _ us hl => match us, hl with | [_, _], _ => rfl
  obtain ⟨f__law_back, fd__law_back, g__law_back, F__law_back⟩ := D__law_back
  have m__law_back := PySem.W.mg_of X G g__law_back
  have b__law_back := F__law_back.binds (ps := ["steps"]) fun _ _ _ _ _ _ us hl => match us, hl with | [_], _ => rfl
  obtain ⟨f__law_walked, fd__law_walked, g__law_walked, F__law_walked⟩ := D__law_walked
  have m__law_walked := PySem.W.mg_of X G g__law_walked
  have b__law_walked := F__law_walked.binds (ps := ["letters", "checks"]) fun _ _ _ _ _ _ us hl => match us, hl with | [_, _], _ => rfl
  obtain ⟨f__law_spoils, fd__law_spoils, g__law_spoils, F__law_spoils⟩ := D__law_spoils
  have m__law_spoils := PySem.W.mg_of X G g__law_spoils
  have b__law_spoils := F__law_spoils.binds (ps := ["letters", "checks"]) fun _ _ _ _ _ _ us hl => match us, hl with | [_, _], _ => rfl
  obtain ⟨f__law_refused, fd__law_refused, g__law_refused, F__law_refused⟩ := D__law_refused
  have m__law_refused := PySem.W.mg_of X G g__law_refused
  have b__law_refused := F__law_refused.binds (ps := ["store", "letters", "checks"]) fun _ _ _ _ _ _ us hl => match us, hl with | [_, _, _], _ => rfl
  have bL : ∀ (s : Shared) (v : Value), BindsTo s fd_law ⟨[v], []⟩ [("script", v)] := by
    obtain ⟨oc, od, kV, doc, pm, an, cdv, ct, osl, rfl, lk, hcd⟩ := F_law.ex
    exact fun s v => .of_eq rfl
  refine ⟨fd_law, bL, fun base _ _ => ?_⟩
  have EB : ErrK P w K mg base "BadNumber" bn := { gC := PySem.W.mg_of X G g_bn, oex := OX, noA := noA, ini := ⟨fI, fdI, i1, i2, ok_init F_I OX noA, b_I⟩ }
  have C_is_whole : Cal P w K mg base "is_whole" 1 ["value", "low", "high"] sp_is_whole := ⟨f_is_whole, fd_is_whole, ok_is_whole F_is_whole T0, m_is_whole, F_is_whole.kp, b_is_whole⟩
  have C_check_number : CalX P w K mg base "check_number" 3 ["value", "low", "high", "argument"] (sp_check_number bn) := ⟨f_check_number, fd_check_number, ok_check_number (A := AD) F_check_number C_is_whole EB, m_check_number, F_check_number.kp, b_check_number⟩
  have C_unit_row : Cal P w K mg base "unit_row" 1 ["size", "place"] sp_unit_row := ⟨f_unit_row, fd_unit_row, ok_unit_row F_unit_row T, m_unit_row, F_unit_row.kp, b_unit_row⟩
  have C_columns_of : Cal P w K mg base "columns_of" 1 ["width", "rows"] (sp_columns_of K) := ⟨f_columns_of, fd_columns_of, ok_columns_of F_columns_of T, m_columns_of, F_columns_of.kp, b_columns_of⟩
  have C_join_rows : Cal P w K mg base "join_rows" 1 ["a", "b"] (sp_join_rows K) := ⟨f_join_rows, fd_join_rows, ok_join_rows F_join_rows T, m_join_rows, F_join_rows.kp, b_join_rows⟩
  have C_check_ring : CalX P w K mg base "check_ring" 4 ["letters", "checks"] (sp_check_ring bn) := ⟨f_check_ring, fd_check_ring, ok_check_ring (A := AD) F_check_ring T.toTxtB C_check_number, m_check_ring, F_check_ring.kp, b_check_ring⟩
  have C_ring_matrix : Cal P w K mg base "ring_matrix" 31 ["letters", "checks"] (sp_ring 30) := ⟨f_ring_matrix, fd_ring_matrix, ok_ring F_ring_matrix T m_ring_matrix b_ring_matrix C_unit_row C_join_rows C_columns_of 30, m_ring_matrix, F_ring_matrix.kp, b_ring_matrix⟩
  have C_ring_checks : CalX P w K mg base "ring_checks" 32 ["letters", "checks"] (sp_ring_checks bn) := ⟨f_ring_checks, fd_ring_checks, ok_ring_checks (A := AD) F_ring_checks T C_check_ring C_ring_matrix, m_ring_checks, F_ring_checks.kp, b_ring_checks⟩
  have C_ring_trail : CalX P w K mg base "ring_trail" 5 ["letters", "checks"] (sp_ring_trail bn) := ⟨f_ring_trail, fd_ring_trail, ok_ring_trail (A := AD) F_ring_trail T C_check_ring, m_ring_trail, F_ring_trail.kp, b_ring_trail⟩
  have C__law_mixed : Cal P w K mg base "_law_mixed" 1 ["number", "turn"] sp_mixed := ⟨f__law_mixed, fd__law_mixed, ok_mixed F__law_mixed T0, m__law_mixed, F__law_mixed.kp, b__law_mixed⟩
  have C__law_store : Cal P w K mg base "_law_store" 1 ["script"] (sp_store K) := ⟨f__law_store, fd__law_store, ok_store F__law_store T0, m__law_store, F__law_store.kp, b__law_store⟩
  have C__law_take : Cal P w K mg base "_law_take" 2 ["store", "many"] sp_take := ⟨f__law_take, fd__law_take, ok_take F__law_take T0 C__law_mixed, m__law_take, F__law_take.kp, b__law_take⟩
  have C__law_edge : Cal P w K mg base "_law_edge" 3 ["store", "low", "high"] sp_edge := ⟨f__law_edge, fd__law_edge, ok_edge F__law_edge T0 C__law_take, m__law_edge, F__law_edge.kp, b__law_edge⟩
  have C__law_pick : Cal P w K mg base "_law_pick" 3 ["store", "choices"] sp_pick := ⟨f__law_pick, fd__law_pick, ok_pick F__law_pick T0 C__law_take, m__law_pick, F__law_pick.kp, b__law_pick⟩
  have C__law_same : Cal P w K mg base "_law_same" 5 ["left", "right"] (sp_same 4) := ⟨f__law_same, fd__law_same, ok_same F__law_same T.toTxtB.toTxtE.toTxt3 m__law_same b__law_same 4, m__law_same, F__law_same.kp, b__law_same⟩
  have C__law_copy : Cal P w K mg base "_law_copy" 5 ["value"] (sp_copy 4) := ⟨f__law_copy, fd__law_copy, ok_copy F__law_copy T m__law_copy b__law_copy 4, m__law_copy, F__law_copy.kp, b__law_copy⟩
  have C__law_lists : Cal P w K mg base "_law_lists" 5 ["value", "depth"] (sp_lists 4) := ⟨f__law_lists, fd__law_lists, ok_lists F__law_lists T m__law_lists b__law_lists 4, m__law_lists, F__law_lists.kp, b__law_lists⟩
  have C__law_apart : Cal P w K mg base "_law_apart" 6 ["value"] sp_apart := ⟨f__law_apart, fd__law_apart, ok_apart F__law_apart T C__law_lists, m__law_apart, F__law_apart.kp, b__law_apart⟩
  have C__law_not_number : Cal P w K mg base "_law_not_number" 3 ["store", "low", "high"] sp_notnum := ⟨f__law_not_number, fd__law_not_number, ok_not_number F__law_not_number T C__law_take, m__law_not_number, F__law_not_number.kp, b__law_not_number⟩
  have C__law_kind : CalE P w K mg base "_law_kind" 1 ["error"] (sp_kind K AD) := ⟨f__law_kind, fd__law_kind, ok_kind F__law_kind T.toTxtB.toTxtE, m__law_kind, F__law_kind.kp, b__law_kind⟩
  have C__law_unit : Cal P w K mg base "_law_unit" 1 ["width", "at"] sp_unit_row := ⟨f__law_unit, fd__law_unit, ok_law_unit F__law_unit T, m__law_unit, F__law_unit.kp, b__law_unit⟩
  have C__law_ask : Cal P w K mg base "_law_ask" 33 ["word", "letters", "checks"] sp_ask := ⟨f__law_ask, fd__law_ask, ok_law_ask F__law_ask T B C_ring_trail C_ring_checks C__law_kind, m__law_ask, F__law_ask.kp, b__law_ask⟩
  have C__law_steps : Cal P w K mg base "_law_steps" 1 ["letters", "checks"] sp_steps := ⟨f__law_steps, fd__law_steps, ok_steps F__law_steps T, m__law_steps, F__law_steps.kp, b__law_steps⟩
  have C__law_columns_of : Cal P w K mg base "_law_columns_of" 1 ["width", "rows"] (sp_columns_of K) := ⟨f__law_columns_of, fd__law_columns_of, ok_law_columns_of F__law_columns_of T, m__law_columns_of, F__law_columns_of.kp, b__law_columns_of⟩
  have C__law_back : Cal P w K mg base "_law_back" 2 ["steps"] sp_back := ⟨f__law_back, fd__law_back, ok_back F__law_back T C__law_unit C__law_columns_of, m__law_back, F__law_back.kp, b__law_back⟩
  have C__law_walked : Cal P w K mg base "_law_walked" 34 ["letters", "checks"] sp_walked := ⟨f__law_walked, fd__law_walked, ok_walked F__law_walked T C__law_steps C__law_same C__law_ask C__law_back, m__law_walked, F__law_walked.kp, b__law_walked⟩
  have C__law_spoils : Cal P w K mg base "_law_spoils" 34 ["letters", "checks"] sp_spoils := ⟨f__law_spoils, fd__law_spoils, ok_spoils F__law_spoils T C__law_steps C__law_same C__law_ask C__law_copy C__law_columns_of C__law_apart, m__law_spoils, F__law_spoils.kp, b__law_spoils⟩
  have C__law_refused : Cal P w K mg base "_law_refused" 34 ["store", "letters", "checks"] sp_refused := ⟨f__law_refused, fd__law_refused, ok_refused F__law_refused T C__law_same C__law_ask C__law_not_number C__law_pick, m__law_refused, F__law_refused.kp, b__law_refused⟩
  exact ok_law F_law T C__law_store C__law_pick C__law_edge C__law_walked C__law_spoils C__law_refused
end Mt

open PySem PySem.W PyProof.Rows
set_option maxHeartbeats 0 in
theorem PySem.Challenge.cw_mendsontime_k24_ring_matrix_and_trail_holds : PySem.Challenge.rw_mendsontime_k24_ring_matrix_and_trail.Holds := by
  w_on; o_law; k_head; (case hw => w_witness2)
  k_fill
  refine L2.walk_of (l := PySem.Challenge.rw_mendsontime_k24_ring_matrix_and_trail) (n := 63) (k := 35) (x := "script") (CX := fun _ => L2.CX0) (sp := fun w => Mt.sp_law _) rfl (by decide) rfl ⟨rfl, by decide, by decide⟩ (fun w h Y => PySem.W.kIn_of Y) ?F (fun _ _ a ns hl _ hS => ⟨a, ns, rfl, hS, hl, fun _ _ => rfl⟩) (fun _ _ _ _ _ h => h)
  case F =>
    intro w mg fa h KX G hmg
    refine' Mt.all_mk KX G hmg ?g_bn ?g_bs ?g_be ?g_bt ?g_tl ?g_cl ?g_ni ?g_nm ?g_en ?g_me ?g_MOST ?z_type ?z_int ?z_len ?z_list ?z_abs ?z_range ?z_isinstance ?z_bool ?z_str ?z_tuple ?z_ValueError ?z_zip ?z_reversed ?xL ?xR ?sa ?exC ?tyC ?kC ?ic ?ga ?gg ?hd ?ca ?cn ?ct ?cm ?noA ?q_bn ?q_bs ?q_be ?q_bt ?q_tl ?q_cl ?q_ni ?q_nm ?q_en ?q_me ?q_ve ?x1 ?x2 ?x3 ?x4 ?i1 ?i2 ?i3 ?D_is_whole ?D_check_number ?D_unit_row ?D_columns_of ?D_join_rows ?D_check_ring ?D_ring_matrix ?D_ring_checks ?D_ring_trail ?D__law_mixed ?D__law_store ?D__law_take ?D__law_edge ?D__law_pick ?D__law_same ?D__law_copy ?D__law_lists ?D__law_apart ?D__law_not_number ?D__law_kind ?D__law_unit ?D__law_ask ?D__law_steps ?D__law_columns_of ?D__law_back ?D__law_walked ?D__law_spoils ?D__law_refused ?D_law
    case g_bn => first | k_is | rfl
    case g_bs => first | k_is | rfl
    case g_be => first | k_is | rfl
    case g_bt => first | k_is | rfl
    case g_tl => first | k_is | rfl
    case g_cl => first | k_is | rfl
    case g_ni => first | k_is | rfl
    case g_nm => first | k_is | rfl
    case g_en => first | k_is | rfl
    case g_me => first | k_is | rfl
    case g_MOST => first | k_is | rfl
    case z_type => first | k_is | rfl
    case z_int => first | k_is | rfl
    case z_len => first | k_is | rfl
    case z_list => first | k_is | rfl
    case z_abs => first | k_is | rfl
    case z_range => first | k_is | rfl
    case z_isinstance => first | k_is | rfl
    case z_bool => first | k_is | rfl
    case z_str => first | k_is | rfl
    case z_tuple => first | k_is | rfl
    case z_ValueError => first | k_is | rfl
    case z_zip => first | k_is | rfl
    case z_reversed => first | k_is | rfl
    case xL => first | k_is | rfl
    case xR => first | k_is | rfl
    case sa => first | k_is | rfl
    case exC => first | k_is | rfl
    case tyC => first | k_is | rfl
    case kC => first | k_is | rfl
    case ic => first | k_is | rfl
    case ga => first | k_is | rfl
    case gg => first | k_is | rfl
    case hd => first | k_is | rfl
    case ca => first | k_is | rfl
    case cn => first | k_is | rfl
    case ct => first | k_is | rfl
    case cm => first | k_is | rfl
    case noA => first | k_is | rfl
    case q_bn => first | k_is | rfl
    case q_bs => first | k_is | rfl
    case q_be => first | k_is | rfl
    case q_bt => first | k_is | rfl
    case q_tl => first | k_is | rfl
    case q_cl => first | k_is | rfl
    case q_ni => first | k_is | rfl
    case q_nm => first | k_is | rfl
    case q_en => first | k_is | rfl
    case q_me => first | k_is | rfl
    case q_ve => first | k_is | rfl
    case x1 => first | k_is | rfl
    case x2 => first | k_is | rfl
    case x3 => first | k_is | rfl
    case x4 => first | k_is | rfl
    case i1 => first | k_is | rfl
    case i2 => first | k_is | rfl
    case i3 => (refine' ⟨_, L2.fun_mk ?l ?c ?k⟩; (case l => k_is); (case c => k_is); (case k => k_is))
    case D_is_whole => (refine' ⟨_, _, ?a, L2.fun_mk ?l ?c ?k⟩; (case a => k_is); (case l => k_is); (case c => k_is); (case k => k_is))
    case D_check_number => (refine' ⟨_, _, ?a, L2.fun_mk ?l ?c ?k⟩; (case a => k_is); (case l => k_is); (case c => k_is); (case k => k_is))
    case D_unit_row => (refine' ⟨_, _, ?a, L2.fun_mk ?l ?c ?k⟩; (case a => k_is); (case l => k_is); (case c => k_is); (case k => k_is))
    case D_columns_of => (refine' ⟨_, _, ?a, L2.fun_mk ?l ?c ?k⟩; (case a => k_is); (case l => k_is); (case c => k_is); (case k => k_is))
    case D_join_rows => (refine' ⟨_, _, ?a, L2.fun_mk ?l ?c ?k⟩; (case a => k_is); (case l => k_is); (case c => k_is); (case k => k_is))
    case D_check_ring => (refine' ⟨_, _, ?a, L2.fun_mk ?l ?c ?k⟩; (case a => k_is); (case l => k_is); (case c => k_is); (case k => k_is))
    case D_ring_matrix => (refine' ⟨_, _, ?a, L2.fun_mk ?l ?c ?k⟩; (case a => k_is); (case l => k_is); (case c => k_is); (case k => k_is))
    case D_ring_checks => (refine' ⟨_, _, ?a, L2.fun_mk ?l ?c ?k⟩; (case a => k_is); (case l => k_is); (case c => k_is); (case k => k_is))
    case D_ring_trail => (refine' ⟨_, _, ?a, L2.fun_mk ?l ?c ?k⟩; (case a => k_is); (case l => k_is); (case c => k_is); (case k => k_is))
    case D__law_mixed => (refine' ⟨_, _, ?a, L2.fun_mk ?l ?c ?k⟩; (case a => k_is); (case l => k_is); (case c => k_is); (case k => k_is))
    case D__law_store => (refine' ⟨_, _, ?a, L2.fun_mk ?l ?c ?k⟩; (case a => k_is); (case l => k_is); (case c => k_is); (case k => k_is))
    case D__law_take => (refine' ⟨_, _, ?a, L2.fun_mk ?l ?c ?k⟩; (case a => k_is); (case l => k_is); (case c => k_is); (case k => k_is))
    case D__law_edge => (refine' ⟨_, _, ?a, L2.fun_mk ?l ?c ?k⟩; (case a => k_is); (case l => k_is); (case c => k_is); (case k => k_is))
    case D__law_pick => (refine' ⟨_, _, ?a, L2.fun_mk ?l ?c ?k⟩; (case a => k_is); (case l => k_is); (case c => k_is); (case k => k_is))
    case D__law_same => (refine' ⟨_, _, ?a, L2.fun_mk ?l ?c ?k⟩; (case a => k_is); (case l => k_is); (case c => k_is); (case k => k_is))
    case D__law_copy => (refine' ⟨_, _, ?a, L2.fun_mk ?l ?c ?k⟩; (case a => k_is); (case l => k_is); (case c => k_is); (case k => k_is))
    case D__law_lists => (refine' ⟨_, _, ?a, L2.fun_mk ?l ?c ?k⟩; (case a => k_is); (case l => k_is); (case c => k_is); (case k => k_is))
    case D__law_apart => (refine' ⟨_, _, ?a, L2.fun_mk ?l ?c ?k⟩; (case a => k_is); (case l => k_is); (case c => k_is); (case k => k_is))
    case D__law_not_number => (refine' ⟨_, _, ?a, L2.fun_mk ?l ?c ?k⟩; (case a => k_is); (case l => k_is); (case c => k_is); (case k => k_is))
    case D__law_kind => (refine' ⟨_, _, ?a, L2.fun_mk ?l ?c ?k⟩; (case a => k_is); (case l => k_is); (case c => k_is); (case k => k_is))
    case D__law_unit => (refine' ⟨_, _, ?a, L2.fun_mk ?l ?c ?k⟩; (case a => k_is); (case l => k_is); (case c => k_is); (case k => k_is))
    case D__law_ask => (refine' ⟨_, _, ?a, L2.fun_mk ?l ?c ?k⟩; (case a => k_is); (case l => k_is); (case c => k_is); (case k => k_is))
    case D__law_steps => (refine' ⟨_, _, ?a, L2.fun_mk ?l ?c ?k⟩; (case a => k_is); (case l => k_is); (case c => k_is); (case k => k_is))
    case D__law_columns_of => (refine' ⟨_, _, ?a, L2.fun_mk ?l ?c ?k⟩; (case a => k_is); (case l => k_is); (case c => k_is); (case k => k_is))
    case D__law_back => (refine' ⟨_, _, ?a, L2.fun_mk ?l ?c ?k⟩; (case a => k_is); (case l => k_is); (case c => k_is); (case k => k_is))
    case D__law_walked => (refine' ⟨_, _, ?a, L2.fun_mk ?l ?c ?k⟩; (case a => k_is); (case l => k_is); (case c => k_is); (case k => k_is))
    case D__law_spoils => (refine' ⟨_, _, ?a, L2.fun_mk ?l ?c ?k⟩; (case a => k_is); (case l => k_is); (case c => k_is); (case k => k_is))
    case D__law_refused => (refine' ⟨_, _, ?a, L2.fun_mk ?l ?c ?k⟩; (case a => k_is); (case l => k_is); (case c => k_is); (case k => k_is))
    case D_law => (refine' ⟨_, _, ?a, L2.fun_mk ?l ?c ?k⟩; (case a => k_is); (case l => k_is); (case c => k_is); (case k => k_is))

